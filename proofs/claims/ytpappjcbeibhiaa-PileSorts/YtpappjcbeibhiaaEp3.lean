import Derived.Test.YtpappjcbeibhiaaEp2
namespace Go.Proofs.Ytpappjcbeibhiaa
namespace Ehp
open Go.RowKit Laws Irw Erw
open Hp (swp swp_length swp_perm Ord Heapy Up Dn fore fore1 fore_lt fore_ge goes_drew goes_drewN above_any below_drewN)
set_option linter.unusedVariables false
set_option maxRecDepth 100000
set_option linter.unusedSimpArgs false

set_option maxHeartbeats 2000000 in
theorem foremostE_any (w : World) (h B : Nat) (o : Bool) (hd : DirE w h B o) (gl n c k : Nat) (l : List En) (hr : ERow w gl 0 l) (hn : n = l.length) (hk : k < l.length) (hl : l.length ≤ 100000000000) :
    Calls Try.prog 28 #[.slice (some ⟨gl, 0, none⟩) n c, .int .i64 (k : Int), .func (.func 17) #[.pointer (some ⟨h, 0, none⟩)] #[]] w fun e w' => e = .returned (.int .i64 (fore (lessE o) ez l k : Nat)) ∧ Below w.heap.size w w' := by
  subst hn
  have HD : Hid (DirE w h B o) := hd
  have HR : Hid (ERow w gl 0 l) := hr
  have w1 : IntKind.i64.wrap (2 * (k : Int)) = 2 * (k : Int) := IntWalk.i64_in _ (by omega)
  have w2 : IntKind.i64.wrap (2 * (k : Int) + 1) = ((2 * k + 1 : Nat) : Int) := by rw [IntWalk.i64_in _ (by omega)]; omega
  have w3 : IntKind.i64.wrap (2 * (k : Int) + 2) = 2 * (k : Int) + 2 := IntWalk.i64_in _ (by omega)
  clear hd hr
  go_enter Try.func28, Try.ntmps28
  go_wp2
  go_loopw [7, 8] (fun bst bel wr => ∃ (b m : Nat), bst = .int .i64 (b : Int) ∧ bel = .int .i64 (m : Int) ∧ Hid (DirE wr h B o) ∧ Hid (ERow wr gl 0 l) ∧ Hid (Below w.heap.size w wr) ∧ Hid ((m = 2 * k + 1 ∧ b = k) ∨ (m = 2 * k + 2 ∧ b = fore1 (lessE o) ez l k ∧ 2 * k + 1 < l.length) ∨ (m = 2 * k + 3 ∧ b = fore (lessE o) ez l k ∧ 2 * k + 2 < l.length))) (fun _ bel _ => 2 * k + 4 - (intOf bel).toNat)
  case atStart => exact ⟨k, 2 * k + 1, rfl, by simp [w1, w2], HD, HR, Below.refl _ _, .inl ⟨rfl, rfl⟩⟩
  case round =>
    clear HD HR
    obtain ⟨b, m, rfl, rfl, HD, HR, HB, HI⟩ := hrel
    by_cases hgo : m ≤ 2 * k + 2 ∧ m < l.length
    case neg =>
      have HE : Hid (b = fore (lessE o) ez l k) := by
        rcases HI.out with ⟨h1, h2⟩ | ⟨h1, h2, h3⟩ | ⟨h1, h2, h3⟩
        · unfold fore fore1
          rw [if_neg (by omega), if_neg (by omega)]
          exact h2
        · unfold fore
          rw [if_neg (by omega)]
          exact h2
        · exact h2
      by_cases h2 : m ≤ 2 * k + 2
      · have d1 : (m : Int) ≤ 2 * (k : Int) + 2 := by omega
        have d2 : ¬ (m : Int) < (l.length : Int) := by omega
        have d3 : decide ((m : Int) ≤ 2 * (k : Int) + 2) = true := decide_eq_true d1
        have d4 : decide ((m : Int) < (l.length : Int)) = false := decide_eq_false d2
        clear hgo h2 HI
        go_wp2
        go_ret
        exact ⟨by rw [HE.out]; rfl, HB.out⟩
      · have d1 : ¬ (m : Int) ≤ 2 * (k : Int) + 2 := by omega
        have d3 : decide ((m : Int) ≤ 2 * (k : Int) + 2) = false := decide_eq_false d1
        clear hgo h2 HI
        go_wp2
        go_ret
        exact ⟨by rw [HE.out]; rfl, HB.out⟩
    have hb : b < l.length := by
      rcases HI.out with ⟨h1, h2⟩ | ⟨h1, h2, h3⟩ | ⟨h1, h2, h3⟩
      · omega
      · rw [h2]; unfold fore1; split <;> omega
      · omega
    have d1 : (m : Int) ≤ 2 * (k : Int) + 2 := by omega
    have d2 : (m : Int) < (l.length : Int) := by omega
    have d3 : decide ((m : Int) ≤ 2 * (k : Int) + 2) = true := decide_eq_true d1
    have d4 : decide ((m : Int) < (l.length : Int)) = true := decide_eq_true d2
    have d5 : (b : Int) < (l.length : Int) := by omega
    have w4 : IntKind.i64.wrap ((m : Int) + 1) = (m : Int) + 1 := IntWalk.i64_in _ (by omega)
    obtain ⟨m0, m1, m2, m3⟩ := at0 HR.out hgo.2
    obtain ⟨b0, b1, b2, b3⟩ := at0 HR.out hb
    by_cases hlt : lessE o (l.getD m ez) (l.getD b ez) = true
    · have HI' : Hid ((m + 1 = 2 * k + 1 ∧ m = k) ∨ (m + 1 = 2 * k + 2 ∧ m = fore1 (lessE o) ez l k ∧ 2 * k + 1 < l.length) ∨ (m + 1 = 2 * k + 3 ∧ m = fore (lessE o) ez l k ∧ 2 * k + 2 < l.length)) := by
        rcases HI.out with ⟨h1, h2⟩ | ⟨h1, h2, h3⟩ | ⟨h1, h2, h3⟩
        · subst h1 h2
          exact .inr (.inl ⟨rfl, by unfold fore1; rw [if_pos ⟨hgo.2, hlt⟩], hgo.2⟩)
        · subst h1
          rw [h2] at hlt
          exact .inr (.inr ⟨rfl, by unfold fore; rw [if_pos ⟨hgo.2, hlt⟩], hgo.2⟩)
        · omega
      have HC : Hid (∀ W, DirE W h B o → Calls Try.prog 17 #[.pointer (some ⟨h, 0, none⟩), entV (l.getD m ez), entV (l.getD b ez)] W fun e w' => e = .returned (.bool true) ∧ Below W.heap.size W w') := fun W hW => by have z := aheadE_any W h B o (l.getD m ez) (l.getD b ez) hW; rw [hlt] at z; exact z
      have HDD : Hid (DirE wr.drew h B o) := HD.out.below ⟨rfl, rfl, rfl, Nat.le_refl _, fun _ _ => rfl⟩
      clear HI hlt
      generalize l.getD m ez = x at *
      generalize l.getD b ez = y at *
      unfold entV at HC
      go_wp2
      go_region_law (first
        | (go_simp; go_at_call 17; go_loud (refine (HC.out _ HDD.out).mono ?_; rintro e w9 ⟨rfl, hb9⟩; have HB9 : Hid (DirE w9 h B o ∧ ERow w9 gl 0 l ∧ Below w.heap.size w w9) := ⟨HDD.out.below hb9, HR.out.below ((Below.refl _ _).drew.trans hb9) HR.out.1, HB.out.trans (((Below.refl _ _).drew.trans hb9).mono HB.out.size)⟩; clear hb9)))
      all_goals go_wp2
      all_goals go_roundw
      all_goals first
        | exact ⟨m, m + 1, rfl, by go_num, HB9.out.1, HB9.out.2.1, HB9.out.2.2, HI'⟩
        | (simp [intOf]; omega)
    · have hlf : lessE o (l.getD m ez) (l.getD b ez) = false := by simpa using hlt
      have HI' : Hid ((m + 1 = 2 * k + 1 ∧ b = k) ∨ (m + 1 = 2 * k + 2 ∧ b = fore1 (lessE o) ez l k ∧ 2 * k + 1 < l.length) ∨ (m + 1 = 2 * k + 3 ∧ b = fore (lessE o) ez l k ∧ 2 * k + 2 < l.length)) := by
        rcases HI.out with ⟨h1, h2⟩ | ⟨h1, h2, h3⟩ | ⟨h1, h2, h3⟩
        · subst h1 h2
          exact .inr (.inl ⟨rfl, by unfold fore1; rw [if_neg (fun z => hlt z.2)], hgo.2⟩)
        · subst h1
          refine .inr (.inr ⟨rfl, ?_, hgo.2⟩)
          unfold fore
          rw [if_neg (fun z => hlt (by rw [h2]; exact z.2))]
          exact h2
        · omega
      have HC : Hid (∀ W, DirE W h B o → Calls Try.prog 17 #[.pointer (some ⟨h, 0, none⟩), entV (l.getD m ez), entV (l.getD b ez)] W fun e w' => e = .returned (.bool false) ∧ Below W.heap.size W w') := fun W hW => by have z := aheadE_any W h B o (l.getD m ez) (l.getD b ez) hW; rw [hlf] at z; exact z
      have HDD : Hid (DirE wr.drew h B o) := HD.out.below ⟨rfl, rfl, rfl, Nat.le_refl _, fun _ _ => rfl⟩
      clear HI hlt hlf
      generalize l.getD m ez = x at *
      generalize l.getD b ez = y at *
      unfold entV at HC
      go_wp2
      go_region_law (first
        | (go_simp; go_at_call 17; go_loud (refine (HC.out _ HDD.out).mono ?_; rintro e w9 ⟨rfl, hb9⟩; have HB9 : Hid (DirE w9 h B o ∧ ERow w9 gl 0 l ∧ Below w.heap.size w w9) := ⟨HDD.out.below hb9, HR.out.below ((Below.refl _ _).drew.trans hb9) HR.out.1, HB.out.trans (((Below.refl _ _).drew.trans hb9).mono HB.out.size)⟩; clear hb9)))
      all_goals go_wp2
      all_goals go_roundw
      all_goals first
        | exact ⟨b, m + 1, rfl, by go_num, HB9.out.1, HB9.out.2.1, HB9.out.2.2, HI'⟩
        | (simp [intOf]; omega)

end Ehp
end Go.Proofs.Ytpappjcbeibhiaa
