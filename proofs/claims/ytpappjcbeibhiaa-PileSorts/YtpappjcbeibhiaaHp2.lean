import Derived.Test.YtpappjcbeibhiaaHp1
namespace Go.Proofs.Ytpappjcbeibhiaa
namespace Hp
open Go.RowKit Laws Irw
set_option linter.unusedVariables false
set_option maxRecDepth 100000
set_option linter.unusedSimpArgs false

theorem below_drewN {B : Nat} {a w : World} (h : Below B a w) (n : Nat) : Below B a (w.drewN n) := h.trans ⟨rfl, rfl, rfl, Nat.le_refl _, fun _ _ => rfl⟩

theorem ahead_at {f : Int → Int → Int → Bool} {w : World} {h g B : Nat} {o : Int} (hL : Less g f) (hd : Dir w h g B o) :
    ∀ (a b : Int) (m : Nat), Calls Try.prog 24 #[.pointer (some ⟨h, 0, none⟩), .int .i64 a, .int .i64 b] (w.drewN m) fun e w' => e = .returned (.bool (f o a b)) ∧ ∃ q, w' = w.drewN q := by
  intro a b m
  refine (ahead_any (w.drewN m) h g B o a b hL ⟨hd.less, hd.cap⟩).mono ?_
  rintro e w' ⟨rfl, q, rfl⟩
  exact ⟨rfl, m + q, World.drewN_drewN ..⟩

set_option maxHeartbeats 2000000 in
theorem foremost_any {f : Int → Int → Int → Bool} (w : World) (h g B : Nat) (o : Int) (hL : Less g f) (hd : Dir w h g B o) (gl n c k : Nat) (l : List Int) (hr : IRow w gl 0 l) (hn : n = l.length) (hk : k < l.length) (hl : l.length ≤ 100000000000) :
    Calls Try.prog 31 #[.slice (some ⟨gl, 0, none⟩) n c, .int .i64 (k : Int), .func (.func 24) #[.pointer (some ⟨h, 0, none⟩)] #[]] w fun e w' => e = .returned (.int .i64 (fore (f o) 0 l k : Nat)) ∧ Below w.heap.size w w' := by
  subst hn
  have HL : Hid (Less g f) := hL
  have HD : Hid (Dir w h g B o) := hd
  have HR : Hid (IRow w gl 0 l) := hr
  have w1 : IntKind.i64.wrap (2 * (k : Int)) = 2 * (k : Int) := IntWalk.i64_in _ (by omega)
  have w2 : IntKind.i64.wrap (2 * (k : Int) + 1) = ((2 * k + 1 : Nat) : Int) := by rw [IntWalk.i64_in _ (by omega)]; omega
  have w3 : IntKind.i64.wrap (2 * (k : Int) + 2) = 2 * (k : Int) + 2 := IntWalk.i64_in _ (by omega)
  clear hL hd hr
  go_enter Try.func31, Try.ntmps31
  go_wp2
  go_loopw [7, 8] (fun bst bel wr => ∃ (b m : Nat), bst = .int .i64 (b : Int) ∧ bel = .int .i64 (m : Int) ∧ Hid (Dir wr h g B o) ∧ Hid (IRow wr gl 0 l) ∧ Hid (Below w.heap.size w wr) ∧ Hid ((m = 2 * k + 1 ∧ b = k) ∨ (m = 2 * k + 2 ∧ b = fore1 (f o) 0 l k ∧ 2 * k + 1 < l.length) ∨ (m = 2 * k + 3 ∧ b = fore (f o) 0 l k ∧ 2 * k + 2 < l.length))) (fun _ bel _ => 2 * k + 4 - (intOf bel).toNat)
  case atStart => exact ⟨k, 2 * k + 1, rfl, by simp [w1, w2], HD, HR, Below.refl _ _, .inl ⟨rfl, rfl⟩⟩
  case round =>
    clear HD HR
    obtain ⟨b, m, rfl, rfl, HD, HR, HB, HI⟩ := hrel
    have HA : Hid _ := ahead_at HL.out HD.out
    by_cases hgo : m ≤ 2 * k + 2 ∧ m < l.length
    case neg =>
      have HE : Hid (b = fore (f o) 0 l k) := by
        rcases HI.out with ⟨h1, h2⟩ | ⟨h1, h2, h3⟩ | ⟨h1, h2, h3⟩
        · unfold fore fore1
          rw [if_neg (by omega), if_neg (by omega)]
          exact h2
        · unfold fore
          rw [if_neg (by omega)]
          exact h2
        · exact h2
      by_cases h2 : m ≤ 2 * k + 2
      · have d1 : (m : Int) ≤ 2 * (k : Int) + 2 := by omega
        have d2 : ¬ (m : Int) < (l.length : Int) := by omega
        have d3 : decide ((m : Int) ≤ 2 * (k : Int) + 2) = true := decide_eq_true d1
        have d4 : decide ((m : Int) < (l.length : Int)) = false := decide_eq_false d2
        clear hgo h2 HI
        go_wp2
        go_ret
        exact ⟨by rw [HE.out]; rfl, HB.out⟩
      · have d1 : ¬ (m : Int) ≤ 2 * (k : Int) + 2 := by omega
        have d3 : decide ((m : Int) ≤ 2 * (k : Int) + 2) = false := decide_eq_false d1
        clear hgo h2 HI
        go_wp2
        go_ret
        exact ⟨by rw [HE.out]; rfl, HB.out⟩
    have hb : b < l.length := by
      rcases HI.out with ⟨h1, h2⟩ | ⟨h1, h2, h3⟩ | ⟨h1, h2, h3⟩
      · omega
      · rw [h2]; unfold fore1; split <;> omega
      · omega
    have d1 : (m : Int) ≤ 2 * (k : Int) + 2 := by omega
    have d2 : (m : Int) < (l.length : Int) := by omega
    have d3 : decide ((m : Int) ≤ 2 * (k : Int) + 2) = true := decide_eq_true d1
    have d4 : decide ((m : Int) < (l.length : Int)) = true := decide_eq_true d2
    have d5 : (b : Int) < (l.length : Int) := by omega
    have w4 : IntKind.i64.wrap ((m : Int) + 1) = (m : Int) + 1 := IntWalk.i64_in _ (by omega)
    have cm : wr.cell? ⟨gl, m, none⟩ = some (.int .i64 (l.getD m 0)) := by have := HR.out.cell hgo.2; simpa using this
    have cb : wr.cell? ⟨gl, b, none⟩ = some (.int .i64 (l.getD b 0)) := by have := HR.out.cell hb; simpa using this
    by_cases hlt : f o (l.getD m 0) (l.getD b 0) = true
    · have HI' : Hid ((m + 1 = 2 * k + 1 ∧ m = k) ∨ (m + 1 = 2 * k + 2 ∧ m = fore1 (f o) 0 l k ∧ 2 * k + 1 < l.length) ∨ (m + 1 = 2 * k + 3 ∧ m = fore (f o) 0 l k ∧ 2 * k + 2 < l.length)) := by
        rcases HI.out with ⟨h1, h2⟩ | ⟨h1, h2, h3⟩ | ⟨h1, h2, h3⟩
        · subst h1 h2
          exact .inr (.inl ⟨rfl, by unfold fore1; rw [if_pos ⟨hgo.2, hlt⟩], hgo.2⟩)
        · subst h1
          rw [h2] at hlt
          exact .inr (.inr ⟨rfl, by unfold fore; rw [if_pos ⟨hgo.2, hlt⟩], hgo.2⟩)
        · omega
      have HC : Hid (∀ z, Calls Try.prog 24 #[.pointer (some ⟨h, 0, none⟩), .int .i64 (l.getD m 0), .int .i64 (l.getD b 0)] (wr.drewN z) fun e w' => e = .returned (.bool true) ∧ ∃ q, w' = wr.drewN q) := fun z => by have := HA.out (l.getD m 0) (l.getD b 0) z; rw [hlt] at this; exact this
      clear HI hlt
      generalize l.getD m 0 = x at *
      generalize l.getD b 0 = y at *
      go_wp2
      go_quiet ((go_at_call 24; exact (HC.out _)))
      go_wp2
      go_roundw
      case rel => exact ⟨m, m + 1, rfl, by go_num, ⟨HD.out.less, HD.out.cap⟩, HR.out.below (below_drewN (Below.refl _ _) _) HR.out.1, below_drewN HB.out _, HI'⟩
      case measure => simp [intOf]; omega
    · have hlf : f o (l.getD m 0) (l.getD b 0) = false := by simpa using hlt
      have HI' : Hid ((m + 1 = 2 * k + 1 ∧ b = k) ∨ (m + 1 = 2 * k + 2 ∧ b = fore1 (f o) 0 l k ∧ 2 * k + 1 < l.length) ∨ (m + 1 = 2 * k + 3 ∧ b = fore (f o) 0 l k ∧ 2 * k + 2 < l.length)) := by
        rcases HI.out with ⟨h1, h2⟩ | ⟨h1, h2, h3⟩ | ⟨h1, h2, h3⟩
        · subst h1 h2
          exact .inr (.inl ⟨rfl, by unfold fore1; rw [if_neg (fun z => hlt z.2)], hgo.2⟩)
        · subst h1
          refine .inr (.inr ⟨rfl, ?_, hgo.2⟩)
          unfold fore
          rw [if_neg (fun z => hlt (by rw [h2]; exact z.2))]
          exact h2
        · omega
      have HC : Hid (∀ z, Calls Try.prog 24 #[.pointer (some ⟨h, 0, none⟩), .int .i64 (l.getD m 0), .int .i64 (l.getD b 0)] (wr.drewN z) fun e w' => e = .returned (.bool false) ∧ ∃ q, w' = wr.drewN q) := fun z => by have := HA.out (l.getD m 0) (l.getD b 0) z; rw [hlf] at this; exact this
      clear HI hlt hlf
      generalize l.getD m 0 = x at *
      generalize l.getD b 0 = y at *
      go_wp2
      go_quiet ((go_at_call 24; exact (HC.out _)))
      go_wp2
      go_roundw
      case rel => exact ⟨b, m + 1, rfl, by go_num, ⟨HD.out.less, HD.out.cap⟩, HR.out.below (below_drewN (Below.refl _ _) _) HR.out.1, below_drewN HB.out _, HI'⟩
      case measure => simp [intOf]; omega

end Hp
end Go.Proofs.Ytpappjcbeibhiaa
