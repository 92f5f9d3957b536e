import Derived.Test.YtpappjcbeibhiaaHp3
namespace Go.Proofs.Ytpappjcbeibhiaa
namespace Hp
open Go.RowKit Laws Irw
set_option linter.unusedVariables false
set_option maxRecDepth 100000
set_option linter.unusedSimpArgs false

def Sunk (f : Int → Int → Bool) (l l' : List Int) (k : Nat) : Prop := l'.Perm l ∧ (Ord f → Dn f 0 l 0 → Dn f 0 l' k)
theorem IRow.of {s : Nat} {T : Nat → Nat} {w : World} {gl n c : Nat} {l : List Int} (h : OwnL s T w (.slice (some ⟨gl, 0, none⟩) n c) l) (h0 : 0 < l.length) : IRow w gl 0 l := by
  obtain ⟨b, off, e, hr⟩ := h.isI.1.at_ h0
  simp only [Option.some.injEq, Addr.mk.injEq] at e
  obtain ⟨rfl, rfl, _⟩ := e
  exact hr

set_option maxHeartbeats 4000000 in
/-- sink, of a list that isn't empty -/
theorem sink_any {f : Int → Int → Int → Bool} (s : Nat) (T : Nat → Nat) (w : World) (h g B : Nat) (o : Int) (hL : Less g f) (hd : Dirs s T w h g B o) (gl n c : Nat) (l : List Int) (ho : OwnL s T w (.slice (some ⟨gl, 0, none⟩) n c) l) (hn : n = l.length) (h0 : 0 < l.length) (hl : l.length ≤ 100000000000) :
    Calls Try.prog 25 #[.slice (some ⟨gl, 0, none⟩) n c, .func (.func 24) #[.pointer (some ⟨h, 0, none⟩)] #[]] w fun e w' => e = .returned (.tuple #[]) ∧ SinkIs (f o) s T w (.slice (some ⟨gl, 0, none⟩) n c) l w' := by
  have HL : Hid (Less g f) := hL
  have HD : Hid (Dirs s T w h g B o) := hd
  have HO : Hid (OwnL s T w (.slice (some ⟨gl, 0, none⟩) n c) l) := ho
  have HN : Hid (n = l.length) := hn
  have hnl : n ≤ 100000000000 := by omega
  have hn0 : 0 < n := by omega
  clear hL hd ho hn
  go_enter Try.func25, Try.ntmps25
  go_wp2
  go_loopw [4] (fun at_ wr => ∃ (k : Nat) (l' : List Int), at_ = .int .i64 (k : Int) ∧ k < n ∧ Hid (l'.length = n) ∧ Hid (Dirs s T wr h g B o) ∧ Hid (OwnL s T wr (.slice (some ⟨gl, 0, none⟩) n c) l') ∧ Hid (Goes (· = s) T w T wr) ∧ Hid (Sunk (f o) l l' k)) (fun at_ _ => n - (intOf at_).toNat)
  case atStart => exact ⟨0, l, rfl, by omega, HN.out.symm, HD, HO, Goes.refl _ _ _, List.Perm.refl _, fun _ z => z⟩
  case round =>
    clear HD HO
    obtain ⟨k, l', rfl, hk, HN', HD, HO, HG, HR⟩ := hrel
    have HFO : Hid (Calls Try.prog 31 #[.slice (some ⟨gl, 0, none⟩) n c, .int .i64 (k : Int), .func (.func 24) #[.pointer (some ⟨h, 0, none⟩)] #[]] wr fun e w' => e = .returned (.int .i64 (fore (f o) 0 l' k : Nat)) ∧ Below wr.heap.size wr w') := foremost_any wr h g B o HL.out HD.out.dir gl n c k l' (IRow.of HO.out (by rw [HN'.out]; omega)) HN'.out.symm (by rw [HN'.out]; exact hk) (by rw [HN'.out]; omega)
    have hfl : fore (f o) 0 l' k < n := by have := fore_lt (f o) 0 l' k (by rw [HN'.out]; exact hk); rwa [HN'.out] at this
    have hfg := fore_ge (f o) 0 l' k
    by_cases hfe : fore (f o) 0 l' k = k
    · have HF : Hid (l'.Perm l ∧ (Ord (f o) → Dn (f o) 0 l 0 → Heapy (f o) 0 l')) := ⟨HR.out.1, fun ho hu => (HR.out.2 ho hu).done ho hfe⟩
      rw [hfe] at HFO
      clear hfe hfg hfl HR
      go_wp2_with (go_at_call 31; refine HFO.out.mono ?_; rintro e w3 ⟨rfl, hb3⟩; have HX3 : Hid (OwnL s T w3 (.slice (some ⟨gl, 0, none⟩) n c) l' ∧ Goes (· = s) T wr T w3) := ⟨HO.out.below hb3, Goes.below hb3⟩; clear hb3)
      refine bodyPost_ret (results_none rfl _ _ _) rfl ?_
      exact ⟨rfl, l', HX3.out.1, HG.out.trans HX3.out.2, HF.out.1, HF.out.2⟩
    · have HSW : Hid (∀ W, OwnL s T W (.slice (some ⟨gl, 0, none⟩) n c) l' → Calls Try.prog 30 #[.slice (some ⟨gl, 0, none⟩) n c, .int .i64 (k : Int), .int .i64 ((fore (f o) 0 l' k : Nat) : Int)] W fun e w' => e = .returned (.tuple #[]) ∧ OwnL s T w' (.slice (some ⟨gl, 0, none⟩) n c) (swp 0 l' k (fore (f o) 0 l' k)) ∧ Goes (· = s) T W T w') := fun W hW => swap_any s T W gl n c l' k (fore (f o) 0 l' k) hW (by rw [HN'.out]; exact hk) (by rw [HN'.out]; exact hfl) (fun e => hfe e.symm) (by rw [HN'.out]; omega)
      have HR' : Hid (Sunk (f o) l (swp 0 l' k (fore (f o) 0 l' k)) (fore (f o) 0 l' k)) := ⟨(swp_perm 0 l' _ _ (by rw [HN'.out]; exact hk) (by rw [HN'.out]; exact hfl)).trans HR.out.1, fun ho hu => (HR.out.2 ho hu).step ho (by rw [HN'.out]; exact hk) hfe⟩
      have HLn : Hid ((swp 0 l' k (fore (f o) 0 l' k)).length = n) := (swp_length ..).trans HN'.out
      have hgt : k < fore (f o) 0 l' k := by omega
      have hne : ¬ ((fore (f o) 0 l' k : Nat) : Int) = (k : Int) := by omega
      clear hfe hfg HR
      generalize swp 0 l' k (fore (f o) 0 l' k) = l2 at *
      generalize fore (f o) 0 l' k = m at *
      go_wp2_with (first
        | (go_at_call 31; refine HFO.out.mono ?_; rintro e w3 ⟨rfl, hb3⟩; have HX3 : Hid (OwnL s T w3 (.slice (some ⟨gl, 0, none⟩) n c) l' ∧ Goes (· = s) T wr T w3) := ⟨HO.out.below hb3, Goes.below hb3⟩; clear hb3)
        | (go_at_call 30; refine (HSW.out _ HX3.out.1).mono ?_; rintro e w4 ⟨rfl, ho4, hg4⟩; have HX4 : Hid (OwnL s T w4 (.slice (some ⟨gl, 0, none⟩) n c) l2 ∧ Goes (· = s) T wr T w4) := ⟨ho4, HX3.out.2.trans hg4⟩; clear ho4 hg4))
      go_roundw
      case rel => exact ⟨m, l2, rfl, by omega, HLn, HD.out.goes HX4.out.2, HX4.out.1, HG.out.trans HX4.out.2, HR'⟩
      case measure => simp [intOf]; omega

set_option maxHeartbeats 4000000 in
/-- sink, of nothing -/
theorem sink_nil (w : World) (a : Option Addr) (c : Nat) (v : Value) :
    Calls Try.prog 25 #[.slice a 0 c, v] w fun e w' => e = .returned (.tuple #[]) ∧ w' = w := by
  go_enter Try.func25, Try.ntmps25
  go_wp2
  go_loopw [4] (fun at_ wr => at_ = .int .i64 0 ∧ wr = w) (fun _ _ => 0)
  case atStart => exact ⟨rfl, rfl⟩
  case round =>
    obtain ⟨rfl, hw⟩ := hrel
    have hw2 := hw.symm
    clear hw
    subst hw2
    go_wp2_with fail
    have hf : Calls Try.prog 31 #[.slice a 0 c, .int .i64 0, v] w fun e w' => e = .returned (.int .i64 0) ∧ w' = w := by
      go_enter Try.func31, Try.ntmps31
      go_wp2
      go_loopw [7, 8] (fun bst bel wr => bst = .int .i64 0 ∧ bel = .int .i64 1 ∧ wr = w) (fun _ _ _ => 0)
      case atStart => exact ⟨rfl, rfl, rfl⟩
      case round =>
        obtain ⟨rfl, rfl, hw⟩ := hrel
        have hw2 := hw.symm
        clear hw
        subst hw2
        go_wp2
        go_ret
        exact ⟨rfl, rfl⟩
    refine hf.mono ?_
    rintro e w9 ⟨rfl, hw9⟩
    have hw8 := hw9.symm
    clear hw9
    subst hw8
    go_wp2
    refine bodyPost_ret (results_none rfl _ _ _) rfl ?_
    exact ⟨rfl, rfl⟩

end Hp
end Go.Proofs.Ytpappjcbeibhiaa
