import Derived.Test.YtebfokjgeknciabGreatDoorPc6
namespace Go.Proofs.YtebfokjgeknciabGreatDoor
namespace Pcm
open Go.RowKit Laws Irw
set_option linter.unusedVariables false
set_option linter.unusedSimpArgs false
set_option maxRecDepth 20000

theorem pw_r {b m : Int} (hb : R64 b) : ∀ n, R64 (pw b m n)
  | 0 => hb
  | n + 1 => smul_r _ _
set_option maxHeartbeats 4000000 in
theorem limit_any (c : Cf) (hc : RC c) (h : Right c) (l : Int) (hl : R64 l) (w : World) :
    Calls Tryz.prog 86 #[.agg (figA c), .int .i64 l] w fun e w' => e = .returned (.int .i64 (plim c l)) ∧ Below w.heap.size w w' := by
  show Calls Tryz.prog 86 #[.agg #[.int .i64 (c 0), .int .i64 (c 2), .int .i64 (c 3), .int .i64 (c 4), .int .i64 (c 8), .int .i64 (c 9), .int .i64 (c 10), .int .i64 (c 11), .int .i64 (c 12), .int .i64 (c 16), .int .i64 (c 17), .int .i64 (c 19), .int .i64 (c 21), .int .i64 (c 22), .int .i64 (c 23), .int .i64 (c 26)], .int .i64 l] w fun e w' => e = .returned (.int .i64 (plim c l)) ∧ Below w.heap.size w w'
  have HC := hid hc
  have HR := hid h
  obtain ⟨a1, a2⟩ := h.o.h8
  unfold R64 at hl
  clear hc h
  by_cases h1 : l < 1
  · rw [plim_out (.inl h1)]
    go_enter Tryz.func86, Tryz.ntmps86
    go_wp2
    go_ret
    exact ⟨rfl, (Below.refl _ _).alloc (Nat.le_refl _) _⟩
  · by_cases h2 : c 8 - 2 < l
    · rw [plim_out (.inr h2)]
      go_enter Tryz.func86, Tryz.ntmps86
      go_wp2
      go_ret
      exact ⟨rfl, (Below.refl _ _).alloc (Nat.le_refl _) _⟩
    · have HP : Hid (plim c l = pw (c 9) (c 10) (l - 1).toNat) := by unfold plim; rw [if_neg (by omega)]; exact hid rfl
      have h3 : ¬ l > c 8 - 2 := by omega
      go_enter Tryz.func86, Tryz.ntmps86
      go_wp2
      go_loop [5, 19] (fun s i => ∃ k : Nat, (k : Int) ≤ l - 1 ∧ i = .int .i64 k ∧ s = .int .i64 (pw (c 9) (c 10) k)) (fun _ i => (l - 1 - intOf i).toNat)
      case atStart => exact ⟨0, by omega, rfl, rfl⟩
      case round =>
        obtain ⟨k, hk, rfl, rfl⟩ := hrel
        by_cases hlt : (k : Int) < l - 1
        · have HS : Hid (R64 (pw (c 9) (c 10) k)) := pw_r (HC.out 9) k
          have HN : Hid (pw (c 9) (c 10) (k + 1) = smul (pw (c 9) (c 10) k) (c 10)) := rfl
          generalize pw (c 9) (c 10) k = S at *
          go_wp2_with (go_at_call 131; go_loud (refine (times_any S (c 10) HS.out (HC.out 10) _).mono ?_; rintro e w' ⟨rfl, hw9⟩; have hw8 := hw9.symm; clear hw9; subst hw8))
          go_round
          case rel => exact ⟨k + 1, by omega, by go_num, by rw [HN.out]⟩
          case measure => simp [intOf]; omega
        · go_wp2
          go_ret
          refine ⟨ret_int ?_, (Below.refl _ _).alloc (Nat.le_refl _) _⟩
          rw [HP.out]
          congr 1
          omega

set_option maxHeartbeats 4000000 in
theorem limitSum_any (c : Cf) (hc : RC c) (h : Right c) (w : World) :
    Calls Tryz.prog 56 #[.agg (figA c)] w fun e w' => e = .returned (.int .i64 (plsum c)) ∧ Below w.heap.size w w' := by
  show Calls Tryz.prog 56 #[.agg #[.int .i64 (c 0), .int .i64 (c 2), .int .i64 (c 3), .int .i64 (c 4), .int .i64 (c 8), .int .i64 (c 9), .int .i64 (c 10), .int .i64 (c 11), .int .i64 (c 12), .int .i64 (c 16), .int .i64 (c 17), .int .i64 (c 19), .int .i64 (c 21), .int .i64 (c 22), .int .i64 (c 23), .int .i64 (c 26)]] w fun e w' => e = .returned (.int .i64 (plsum c)) ∧ Below w.heap.size w w'
  have HC := hid hc
  have HR := hid h
  have HlC : ∀ W l, R64 l → Calls Tryz.prog 86 #[.agg #[.int .i64 (c 0), .int .i64 (c 2), .int .i64 (c 3), .int .i64 (c 4), .int .i64 (c 8), .int .i64 (c 9), .int .i64 (c 10), .int .i64 (c 11), .int .i64 (c 12), .int .i64 (c 16), .int .i64 (c 17), .int .i64 (c 19), .int .i64 (c 21), .int .i64 (c 22), .int .i64 (c 23), .int .i64 (c 26)], .int .i64 l] W fun e w' => e = .returned (.int .i64 (plim c l)) ∧ Below W.heap.size W w' := fun W l hl => limit_any c HC.out HR.out l hl W
  obtain ⟨a1, a2⟩ := h.o.h8
  clear hc h
  have HS : Hid (plsum c = plsumN c (c 8).toNat) := hid rfl
  go_enter Tryz.func56, Tryz.ntmps56
  go_wp2
  have hF : Fg (w.alloc (.cells #[.int .i64 (c 0), .int .i64 (c 2), .int .i64 (c 3), .int .i64 (c 4), .int .i64 (c 8), .int .i64 (c 9), .int .i64 (c 10), .int .i64 (c 11), .int .i64 (c 12), .int .i64 (c 16), .int .i64 (c 17), .int .i64 (c 19), .int .i64 (c 21), .int .i64 (c 22), .int .i64 (c 23), .int .i64 (c 26)] 91)) w.heap.size c := fg_new w c 91
  have HBW : Hid (Below w.heap.size w (w.alloc (.cells #[.int .i64 (c 0), .int .i64 (c 2), .int .i64 (c 3), .int .i64 (c 4), .int .i64 (c 8), .int .i64 (c 9), .int .i64 (c 10), .int .i64 (c 11), .int .i64 (c 12), .int .i64 (c 16), .int .i64 (c 17), .int .i64 (c 19), .int .i64 (c 21), .int .i64 (c 22), .int .i64 (c 23), .int .i64 (c 26)] 91))) := (Below.refl _ _).alloc (Nat.le_refl _) _
  have hz : w.heap.size < (w.alloc (.cells #[.int .i64 (c 0), .int .i64 (c 2), .int .i64 (c 3), .int .i64 (c 4), .int .i64 (c 8), .int .i64 (c 9), .int .i64 (c 10), .int .i64 (c 11), .int .i64 (c 12), .int .i64 (c 16), .int .i64 (c 17), .int .i64 (c 19), .int .i64 (c 21), .int .i64 (c 22), .int .i64 (c 23), .int .i64 (c 26)] 91)).heap.size := by simp
  generalize (w.alloc (.cells #[.int .i64 (c 0), .int .i64 (c 2), .int .i64 (c 3), .int .i64 (c 4), .int .i64 (c 8), .int .i64 (c 9), .int .i64 (c 10), .int .i64 (c 11), .int .i64 (c 12), .int .i64 (c 16), .int .i64 (c 17), .int .i64 (c 19), .int .i64 (c 21), .int .i64 (c 22), .int .i64 (c 23), .int .i64 (c 26)] 91)) = W at *
  go_loopw [3, 7] (fun s i V => ∃ k : Nat, (k : Int) ≤ c 8 ∧ i = .int .i64 k ∧ s = .int .i64 (plsumN c k) ∧ Below W.heap.size W V) (fun _ i _ => (c 8 - intOf i).toNat)
  case atStart => exact ⟨0, by omega, rfl, rfl, Below.refl _ _⟩
  case round =>
    obtain ⟨k, hk, rfl, rfl, hbe⟩ := hrel
    rename_i V
    by_cases hlt : (k : Int) < c 8
    · have HN : Hid (plsumN c (k + 1) = sadd (plsumN c k) (plim c k)) := hid rfl
      have HK : Hid (R64 (plsumN c k)) := by cases k with | zero => exact (show R64 0 by unfold R64; omega) | succ n => exact sadd_r _ _
      have HB := hid hbe
      obtain ⟨h0, h1, h2, h3, h4, h5, h6, h7, h8, h9, h10, h11, h12, h13, h14, h15⟩ := hF.keep hz hbe
      generalize plsumN c k = S at *
      clear hbe
      go_wp2_with (first | (go_at_call 86; go_loud (refine (HlC _ _ (by unfold R64; omega)).mono ?_; rintro e w9 ⟨rfl, hb9⟩; have HB9 : Hid (Below W.heap.size W w9) := HB.out.trans (hb9.mono HB.out.size); clear hb9)) | (go_at_call 61; go_loud (refine (plus_any _ _ HK.out (plim_r HC.out _) _).mono ?_; rintro e w8 ⟨rfl, hw7⟩; have hw8 := hw7.symm; clear hw7; subst hw8)))
      go_roundw
      case rel => exact ⟨k + 1, by omega, by go_num, by rw [HN.out], HB9.out⟩
      case measure => simp [intOf]; omega
    · go_wp2
      go_ret
      refine ⟨ret_int ?_, HBW.out.trans (hbe.mono HBW.out.size)⟩
      rw [HS.out]
      congr 1
      omega

end Pcm
end Go.Proofs.YtebfokjgeknciabGreatDoor
