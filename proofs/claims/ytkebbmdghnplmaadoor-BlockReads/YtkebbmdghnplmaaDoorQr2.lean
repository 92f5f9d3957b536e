import Derived.Test.YtkebbmdghnplmaaDoorQr1
namespace Go.Proofs.YtkebbmdghnplmaaDoor
namespace Qb
open Go.RowKit CMath Byt Laws Irw Crw Cod
set_option linter.unusedVariables false
set_option linter.unusedSimpArgs false
set_option maxRecDepth 20000

set_option maxHeartbeats 1000000 in
theorem refShared_any (x y : ByteArray) (w : World) (hx : x.size ≤ 1000000) (hy : y.size ≤ 1000000) :
    Calls Tryd.prog 63 #[.string x, .string y] w fun e w' => e = .returned (.int .i64 ((shr (strB x) (strB y) : Nat) : Int)) ∧ ∃ n, w' = w.drewN n := by
  go_enter Tryd.func63, Tryd.ntmps63
  go_wp2
  go_loopw [5] (fun i wr => ∃ k n : Nat, k ≤ x.size ∧ k ≤ y.size ∧ i = .int .i64 (k : Int) ∧ Hid ((strB x).take k = (strB y).take k) ∧ wr = w.drewN n) (fun i _ => x.size - (intOf i).toNat)
  case atStart => exact ⟨0, 0, Nat.zero_le _, Nat.zero_le _, rfl, by show _ = _; simp, rfl⟩
  case round =>
    obtain ⟨k, n, hk1, hk2, rfl, HT, rfl⟩ := hrel
    by_cases h1 : k < x.size
    · have q1 : (k : Int) < (x.size : Int) := by omega
      by_cases h2 : k < y.size
      · have q2 : (k : Int) < (y.size : Int) := by omega
        have HX : Hid ((strB x)[k]? = some x[k].toNat) := (strB_get h1)
        have HY : Hid ((strB y)[k]? = some y[k].toNat) := (strB_get h2)
        by_cases he : x[k].toNat = y[k].toNat
        · have he' : ((x[k].toNat : Int) == (y[k].toNat : Int)) = true := by simp [he]
          have he2 : (x[k].toNat == y[k].toNat) = true := by simp [he]
          go_wp2
          go_quiet (fail)
          go_wp2
          refine ⟨⟨k + 1, _, by omega, by omega, by go_num, ?_, rfl⟩, by simp [intOf]; omega⟩
          refine take_same HT.out (by rw [strB_length]; exact h1) (by rw [strB_length]; exact h2) ?_
          rw [HX.out, HY.out, he]
        · have he' : ((x[k].toNat : Int) == (y[k].toNat : Int)) = false := by rw [beq_eq_false_iff_ne]; omega
          go_wp2
          go_quiet (fail)
          go_wp2
          go_ret
          refine ⟨?_, by simp only [World.drewN_drewN]; exact ⟨_, rfl⟩⟩
          rw [shr_at (strB x) (strB y) k HT.out (by rw [strB_length]; exact h1) (by rw [strB_length]; exact h2) (by
            rw [HX.out, HY.out]
            intro e
            simp only [Option.some.injEq] at e
            exact he e)]
          rfl
      · go_wp2
        go_quiet (fail)
        go_wp2
        go_ret
        refine ⟨?_, by simp only [World.drewN_drewN]; exact ⟨_, rfl⟩⟩
        rw [shr_end (strB x) (strB y) k (by rw [strB_length, strB_length]; omega) HT.out]
        rfl
    · go_wp2
      go_quiet (fail)
      go_wp2
      go_ret
      refine ⟨?_, by simp only [World.drewN_drewN]; exact ⟨_, rfl⟩⟩
      rw [shr_end (strB x) (strB y) k (by rw [strB_length, strB_length]; omega) HT.out]
      rfl
theorem number_nil (n : Nat) (w : World) (hn : n < 18446744073709551616) :
    Calls Tryd.prog 64 #[.int .u64 (n : Int)] w fun e w' => ∃ g c, e = .returned (.slice (some ⟨g, 0, none⟩) (num n).length c) ∧ IsB w' (some ⟨g, 0, none⟩) (num n) ∧ Below w.heap.size w w' := by
  refine (number_any n w hn).mono ?_
  rintro e w' ⟨v, rfl, ho, hb⟩
  obtain ⟨g, c, rfl, _, _, _, hi⟩ := ho.isB
  exact ⟨g, c, rfl, hi, hb⟩
theorem number_z (n : Nat) (z : Int) (hz : z = n) (w : World) (hn : n < 18446744073709551616) :
    Calls Tryd.prog 64 #[.int .u64 z] w fun e w' => ∃ g c, e = .returned (.slice (some ⟨g, 0, none⟩) (num n).length c) ∧ IsB w' (some ⟨g, 0, none⟩) (num n) ∧ Below w.heap.size w w' := by
  subst hz
  exact number_nil n w hn
theorem words_nil (s : ByteArray) (w : World) (hn : s.size ≤ 1000000) :
    Calls Tryd.prog 65 #[.string s] w fun e w' => ∃ g c, e = .returned (.slice (some ⟨g, 0, none⟩) (words (strB s)).length c) ∧ IsB w' (some ⟨g, 0, none⟩) (words (strB s)) ∧ Below w.heap.size w w' := by
  refine (words_any s w (by omega)).mono ?_
  rintro e w' ⟨v, rfl, ho, hb⟩
  obtain ⟨g, c, rfl, _, _, _, hi⟩ := ho.isB
  exact ⟨g, c, rfl, hi, hb⟩
theorem refFour_any (n : Nat) (w : World) (hn : n < 4294967296) :
    Calls Tryd.prog 29 #[.int .i64 (n : Int)] w fun e w' => ∃ g c, e = .returned (.slice (some ⟨g, 0, none⟩) 4 c) ∧ IsB w' (some ⟨g, 0, none⟩) (four n) ∧ Below w.heap.size w w' := by
  have hw : IntKind.u32.wrap (n : Int) = (n : Int) := by rw [IntKind.wrap_u32]; omega
  go_enter Tryd.func29, Tryd.ntmps29
  go_wp2_with (go_at_call 30; refine (four_any n w hn).mono ?_; rintro e w1 ⟨v, rfl, ho, hb⟩; obtain ⟨g, c, rfl, _, _, _, hi⟩ := ho.isB; have HF : Hid (IsB w1 (some ⟨g, 0, none⟩) (four n) ∧ Below w.heap.size w w1) := ⟨hi, hb⟩; clear ho hi hb)
  go_ret
  exact ⟨g, c, rfl, HF.out⟩
end Qb
end Go.Proofs.YtkebbmdghnplmaaDoor
