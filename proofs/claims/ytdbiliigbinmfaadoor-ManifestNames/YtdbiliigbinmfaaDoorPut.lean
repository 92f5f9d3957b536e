import Derived.Test.YtdbiliigbinmfaaDoorProg
import Derived.Test.YtdbiliigbinmfaaDoorByt
import Derived.WalkKit
import Derived.WalkSpells
import Derived.WalkLawsBesides
namespace Go.Proofs.YtdbiliigbinmfaaDoor
namespace Cod
open Go.RowKit CMath Byt
set_option linter.unusedVariables false
set_option maxRecDepth 20000

theorem info8 : (Tryd.prog.info? 5).map (fun i => (i.zero, i.size, i.bytes)) = some (some (.int .u8 0), 1, 1) := by kernel_rfl

theorem below_of {base : Nat} {w w1 w' : World} {row : Option Nat} (h : Below base w w1) (hg : w1.grownBy w' row) (hb : base ≤ w.heap.size) (hr : ∀ k, row = some k → base ≤ k) : Below base w w' :=
  h.grown hg (Nat.le_trans hb h.size) hr

set_option maxHeartbeats 1000000 in
theorem grown_any (a : Option Addr) (cap k : Nat) (l : List Nat) (w : World) (h : IsB w a l) (hn : a = none → cap = 0) (hk : l.length + k ≤ 140737488355328) :
    Calls Tryd.prog 48 #[.slice a l.length cap, .int .i64 k] w fun e w' => ∃ v, e = .returned v ∧ Own 5 w.heap.size w' v l ∧ Below w.heap.size w w' := by
  obtain ⟨i8, hi, hz0, hz1, hz2⟩ := info_parts info8
  have HI : Hid (IsB w a l) := h
  have HN : Hid (a = none → cap = 0) := hn
  clear h hn
  go_enter Tryd.func48, Tryd.ntmps48
  go_wp2_with (first | (at_make; refine wpList_make_own _ rfl _ _ 23 rfl w.heap.size 5 i8 _ 1 Tryd.underlying23 hi hz0 hz1 _ _ _ (l.length + k) rfl rfl (by omega) (by rw [hz2]; omega) (by unfold maxLen; omega) (Nat.le_refl _) ?_; intro w1 hown1 hgr1; have HG1 : Hid (w.grownBy w1 none) := hgr1; have HO1 : Hid (w1.ownsRow w.heap.size 5 1 _ 0 []) := hown1; clear hgr1 hown1; have HB1 : Hid (Below w.heap.size w w1) := below_of (Below.refl _ _) HG1.out (Nat.le_refl _) (by simp); have HI1 : Hid (IsB w1 a l) := HI.out.below HB1.out) | (at_builtin; refine wpList_appB (by rfl) (.tmp 9) (.tmp 10) 23 (by rfl) w.heap.size 5 i8 Tryd.underlying23 hi hz0 hz1 hz2 _ [] 0 (by rfl) HO1.out a l.length cap l (by rfl) rfl HN.out HI1.out (by omega) HB1.out.size ?_; intro v2 w2 hown2 hgr2 hnn2; have HG2 : Hid (w1.grownBy w2 _) := hgr2; have HO2 : Hid (w2.ownsRow w.heap.size 5 1 v2 (0 + l.length) (cellsB l)) := hown2; have HNN : Hid (v2 ≠ .slice none 0 0) := hnn2 (by simp); clear hgr2 hown2 hnn2))
  go_ret
  exact ⟨v2, rfl, Own.mk' HO2.out HI.out.2 HNN.out, below_of HB1.out HG2.out (Nat.le_refl _) (fun j hj => (HO1.out.lt j hj).1)⟩

theorem grown_int (a : Option Addr) (cap k : Nat) (K : Int) (l : List Nat) (w : World) (hK : K = k) (h : IsB w a l) (hn : a = none → cap = 0) (hk : l.length + k ≤ 140737488355328) :
    Calls Tryd.prog 48 #[.slice a l.length cap, .int .i64 K] w fun e w' => ∃ v, e = .returned v ∧ Own 5 w.heap.size w' v l ∧ Below w.heap.size w w' := by
  subst hK
  exact grown_any a cap k l w h hn hk

theorem quo128 (m : Nat) : (m : Int) / 128 = ((m / 128 : Nat) : Int) := by omega
theorem shr7 (m : Nat) : (m : Int) / 2 ^ 7 = ((m / 128 : Nat) : Int) := by omega

set_option maxHeartbeats 1000000 in
theorem appendUint_any (base : Nat) (v : Value) (pre : List Nat) (n : Nat) (w : World) (hown : w.ownsRow base 5 1 v pre.length (cellsB pre)) (hpre : ∀ x ∈ pre, x < 256) (hn : n < 18446744073709551616) (hbase : base ≤ w.heap.size) (hk : pre.length + 10 ≤ 140737488355328) :
    Calls Tryd.prog 47 #[v, .int .u64 n] w fun e w' => ∃ v, e = .returned v ∧ Own 5 base w' v (pre ++ num n) ∧ Below base w w' := by
  obtain ⟨i8, hi, hz0, hz1, hz2⟩ := info_parts info8
  have h10 := num_le10 hn
  have HO : Hid (w.ownsRow base 5 1 v pre.length (cellsB pre)) := hown
  have HP : Hid (∀ x ∈ pre, x < 256) := hpre
  clear hown hpre
  go_enter Tryd.func47, Tryd.ntmps47
  go_wp2
  go_loopw [0, 1] (fun v i wr => ∃ (q : List Nat) (m : Nat), q ++ num m = pre ++ num n ∧ i = .int .u64 m ∧ m < 18446744073709551616 ∧ wr.ownsRow base 5 1 v q.length (cellsB q) ∧ Below base w wr) (fun _ i _ => (intOf i).toNat)
  case atStart => exact ⟨pre, n, rfl, rfl, hn, HO.out, Below.refl _ _⟩
  case round =>
    obtain ⟨q, m, hq, rfl, hm, hown, hbe⟩ := hrel
    have hsz := hbe.size
    have HQ : Hid (q ++ num m = pre ++ num n) := hq
    have hlen : q.length + (num m).length = pre.length + (num n).length := by simpa using congrArg List.length hq
    have hpos := num_pos m
    have HW : Hid (wr.ownsRow base 5 1 _ q.length (cellsB q)) := hown
    have HB : Hid (Below base w wr) := hbe
    clear hq hown hbe
    by_cases hlt : m < 128
    · have e1 : num m = [m] := num_small hlt
      go_wp2_with (at_builtin; refine wpList_appB (by rfl) (.tmp 15) (.tmp 18) 23 (by rfl) base 5 i8 Tryd.underlying23 hi hz0 hz1 hz2 _ q q.length (by rfl) (HW.out.alloc _) (some ⟨wr.heap.size, 0, none⟩) 1 1 [m] (by rfl) rfl (by simp) (isB_new (by omega) (by omega)) (by omega) (by simp; omega) ?_; intro v2 w2 hown2 hgr2 hnn2; have HG2 : Hid ((wr.alloc _).grownBy w2 _) := hgr2; have HO2 : Hid (w2.ownsRow base 5 1 v2 (q.length + 1) (cellsB (q ++ [m]))) := hown2; clear hgr2 hown2 hnn2)
      go_ret
      have hall : ∀ x ∈ pre ++ num n, x < 256 := by
        intro x hx
        rcases List.mem_append.1 hx with hx | hx
        · exact HP.out x hx
        · exact num_byte n x hx
      refine ⟨v2, rfl, ?_, below_of (HB.out.alloc (by omega) _) HG2.out (by omega) (fun j hj => (HW.out.lt j hj).1)⟩
      rw [← HQ.out, e1] at hall ⊢
      exact Own.pos HO2.out hall (by omega)
    · have e1 : num m = (m % 128 + 128) :: num (m / 128) := num_great hlt
      go_wp2_with (at_builtin; refine wpList_appB (by rfl) (.tmp 7) (.tmp 11) 23 (by rfl) base 5 i8 Tryd.underlying23 hi hz0 hz1 hz2 _ q q.length (by rfl) (HW.out.alloc _) (some ⟨wr.heap.size, 0, none⟩) 1 1 [m % 128 + 128] (by rfl) rfl (by simp) (isB_new (or128 m) (by omega)) (by omega) (by simp; omega) ?_; intro v2 w2 hown2 hgr2 hnn2; have HG2 : Hid ((wr.alloc _).grownBy w2 _) := hgr2; have HO2 : Hid (w2.ownsRow base 5 1 v2 (q.length + 1) (cellsB (q ++ [m % 128 + 128]))) := hown2; clear hgr2 hown2 hnn2)
      go_roundw
      case rel =>
        refine ⟨q ++ [m % 128 + 128], m / 128, ?_, by rw [quo128], by omega, by simpa using HO2.out, below_of (HB.out.alloc (by omega) _) HG2.out (by omega) (fun j hj => (HW.out.lt j hj).1)⟩
        rw [← HQ.out, e1]; simp
      case measure => simp [intOf]; omega

set_option maxHeartbeats 1000000 in
theorem number_any (n : Nat) (w : World) (hn : n < 18446744073709551616) :
    Calls Tryd.prog 51 #[.int .u64 n] w fun e w' => ∃ v, e = .returned v ∧ Own 5 w.heap.size w' v (num n) ∧ Below w.heap.size w w' := by
  obtain ⟨i8, hi, hz0, hz1, hz2⟩ := info_parts info8
  have h10 := num_le10 hn
  go_enter Tryd.func51, Tryd.ntmps51
  go_wp2
  go_loopw [3, 0] (fun v i wr => ∃ (q : List Nat) (m : Nat), q ++ num m = num n ∧ i = .int .u64 m ∧ m < 18446744073709551616 ∧ wr.ownsRow w.heap.size 5 1 v q.length (cellsB q) ∧ Below w.heap.size w wr) (fun _ i _ => (intOf i).toNat)
  case atStart => exact ⟨[], n, rfl, rfl, hn, World.ownsRow_nil _ _ _ _, Below.refl _ _⟩
  case round =>
    obtain ⟨q, m, hq, rfl, hm, hown, hbe⟩ := hrel
    have hsz := hbe.size
    have HQ : Hid (q ++ num m = num n) := hq
    have hlen : q.length + (num m).length = (num n).length := by simpa using congrArg List.length hq
    have hpos := num_pos m
    have HW : Hid (wr.ownsRow w.heap.size 5 1 _ q.length (cellsB q)) := hown
    have HB : Hid (Below w.heap.size w wr) := hbe
    clear hq hown hbe
    by_cases hlt : m < 128
    · have e1 : num m = [m] := num_small hlt
      go_wp2_with (at_builtin; refine wpList_appB (by rfl) (.tmp 15) (.tmp 18) 23 (by rfl) w.heap.size 5 i8 Tryd.underlying23 hi hz0 hz1 hz2 _ q q.length (by rfl) (HW.out.alloc _) (some ⟨wr.heap.size, 0, none⟩) 1 1 [m] (by rfl) rfl (by simp) (isB_new (by omega) (by omega)) (by omega) (by simp; omega) ?_; intro v2 w2 hown2 hgr2 hnn2; have HG2 : Hid ((wr.alloc _).grownBy w2 _) := hgr2; have HO2 : Hid (w2.ownsRow w.heap.size 5 1 v2 (q.length + 1) (cellsB (q ++ [m]))) := hown2; clear hgr2 hown2 hnn2)
      go_ret
      have hall : ∀ x ∈ num n, x < 256 := num_byte n
      refine ⟨v2, rfl, ?_, below_of (HB.out.alloc (by omega) _) HG2.out (by omega) (fun j hj => (HW.out.lt j hj).1)⟩
      rw [← HQ.out, e1] at hall ⊢
      exact Own.pos HO2.out hall (by omega)
    · have e1 : num m = (m % 128 + 128) :: num (m / 128) := num_great hlt
      go_wp2_with (at_builtin; refine wpList_appB (by rfl) (.tmp 6) (.tmp 11) 23 (by rfl) w.heap.size 5 i8 Tryd.underlying23 hi hz0 hz1 hz2 _ q q.length (by rfl) (HW.out.alloc _) (some ⟨wr.heap.size, 0, none⟩) 1 1 [m % 128 + 128] (by rfl) rfl (by simp) (isB_new (by omega) (by omega)) (by omega) (by simp; omega) ?_; intro v2 w2 hown2 hgr2 hnn2; have HG2 : Hid ((wr.alloc _).grownBy w2 _) := hgr2; have HO2 : Hid (w2.ownsRow w.heap.size 5 1 v2 (q.length + 1) (cellsB (q ++ [m % 128 + 128]))) := hown2; clear hgr2 hown2 hnn2)
      go_roundw
      case rel =>
        refine ⟨q ++ [m % 128 + 128], m / 128, ?_, by rw [quo128], by omega, by simpa using HO2.out, below_of (HB.out.alloc (by omega) _) HG2.out (by omega) (fun j hj => (HW.out.lt j hj).1)⟩
        rw [← HQ.out, e1]; simp
      case measure => simp [intOf]; omega


end Cod
end Go.Proofs.YtdbiliigbinmfaaDoor
