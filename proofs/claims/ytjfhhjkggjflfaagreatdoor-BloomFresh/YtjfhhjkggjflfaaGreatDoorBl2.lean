import Derived.RangeFuncNested
import Derived.RangeFuncBound
import Derived.RangeFuncCalls
import Derived.RangeFuncLeaves
import Derived.Shelf.Abstract
import Derived.Shelf.RegionOpen
import Derived.WalkKit
import Derived.OwnWalkIn
import Derived.TacticsInMore
import Derived.LoopNIn
import Derived.LoopIn
import Derived.Sort.LoopGhostIn
import Derived.RegionIn
import Derived.Test.YtjfhhjkggjflfaaGreatDoorProg
import Derived.Test.YtjfhhjkggjflfaaGreatDoorBl1
namespace Go.Proofs.YtjfhhjkggjflfaaGreatDoor
namespace Blo
open Go.RowKit Go.Shelf CMath Byt Cod Laws Tsr BMath
set_option linter.unusedVariables false
set_option maxRecDepth 100000
attribute [local go_sem] Oper.semAt_some

/-- Places. -/
abbrev Pl (m : Nat) := { p : Nat // p < m }
def encP {m : Nat} (x : Pl m) : Array Value := #[.int .u64 (x.1 : Int)]
def prob (h m : Nat) (hm : 0 < m) (i : Nat) : Pl m := ⟨probe h m i, Nat.mod_lt _ hm⟩
def upto (h m : Nat) (hm : 0 < m) (k : Nat) : List (Pl m) := (List.range k).map (prob h m hm)
theorem upto_succ (h m : Nat) (hm : 0 < m) (k : Nat) : upto h m hm (k + 1) = upto h m hm k ++ [prob h m hm k] := by simp [upto, List.range_succ]
theorem upto_val (h m : Nat) (hm : 0 < m) (k : Nat) : (upto h m hm k).map Subtype.val = spots h m k := by simp [upto, spots, prob, Function.comp_def]
theorem upto_length (h m : Nat) (hm : 0 < m) (k : Nat) : (upto h m hm k).length = k := by simp [upto]

set_option maxHeartbeats 2000000 in
theorem probes1_in (n : Nat) (hn : 1 ≤ n) (l bk bh bd bm k h m : Nat) (hm : 0 < m) (hm64 : m < 18446744073709551616) (hk : k ≤ 255) (hh : h < 4294967296) (J Jx : List (Pl m) → World → Prop) (B : Nat) (hJ : AbidesFrom B J)
    (hY : ∀ pre x W, J pre W → pre.length < k → YieldAt Fence.wide (n - 1) Tryz.prog l (encP x) W fun e W' =>
      (e = .returned (.bool true) ∧ J (pre ++ [x]) W' ∧ Kp bk bh bd bm W W') ∨ (e = .returned (.bool false) ∧ Jx (pre ++ [x]) W'))
    (W : World) (hB : Box W bk bh bd bm k h m) (h0 : J [] W) :
    CallsIn Fence.wide n Tryz.prog 38 #[.func (.yield l) #[] #[], .pointer (some ⟨bk, 0, none⟩), .pointer (some ⟨bh, 0, none⟩), .pointer (some ⟨bd, 0, none⟩), .pointer (some ⟨bm, 0, none⟩)] W fun e W' => (∃ v, e = .returned v) ∧
      ((∃ ys : List (Pl m), ys.map Subtype.val = spots h m k ∧ J ys W') ∨ (∃ pre : List (Pl m), pre.map Subtype.val <+: spots h m k ∧ Jx pre W')) := by
  refine callsIn_of_wp Tryz.func38 rfl trivial ?_ rfl
  simp only [Tryz.ntmps38, List.size_toArray, List.length_cons, List.length_nil, Nat.reduceAdd, Nat.reduceSub, Array.replicate_succ, Array.replicate_zero, List.push_toArray, List.append_toArray, List.nil_append, List.cons_append]
  have ck := hB.ck
  have HY : Hid (∀ pre x W, J pre W → pre.length < k → YieldAt Fence.wide (n - 1) Tryz.prog l (encP x) W fun e W' =>
      (e = .returned (.bool true) ∧ J (pre ++ [x]) W' ∧ Kp bk bh bd bm W W') ∨ (e = .returned (.bool false) ∧ Jx (pre ++ [x]) W')) := hY
  have HB : Hid (Box W bk bh bd bm k h m) := hB
  have H0 : Hid (J [] W) := h0
  clear hY hB h0
  have HJ : Hid (∀ pre W, J pre W → J pre W.drew) := fun pre W h => hJ pre W W.drew none h ⟨rfl, rfl, rfl, Nat.le_refl _, fun _ _ _ => rfl⟩ (fun r e => by cases e)
  clear hJ
  gi_wp2
  gi_loopw [9] (fun i wr => ∃ j : Nat, j ≤ k ∧ i = .int .u32 (j : Int) ∧ J (upto h m hm j) wr ∧ Kp bk bh bd bm W wr) (fun i _ => k - (intOf i).toNat)
  case atStart => exact ⟨0, Nat.zero_le _, rfl, H0.out, rfl, rfl, rfl, rfl⟩
  case round =>
    obtain ⟨j, hj, rfl, hJs, hkp⟩ := hrel
    by_cases hlt : j < k
    · have hbx := HB.out.keep hkp
      have c1 := hbx.ch
      have c2 := hbx.cd
      have c3 := hbx.cm
      have q1 : (j : Int) < (k : Int) := by omega
      obtain ⟨fn, tmps, assign, body, hy, hR⟩ := HY.out _ (prob h m hm j) wr hJs (by rw [upto_length]; exact hlt)
      have e1 : (((prob h m hm j).1 : Nat) : Int) = ((h : Int) + (j : Int) * ((turned h : Nat) : Int)) % 4294967296 % (m : Int) := by
        show ((probe h m j : Nat) : Int) = _
        unfold probe
        simp
      simp only [encP, e1] at hy
      have HU : Hid (upto h m hm j ++ [prob h m hm j] = upto h m hm (j + 1)) := (upto_succ h m hm j).symm
      have HPR : Hid ((upto h m hm j ++ [prob h m hm j]).map Subtype.val <+: spots h m k) := by
        show List.map Subtype.val _ <+: _
        rw [← upto_succ, upto_val]
        exact spots_pre (by omega)
      have HKP : Hid (Kp bk bh bd bm W wr) := hkp
      clear e1 hkp hbx
      generalize turned h = d at *
      gi_wp2
      refine hR.mono ?_
      rintro e W3 (⟨rfl, hJ3, hk3⟩ | ⟨rfl, hJx3⟩)
      · have HJ3 : Hid (J (upto h m hm (j + 1)) W3) := by show J _ _; rw [← HU.out]; exact hJ3
        have HK3 : Hid (Kp bk bh bd bm W W3) := HKP.out.trans hk3
        clear hJ3 hk3 hR hy
        gi_wp2
        go_roundw
        case rel => exact ⟨j + 1, by omega, by go_num, HJ3.out, HK3.out⟩
        case measure => simp [intOf]; omega
      · clear hR hy
        gi_wp2
        refine bodyPost_ret (results_none rfl _ _ _) rfl ?_
        exact ⟨⟨_, rfl⟩, .inr ⟨_, HPR.out, hJx3⟩⟩
    · obtain rfl : j = k := by omega
      gi_wp2
      go_end0
      exact ⟨⟨_, rfl⟩, .inl ⟨_, upto_val _ _ hm _, hJs⟩⟩

theorem probes_stops (n : Nat) (hn : 1 ≤ n) (bk bh bd bm k h m : Nat) (hm : 0 < m) (hm64 : m < 18446744073709551616) (hk : k ≤ 255) (hh : h < 4294967296) (w : World) (hB : Box w bk bh bd bm k h m) :
    SeqStopsK Fence.wide n Tryz.prog 38 #[.pointer (some ⟨bk, 0, none⟩), .pointer (some ⟨bh, 0, none⟩), .pointer (some ⟨bd, 0, none⟩), .pointer (some ⟨bm, 0, none⟩)] (encP (m := m)) (Kp bk bh bd bm) (fun ys => ys.map Subtype.val = spots h m k) (fun pre => pre.map Subtype.val <+: spots h m k) k w := fun l J Jx W hW hJ hJx hY h0 =>
  probes1_in n hn l bk bh bd bm k h m hm hm64 hk hh J Jx W.heap.size hJ hY W (hB.keep (Kp.below hW hB.lt)) h0
end Blo
end Go.Proofs.YtjfhhjkggjflfaaGreatDoor
