import Derived.Test.YtdbiliigbinmfaaDoorProg
import Derived.Test.YtdbiliigbinmfaaDoorSam
import Derived.Test.YtdbiliigbinmfaaDoorCBackM
import Derived.WalkKit
import Derived.WalkSpells
import Derived.WalkLawsBesides
namespace Go.Proofs.YtdbiliigbinmfaaDoor
namespace Cod
open Go.RowKit CMath Byt
set_option linter.unusedVariables false
set_option maxRecDepth 20000

/-- The table of the sums lies in its block. -/
structure Tab (w : World) : Prop where
  lt : 0 < w.heap.size
  cell : ∀ i, i < 16 → w.cell? ⟨0, i, none⟩ = some (.int .u32 ((steps 4 i : Nat) : Int))
theorem Tab.keep {w w' : World} (h : Tab w) (hb : w'.heap[0]? = w.heap[0]?) (hs : w.heap.size ≤ w'.heap.size) : Tab w' :=
  ⟨Nat.lt_of_lt_of_le h.lt hs, fun i hi => (World.cell?_of_block (w := w) (a := ⟨0, i, none⟩) hb).trans (h.cell i hi)⟩
theorem Tab.below {w w' : World} {B : Nat} (h : Tab w) (hb : Below B w w') (hB : 0 < B) : Tab w' := h.keep (hb.block 0 hB) hb.size

theorem xor32 {x y : Nat} (hx : x < 4294967296) (hy : y < 4294967296) : x ^^^ y < 4294967296 := Nat.xor_lt_two_pow (n := 32) (by omega) (by omega)
theorem and15 {x : Nat} (hx : x < 4294967296) : bits .and .u32 (x : Int) 15 = ((x % 16 : Nat) : Int) := by
  have h := u32_and_nat x 15 hx (by omega)
  rw [show ((15 : Nat) : Int) = 15 by rfl] at h
  rw [h]
  congr 1
  exact Nat.and_two_pow_sub_one_eq_mod x 4
theorem quarter {x : Nat} (hx : x < 4294967296) : bits .xor .u32 ((x : Int) / 16) ((steps 4 (x % 16) : Nat) : Int) = ((steps 4 x : Nat) : Int) := by
  have h := u32_xor_nat (x / 16) (steps 4 (x % 16)) (by omega) (steps_lt 4 (by omega))
  rw [show ((x / 16 : Nat) : Int) = (x : Int) / 16 by omega] at h
  rw [h, ← steps4]
theorem state_take {l : List Nat} {k x s : Nat} (h : l[k]? = some x) : state s (l.take (k + 1)) = feed (state s (l.take k)) x := by
  obtain ⟨hk, e⟩ := List.getElem?_eq_some_iff.1 h
  rw [List.take_succ_eq_append_getElem hk, e]
  simp [state]
theorem not32 {x : Nat} (hx : x < 4294967296) : bits .xor .u32 IntKind.u32.max (x : Int) = ((x ^^^ 4294967295 : Nat) : Int) := by
  have h := u32_xor_nat 4294967295 x (by omega) hx
  rw [show IntKind.u32.max = ((4294967295 : Nat) : Int) from rfl, h, Nat.xor_comm]
theorem not32' {x : Nat} (hx : x < 4294967296) : bits .xor .u32 (x : Int) 4294967295 = ((x ^^^ 4294967295 : Nat) : Int) := u32_xor_nat x 4294967295 hx (by omega)

set_option maxHeartbeats 1000000 in
theorem sum_any (a : Option Addr) (cap n : Nat) (l : List Nat) (w : World) (ha : IsB w a l) (ht : Tab w) (hlen : l.length ≤ 9223372036854775807) (hn : n = l.length) :
    Calls Tryd.prog 50 #[.slice a n cap] w fun e w' => e = .returned (.int .u32 ((crc l : Nat) : Int)) ∧ w' = w := by
  subst hn
  have HA : Hid (IsB w a l) := ha
  have HT : Hid (Tab w) := ht
  clear ha ht
  go_enter Tryd.func50, Tryd.ntmps50
  go_wp2
  go_loopw [3, 8] (fun v i wr => ∃ k : Nat, k ≤ l.length ∧ v = .int .u32 ((state 4294967295 (l.take k) : Nat) : Int) ∧ i = .int .i64 k ∧ wr = w) (fun _ i _ => l.length - (intOf i).toNat)
  case atStart => exact ⟨0, Nat.zero_le _, by simp [state], rfl, rfl⟩
  case round =>
    obtain ⟨k, hk, rfl, rfl, rfl⟩ := hrel
    have hst : state 4294967295 (l.take k) < 4294967296 := state_lt (by omega) _ (mem_take HA.out.2)
    by_cases hlt : k < l.length
    · have hne : l ≠ [] := by intro e; rw [e] at hlt; simp at hlt
      obtain ⟨b1, o1, rfl, hr1⟩ := HA.out.1 hne
      obtain ⟨x, hx⟩ : ∃ x, l[k]? = some x := ⟨_, List.getElem?_eq_getElem hlt⟩
      have c0 := hr1.2 k _ hx
      have hxb : x < 256 := HA.out.2 x (List.mem_of_getElem? hx)
      have q1 : (k : Int) < (l.length : Int) := by omega
      have HS : Hid (state 4294967295 (l.take (k + 1)) = feed (state 4294967295 (l.take k)) x) := state_take hx
      clear hx hne hr1
      generalize state 4294967295 (l.take k) = s at *
      have e1 : bits .xor .u32 (s : Int) (x : Int) = ((s ^^^ x : Nat) : Int) := u32_xor_nat s x hst (by omega)
      have HF : Hid (feed s x = steps 4 (steps 4 (s ^^^ x))) := steps8 _
      have h1 : s ^^^ x < 4294967296 := xor32 hst (by omega)
      generalize s ^^^ x = x1 at *
      have e2 := and15 h1
      have i1 : x1 % 16 < 16 := by omega
      have t1 := HT.out.cell _ i1
      have e3 := quarter h1
      have h2 : steps 4 x1 < 4294967296 := steps_lt 4 h1
      generalize steps 4 (x1 % 16) = y1 at *
      generalize x1 % 16 = j1 at *
      generalize steps 4 x1 = x2 at *
      have e4 := and15 h2
      have i2 : x2 % 16 < 16 := by omega
      have t2 := HT.out.cell _ i2
      have e5 := quarter h2
      have h3 : steps 4 x2 < 4294967296 := steps_lt 4 h2
      generalize steps 4 (x2 % 16) = y2 at *
      generalize x2 % 16 = j2 at *
      generalize steps 4 x2 = x3 at *
      go_wp2
      refine ⟨⟨k + 1, by omega, ?_, by go_num, trivial⟩, by simp [intOf]; omega⟩
      rw [HS.out, HF.out]
    · obtain rfl : k = l.length := by omega
      have e := not32 hst
      have HC : Hid (crc l = state 4294967295 (l.take l.length) ^^^ 4294967295) := by
        show _ = _
        rw [List.take_length]
        rfl
      generalize state 4294967295 (l.take l.length) = s at *
      go_wp2
      go_ret
      rw [HC.out, ← e]
      exact ⟨rfl, rfl⟩

theorem poly32 {x : Nat} (hx : x < 4294967296) : bits .xor .u32 ((x : Int) / 2) 2197175160 = ((x / 2 ^^^ 2197175160 : Nat) : Int) := by
  have h := u32_xor_nat (x / 2) 2197175160 (by omega) (by omega)
  rw [show ((x / 2 : Nat) : Int) = (x : Int) / 2 by omega] at h
  exact h
theorem steps_succ' (k x : Nat) : steps (k + 1) x = CMath.step (steps k x) := by rw [steps_add]; rfl
set_option maxHeartbeats 1000000 in
theorem refSum_any (a : Option Addr) (cap n : Nat) (l : List Nat) (w : World) (ha : IsB w a l) (hlen : l.length ≤ 9223372036854775807) (hn : n = l.length) :
    Calls Tryd.prog 53 #[.slice a n cap] w fun e w' => e = .returned (.int .u32 ((crc l : Nat) : Int)) ∧ w' = w := by
  subst hn
  have HA : Hid (IsB w a l) := ha
  clear ha
  go_enter Tryd.func53, Tryd.ntmps53
  go_wp2
  go_loopw [3, 4] (fun v i wr => ∃ k : Nat, k ≤ l.length ∧ v = .int .u32 ((state 4294967295 (l.take k) : Nat) : Int) ∧ i = .int .i64 k ∧ wr = w) (fun _ i _ => l.length - (intOf i).toNat)
  case atStart => exact ⟨0, Nat.zero_le _, by simp [state], rfl, rfl⟩
  case round =>
    rename World => wo
    obtain ⟨k, hk, rfl, rfl, rfl⟩ := hrel
    have hst : state 4294967295 (l.take k) < 4294967296 := state_lt (by omega) _ (mem_take HA.out.2)
    by_cases hlt : k < l.length
    · have hne : l ≠ [] := by intro e; rw [e] at hlt; simp at hlt
      obtain ⟨b1, o1, rfl, hr1⟩ := HA.out.1 hne
      obtain ⟨x, hx⟩ : ∃ x, l[k]? = some x := ⟨_, List.getElem?_eq_getElem hlt⟩
      have c0 := hr1.2 k _ hx
      have hxb : x < 256 := HA.out.2 x (List.mem_of_getElem? hx)
      have q1 : (k : Int) < (l.length : Int) := by omega
      have HS : Hid (state 4294967295 (l.take (k + 1)) = feed (state 4294967295 (l.take k)) x) := state_take hx
      clear hx hne hr1
      generalize state 4294967295 (l.take k) = s at *
      have e1 : bits .xor .u32 (s : Int) (x : Int) = ((s ^^^ x : Nat) : Int) := u32_xor_nat s x hst (by omega)
      have HF : Hid (feed s x = steps 8 (s ^^^ x)) := rfl
      have h1 : s ^^^ x < 4294967296 := xor32 hst (by omega)
      generalize s ^^^ x = x1 at *
      go_wp2
      go_loopw [3, 5] (fun v i w2 => ∃ m : Nat, m ≤ 8 ∧ v = .int .u32 ((steps m x1 : Nat) : Int) ∧ i = .int .i64 m ∧ w2 = wo) (fun _ i _ => 8 - (intOf i).toNat)
      case atStart => exact ⟨0, by omega, rfl, rfl, rfl⟩
      case round =>
        obtain ⟨m, hm, rfl, rfl, rfl⟩ := hrel
        have hs1 : steps m x1 < 4294967296 := steps_lt m h1
        by_cases hlt2 : m < 8
        · have HM : Hid (steps (m + 1) x1 = CMath.step (steps m x1)) := steps_succ' m x1
          generalize steps m x1 = y at *
          by_cases hodd : y % 2 = 1
          · have g : ((y : Int) % 2 == 1) = true := by simp; omega
            have e2 := poly32 hs1
            have HP : Hid (CMath.step y = y / 2 ^^^ 2197175160) := by show _ = _; unfold CMath.step; rw [if_pos hodd]
            generalize y / 2 ^^^ 2197175160 = z at *
            clear hodd
            go_wp2
            refine ⟨⟨m + 1, by omega, ?_, by go_num, trivial⟩, by simp [intOf]; omega⟩
            rw [HM.out, HP.out]
          · have g : ((y : Int) % 2 == 1) = false := beq_eq_false_iff_ne.2 (by omega)
            have HP : Hid (CMath.step y = y / 2) := by show _ = _; unfold CMath.step; rw [if_neg hodd]
            clear hodd
            go_wp2
            refine ⟨⟨m + 1, by omega, ?_, by go_num, trivial⟩, by simp [intOf]; omega⟩
            rw [HM.out, HP.out]
            simp
        · obtain rfl : m = 8 := by omega
          clear hm hlt2
          generalize steps 8 x1 = y at *
          go_wp2
          refine ⟨⟨k + 1, by omega, ?_, by go_num, trivial⟩, by simp [intOf]; omega⟩
          rw [HS.out, HF.out]
    · obtain rfl : k = l.length := by omega
      have e := not32' hst
      have HC : Hid (crc l = state 4294967295 (l.take l.length) ^^^ 4294967295) := by
        show _ = _
        rw [List.take_length]
        rfl
      generalize state 4294967295 (l.take l.length) = s at *
      go_wp2
      go_ret
      rw [HC.out, ← e]
      exact ⟨rfl, rfl⟩

theorem four0 (x : Nat) : (x : Int) % 256 = ((x % 256 : Nat) : Int) := by omega
theorem isB_four {w : World} {x : Nat} {T : TypeId} {y0 y1 y2 y3 : Int} (h0 : y0 = ((x % 256 : Nat) : Int)) (h1 : y1 = ((x / 256 % 256 : Nat) : Int)) (h2 : y2 = ((x / 65536 % 256 : Nat) : Int)) (h3 : y3 = ((x / 16777216 % 256 : Nat) : Int)) : IsB (w.alloc (.cells #[.int .u8 y0, .int .u8 y1, .int .u8 y2, .int .u8 y3] T)) (some ⟨w.heap.size, 0, none⟩) (four x) := by
  subst h0 h1 h2 h3
  refine IsB.some ⟨by simp, fun i z hz => ?_⟩ (four_byte x)
  rw [World.cell?_alloc_at _ _ _ _ rfl, Nat.zero_add]
  rcases i with _ | _ | _ | _ | i
  · simp [four] at hz; subst hz; rfl
  · simp [four] at hz; subst hz; rfl
  · simp [four] at hz; subst hz; rfl
  · simp [four] at hz; subst hz; rfl
  · simp [four] at hz

set_option maxHeartbeats 1000000 in
theorem appendSum_any (base : Nat) (v : Value) (pre : List Nat) (x : Nat) (w : World) (hown : w.ownsRow base 5 1 v pre.length (cellsB pre)) (hpre : ∀ x ∈ pre, x < 256) (hx : x < 4294967296) (hbase : base ≤ w.heap.size) (hk : pre.length + 4 ≤ 140737488355328) :
    Calls Tryd.prog 49 #[v, .int .u32 (x : Int)] w fun e w' => ∃ v, e = .returned v ∧ Own 5 base w' v (pre ++ four x) ∧ Below base w w' := by
  obtain ⟨i8, hi, hz0, hz1, hz2⟩ := info_parts info8
  have HO : Hid (w.ownsRow base 5 1 v pre.length (cellsB pre)) := hown
  have HP : Hid (∀ x ∈ pre, x < 256) := hpre
  clear hown hpre
  go_enter Tryd.func49, Tryd.ntmps49
  go_wp2_with (at_builtin; refine wpList_appB (by rfl) (.tmp 5) (.tmp 17) 23 (by rfl) base 5 i8 Tryd.underlying23 hi hz0 hz1 hz2 _ pre pre.length (by rfl) (HO.out.alloc _) (some ⟨w.heap.size, 0, none⟩) 4 4 (four x) (by rfl) rfl (by simp) (isB_four (by omega) (by omega) (by omega) (by omega)) (by omega) (by simp; omega) ?_; intro v2 w2 hown2 hgr2 hnn2; have HG2 : Hid ((w.alloc _).grownBy w2 _) := hgr2; have HO2 : Hid (w2.ownsRow base 5 1 v2 (pre.length + 4) (cellsB (pre ++ four x))) := hown2; clear hgr2 hown2 hnn2)
  go_ret
  exact ⟨v2, rfl, Own.pos HO2.out (byte_app HP.out (four_byte x)) (by omega), below_of ((Below.refl _ _).alloc hbase _) HG2.out hbase (fun j hj => (HO.out.lt j hj).1)⟩

set_option maxHeartbeats 1000000 in
theorem four_any (x : Nat) (w : World) (hx : x < 4294967296) :
    Calls Tryd.prog 52 #[.int .u32 (x : Int)] w fun e w' => ∃ v, e = .returned v ∧ Own 5 w.heap.size w' v (four x) ∧ Below w.heap.size w w' := by
  go_enter Tryd.func52, Tryd.ntmps52
  go_wp2
  go_ret
  have e3 : (x : Int) / 16777216 = ((x / 16777216 % 256 : Nat) : Int) := by omega
  have e2 : (x : Int) / 65536 % 256 = ((x / 65536 % 256 : Nat) : Int) := by omega
  have e1 : (x : Int) / 256 % 256 = ((x / 256 % 256 : Nat) : Int) := by omega
  have e0 : (x : Int) % 256 = ((x % 256 : Nat) : Int) := by omega
  refine ⟨_, rfl, ⟨w.heap.size, 4, rfl, ?_, four_byte x⟩, (Below.refl _ _).alloc (Nat.le_refl _) _⟩
  rw [e0, e1, e2, e3]
  exact World.ownsRow_lit w #[.int .u8 ((x % 256 : Nat) : Int), .int .u8 ((x / 256 % 256 : Nat) : Int), .int .u8 ((x / 65536 % 256 : Nat) : Int), .int .u8 ((x / 16777216 % 256 : Nat) : Int)] 4 (Nat.le_refl _) (by simp [maxLen]) (by simp)

end Cod
end Go.Proofs.YtdbiliigbinmfaaDoor
