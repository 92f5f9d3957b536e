import Derived.RangeFuncNested
import Derived.RangeFuncBound
import Derived.RangeFuncCalls
import Derived.RangeFuncLeaves
import Derived.Shelf.Abstract
import Derived.Shelf.RegionOpen
import Derived.WalkKit
import Derived.OwnWalkIn
import Derived.TacticsInMore
import Derived.LoopNIn
import Derived.LoopIn
import Derived.Maps.OwnIn
import Derived.Test.YtbloifnibgdeoaaDFil
namespace Go.Proofs.Ytbloifnibgdeoaa
namespace Dsk
open Go.RowKit Go.Shelf Go.Maps Go.Sort Byt Laws
set_option linter.unusedVariables false
set_option maxRecDepth 100000
attribute [local go_sem] Oper.semAt_some

/-- A change that may stand there. -/
def okCh (n : Nat) (c : Chg) : Prop := c.name.size ≤ maxLen ∧ c.to.size ≤ maxLen ∧ (∀ i, c.was = some i → i < n) ∧ (∀ i, c.over = some i → i < n)
abbrev OkC (n : Nat) := { c : Chg // okCh n c }
def chgV (fb : Nat → Nat) (c : Chg) : Value := .agg #[.string c.name, pv fb c.was, .string c.to, pv fb c.over]
def encC (fb : Nat → Nat) {n : Nat} (x : Nat × OkC n) : Array Value := #[.int .i64 (x.1 : Int), chgV fb x.2.1]
/-- Changes that lie in a block. -/
def ChgAt (fb : Nat → Nat) {n : Nat} (W : World) (b off : Nat) (ps : List (Nat × OkC n)) : Prop := ∀ (j : Nat) (x : Nat × OkC n), ps[j]? = some x →
  W.cell? ⟨b, off + j * 4, none⟩ = some (.string x.2.1.name) ∧ W.cell? ⟨b, off + j * 4 + 1, none⟩ = some (pv fb x.2.1.was) ∧ W.cell? ⟨b, off + j * 4 + 2, none⟩ = some (.string x.2.1.to) ∧ W.cell? ⟨b, off + j * 4 + 3, none⟩ = some (pv fb x.2.1.over)
/-- What a round keeps: the changes, and the box. -/
def KpC (b Bs : Nat) (W W' : World) : Prop := W'.heap[b]? = W.heap[b]? ∧ W'.heap[Bs]? = W.heap[Bs]?
theorem KpC.trans {b Bs : Nat} {A B C : World} (h : KpC b Bs A B) (k : KpC b Bs B C) : KpC b Bs A C := ⟨k.1.trans h.1, k.2.trans h.2⟩
theorem ChgAt.kp {fb : Nat → Nat} {n : Nat} {W W' : World} {b Bs off : Nat} {ps : List (Nat × OkC n)} (h : ChgAt fb W b off ps) (hk : W'.heap[b]? = W.heap[b]?) : ChgAt fb W' b off ps := fun j x hx => by
  obtain ⟨h1, h2, h3, h4⟩ := h j x hx
  exact ⟨(World.cell?_of_block (a := ⟨b, off + j * 4, none⟩) hk).trans h1, (World.cell?_of_block (a := ⟨b, off + j * 4 + 1, none⟩) hk).trans h2, (World.cell?_of_block (a := ⟨b, off + j * 4 + 2, none⟩) hk).trans h3, (World.cell?_of_block (a := ⟨b, off + j * 4 + 3, none⟩) hk).trans h4⟩
theorem come_step {α : Type} {ps : List α} {r : Nat} {x : α} (h : ps[r]? = some x) : (ps.drop r).reverse = (ps.drop (r + 1)).reverse ++ [x] := by
  obtain ⟨hlt, rfl⟩ := List.getElem?_eq_some_iff.1 h
  rw [List.drop_eq_getElem_cons hlt]
  simp

set_option maxHeartbeats 2000000 in
theorem back1_in (fb : Nat → Nat) {m : Nat} (n : Nat) (hn : 1 ≤ n) (l Bs b off cap : Nat) (ps : List (Nat × OkC m)) (hps : ∀ (j : Nat) (x : Nat × OkC m), ps[j]? = some x → x.1 = j) (hcap : ps.length ≤ cap) (hlen : ps.length ≤ 1000000) (J Jx : List (Nat × OkC m) → World → Prop)
    (hY : ∀ pre x W, J pre W → pre.length < ps.length → YieldAt Fence.wide (n - 1) Try.prog l (encC fb x) W fun e W' =>
      (e = .returned (.bool true) ∧ J (pre ++ [x]) W' ∧ KpC b Bs W W') ∨ (e = .returned (.bool false) ∧ Jx (pre ++ [x]) W'))
    (W : World) (hBs : W.cell? ⟨Bs, 0, none⟩ = some (.slice (some ⟨b, off, none⟩) ps.length cap)) (hc : ChgAt fb W b off ps) (h0 : J [] W) :
    CallsIn Fence.wide n Try.prog 87 #[.func (.yield l) #[] #[], .pointer (some ⟨Bs, 0, none⟩)] W fun e W' => (∃ v, e = .returned v) ∧
      ((∃ ys, ys = ps.reverse ∧ J ys W') ∨ (∃ pre, True ∧ Jx pre W')) := by
  refine callsIn_of_wp Try.func87 rfl trivial ?_ rfl
  simp only [Try.ntmps87, List.size_toArray, List.length_cons, List.length_nil, Nat.reduceAdd, Nat.reduceSub, Array.replicate_succ, Array.replicate_zero, List.push_toArray, List.append_toArray, List.nil_append, List.cons_append]
  obtain ⟨N, hN⟩ : ∃ N, N = ps.length := ⟨_, rfl⟩
  rw [← hN] at hBs hlen hcap
  have HN : Hid (N = ps.length) := hN
  have HY : Hid (∀ pre x W, J pre W → pre.length < ps.length → YieldAt Fence.wide (n - 1) Try.prog l (encC fb x) W fun e W' =>
      (e = .returned (.bool true) ∧ J (pre ++ [x]) W' ∧ KpC b Bs W W') ∨ (e = .returned (.bool false) ∧ Jx (pre ++ [x]) W')) := hY
  have HC : Hid (ChgAt fb W b off ps) := hc
  have HPS : Hid (∀ (j : Nat) (x : Nat × OkC m), ps[j]? = some x → x.1 = j) := hps
  have HBS : Hid (W.cell? ⟨Bs, 0, none⟩ = some (.slice (some ⟨b, off, none⟩) N cap)) := hBs
  have H0 : Hid (J [] W) := h0
  clear hN hY hc hps h0
  gi_wp2
  gi_loopw [3, 7, 8, 9, 10, 11, 12, 13, 14, 15, 16, 17, 18] (fun i _ _ _ _ _ _ _ _ _ _ _ _ wr => ∃ k : Nat, k ≤ N ∧ i = .int .i64 ((k : Int) - 1) ∧ J (ps.drop k).reverse wr ∧ KpC b Bs W wr)
    (fun i _ _ _ _ _ _ _ _ _ _ _ _ _ => (intOf i + 1).toNat)
  case atStart => exact ⟨N, Nat.le_refl _, by go_num, by rw [HN.out, List.drop_length]; exact H0.out, rfl, rfl⟩
  case round =>
    obtain ⟨k, hk, rfl, hJs, hkp⟩ := hrel
    cases k with
    | zero =>
      gi_wp2
      go_end0
      exact ⟨⟨_, rfl⟩, .inl ⟨_, rfl, by simpa using hJs⟩⟩
    | succ r =>
      have hlt : r < ps.length := by have := HN.out; omega
      obtain ⟨x, hx⟩ : ∃ x, ps[r]? = some x := ⟨_, List.getElem?_eq_getElem hlt⟩
      have e1 : (((r + 1 : Nat) : Int) - 1) = (r : Int) := by omega
      rw [e1]
      have hb1 : wr.cell? ⟨Bs, 0, none⟩ = some (.slice (some ⟨b, off, none⟩) N cap) := (World.cell?_of_block (a := ⟨Bs, 0, none⟩) hkp.2).trans HBS.out
      obtain ⟨c0, c1, c2, c3⟩ := (HC.out.kp (Bs := Bs) hkp.1) r x hx
      have hx1 := HPS.out r x hx
      have hlen2 : (ps.drop (r + 1)).reverse.length < ps.length := by simp; omega
      obtain ⟨fn, tmps, assign, body, hy, hR⟩ := HY.out _ x wr hJs hlen2
      have hst := come_step hx
      rw [← hst] at hR
      simp only [encC, chgV, hx1] at hy
      have hrN : (r : Int) < (N : Int) := by omega
      have hJ' := hJs
      clear hJs hx hx1 hst
      gi_wp2
      refine hR.mono ?_
      rintro e W3 (⟨rfl, hJ3, hk3⟩ | ⟨rfl, hJx3⟩)
      · gi_wp2
        go_roundw
        case rel => exact ⟨r, by omega, by go_num, hJ3, hkp.trans hk3⟩
        case measure => simp [intOf]
      · gi_wp2
        refine bodyPost_ret (results_none rfl _ _ _) rfl ?_
        exact ⟨⟨_, rfl⟩, .inr ⟨_, trivial, hJx3⟩⟩

set_option maxHeartbeats 1000000 in
theorem back1_nil (n : Nat) (l Bs : Nat) {m : Nat} (J : List (Nat × OkC m) → World → Prop) (W : World) (hBs : W.cell? ⟨Bs, 0, none⟩ = some (.slice none 0 0)) (h0 : J [] W) :
    CallsIn Fence.wide n Try.prog 87 #[.func (.yield l) #[] #[], .pointer (some ⟨Bs, 0, none⟩)] W fun e W' => (∃ v, e = .returned v) ∧ J [] W' := by
  refine callsIn_of_wp Try.func87 rfl trivial ?_ rfl
  simp only [Try.ntmps87, List.size_toArray, List.length_cons, List.length_nil, Nat.reduceAdd, Nat.reduceSub, Array.replicate_succ, Array.replicate_zero, List.push_toArray, List.append_toArray, List.nil_append, List.cons_append]
  gi_wp2
  gi_loopw [3, 7, 8, 9, 10, 11, 12, 13, 14, 15, 16, 17, 18] (fun i _ _ _ _ _ _ _ _ _ _ _ _ wr => i = .int .i64 (-1) ∧ J [] wr) (fun _ _ _ _ _ _ _ _ _ _ _ _ _ _ => 0)
  case atStart => exact ⟨rfl, h0⟩
  case round =>
    obtain ⟨rfl, hJs⟩ := hrel
    gi_wp2
    go_end0
    exact ⟨⟨_, rfl⟩, hJs⟩

/-- slices.Backward: the slice is boxed. -/
theorem back_in (n : Nat) (a : Option Addr) (len cap : Nat) (w : World) :
    CallsIn Fence.wide n Try.prog 79 #[.slice a len cap] w fun e w' => e = .returned (.func (.func 87) #[] #[.pointer (some ⟨w.heap.size, 0, none⟩)]) ∧ w' = w.alloc (.cells #[.slice a len cap] 83) := by
  refine callsIn_of_wp Try.func79 rfl trivial ?_ rfl
  simp only [Try.ntmps79, List.size_toArray, List.length_cons, List.length_nil, Nat.reduceAdd, Nat.reduceSub, Array.replicate_succ, Array.replicate_zero, List.push_toArray, List.append_toArray, List.nil_append, List.cons_append]
  gi_wp2
  go_ret
  exact ⟨rfl, rfl⟩

/-- A slice of changes: nil, or in a block. -/
def ChgS (fb : Nat → Nat) {m : Nat} (W : World) (v : Value) (ps : List (Nat × OkC m)) (b : Nat) : Prop := (v = .slice none 0 0 ∧ ps = []) ∨ ∃ off cap, v = .slice (some ⟨b, off, none⟩) ps.length cap ∧ ps.length ≤ cap ∧ ChgAt fb W b off ps
theorem back_stops (fb : Nat → Nat) {m : Nat} (n : Nat) (hn : 1 ≤ n) (Bs b : Nat) (v : Value) (ps : List (Nat × OkC m)) (hps : ∀ (j : Nat) (x : Nat × OkC m), ps[j]? = some x → x.1 = j) (hlen : ps.length ≤ 1000000) (w : World) (hBs : Bs < w.heap.size) (hb : b < w.heap.size)
    (hc : w.cell? ⟨Bs, 0, none⟩ = some v) (hI : ChgS fb w v ps b) :
    SeqStopsK Fence.wide n Try.prog 87 #[.pointer (some ⟨Bs, 0, none⟩)] (encC fb (n := m)) (KpC b Bs) (fun ys => ys = ps.reverse) (fun _ => True) ps.length w := fun l J Jx W hW _ _ hY h0 => by
  have hc' := (hW.cell (p := ⟨Bs, 0, none⟩) hBs).trans hc
  rcases hI with ⟨rfl, rfl⟩ | ⟨off, cap, rfl, hcap, hat⟩
  · exact (back1_nil n l Bs J W hc' h0).mono fun e W' ⟨he, hj⟩ => ⟨he, .inl ⟨_, rfl, hj⟩⟩
  · exact back1_in fb n hn l Bs b off cap ps hps hcap hlen J Jx hY W hc' (hat.kp (Bs := Bs) (hW.block b hb)) h0
end Dsk
end Go.Proofs.Ytbloifnibgdeoaa
