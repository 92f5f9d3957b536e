import Derived.RangeFuncNested
import Derived.RangeFuncBound
import Derived.RangeFuncCalls
import Derived.RangeFuncLeaves
import Derived.Shelf.Abstract
import Derived.Shelf.RegionOpen
import Derived.WalkKit
import Derived.OwnWalkIn
import Derived.TacticsInMore
import Derived.LoopNIn
import Derived.LoopIn
import Derived.Sort.LoopGhostIn
import Derived.RegionIn
import Derived.Test.YtcioaoanhmpdkaaProg
import Derived.Test.YtcioaoanhmpdkaaSkM
import Derived.Test.YtcioaoanhmpdkaaEAp
import Derived.Test.YtcioaoanhmpdkaaEnt
namespace Go.Proofs.Ytcioaoanhmpdkaa
namespace Sk
open Go.RowKit Go.Shelf Laws Irw Erw KMath Skm
set_option linter.unusedVariables false
set_option maxRecDepth 100000
attribute [local go_sem] Oper.semAt_some

def entAt (w : World) (b : Nat) (e : En) : Prop := w.cell? ⟨b, 0, none⟩ = some (.string e.1) ∧ w.cell? ⟨b, 1, none⟩ = some (.int .u64 e.2.1) ∧ w.cell? ⟨b, 2, none⟩ = some (.bool e.2.2.1) ∧ w.cell? ⟨b, 3, none⟩ = some (.string e.2.2.2)
def Tow (w : World) (b h : Nat) (r : List Nd) : Prop := ∀ i, i < 12 → i < h → w.cell? ⟨b, 5 + i, none⟩ = some (.pointer (nxt i r))
structure NodeAt (w : World) (n : Nd) (r : List Nd) : Prop where
  ent : entAt w n.b n.e
  hgt : w.cell? ⟨n.b, 4, none⟩ = some (.int .i64 (n.h : Int))
  tow : Tow w n.b n.h r
def Chain (w : World) (ns : List Nd) : Prop := ∀ z n r, ns = z ++ n :: r → NodeAt w n r
theorem entAt.keep {w w' : World} {b : Nat} {e : En} (h : entAt w b e) (hb : w'.heap[b]? = w.heap[b]?) : entAt w' b e :=
  ⟨(World.cell?_of_block (a := ⟨b, 0, none⟩) hb).trans h.1, (World.cell?_of_block (a := ⟨b, 1, none⟩) hb).trans h.2.1, (World.cell?_of_block (a := ⟨b, 2, none⟩) hb).trans h.2.2.1, (World.cell?_of_block (a := ⟨b, 3, none⟩) hb).trans h.2.2.2⟩
theorem Tow.keep {w w' : World} {b h : Nat} {r : List Nd} (ht : Tow w b h r) (hb : w'.heap[b]? = w.heap[b]?) : Tow w' b h r := fun i h1 h2 => (World.cell?_of_block (a := ⟨b, 5 + i, none⟩) hb).trans (ht i h1 h2)
theorem NodeAt.keep {w w' : World} {n : Nd} {r : List Nd} (h : NodeAt w n r) (hb : w'.heap[n.b]? = w.heap[n.b]?) : NodeAt w' n r := ⟨h.ent.keep hb, (World.cell?_of_block (a := ⟨n.b, 4, none⟩) hb).trans h.hgt, h.tow.keep hb⟩
theorem Chain.keep {w w' : World} {ns : List Nd} (h : Chain w ns) (hb : ∀ n ∈ ns, w'.heap[n.b]? = w.heap[n.b]?) : Chain w' ns := fun z n r e => (h z n r e).keep (hb n (by rw [e]; simp))
theorem Chain.lt {w : World} {ns : List Nd} (h : Chain w ns) {n : Nd} (hn : n ∈ ns) : n.b < w.heap.size := by
  obtain ⟨z, r, e⟩ := List.append_of_mem hn
  exact World.block_lt_of_cell? w _ (h z n r e).hgt
theorem Chain.node {w : World} {ns : List Nd} (h : Chain w ns) {n : Nd} (hn : n ∈ ns) : ∃ r, NodeAt w n r := by
  obtain ⟨z, r, e⟩ := List.append_of_mem hn
  exact ⟨r, h z n r e⟩

abbrev Of (ns : List Nd) := { x : Nd // x ∈ ns }
def encN {ns : List Nd} (x : Of ns) : Array Value := #[.pointer (some ⟨x.1.b, 0, none⟩)]
/-- What a round keeps: the nodes, and the two boxes. -/
def Kp (ns : List Nd) (Bn Bi : Nat) (W W' : World) : Prop := (∀ n ∈ ns, W'.heap[n.b]? = W.heap[n.b]?) ∧ W'.heap[Bn]? = W.heap[Bn]? ∧ W'.heap[Bi]? = W.heap[Bi]?
theorem Kp.trans {ns : List Nd} {Bn Bi : Nat} {A B C : World} (h : Kp ns Bn Bi A B) (k : Kp ns Bn Bi B C) : Kp ns Bn Bi A C := ⟨fun n hn => (k.1 n hn).trans (h.1 n hn), k.2.1.trans h.2.1, k.2.2.trans h.2.2⟩

set_option maxHeartbeats 2000000 in
theorem behind1_in (n : Nat) (hn : 1 ≤ n) (l Bn Bi i : Nat) (hi : i < 12) (sb sh : Nat) (hsh : i < sh) (r ns : List Nd) (hsub : ∃ z, ns = z ++ r) (J Jx : List (Of ns) → World → Prop) (B : Nat) (hJ : AbidesFrom B J)
    (hY : ∀ pre x W, J pre W → pre.length < ns.length → YieldAt Fence.wide (n - 1) Try.prog l (encN x) W fun e W' =>
      (e = .returned (.bool true) ∧ J (pre ++ [x]) W' ∧ Kp ns Bn Bi W W') ∨ (e = .returned (.bool false) ∧ Jx (pre ++ [x]) W'))
    (W : World) (hBn : W.cell? ⟨Bn, 0, none⟩ = some (.pointer (some ⟨sb, 0, none⟩))) (hBi : W.cell? ⟨Bi, 0, none⟩ = some (.int .i64 (i : Int))) (hT : Tow W sb sh r) (hC : Chain W ns) (h0 : J [] W) :
    CallsIn Fence.wide n Try.prog 100 #[.func (.yield l) #[] #[], .pointer (some ⟨Bn, 0, none⟩), .pointer (some ⟨Bi, 0, none⟩)] W fun e W' => (∃ v, e = .returned v) ∧
      ((∃ ys : List (Of ns), ys.map Subtype.val = lev i r ∧ J ys W') ∨ (∃ pre : List (Of ns), pre.map Subtype.val <+: lev i r ∧ Jx pre W')) := by
  refine callsIn_of_wp Try.func100 rfl trivial ?_ rfl
  simp only [Try.ntmps100, List.size_toArray, List.length_cons, List.length_nil, Nat.reduceAdd, Nat.reduceSub, Array.replicate_succ, Array.replicate_zero, List.push_toArray, List.append_toArray, List.nil_append, List.cons_append]
  have c0 : W.cell? ⟨sb, 5 + i, none⟩ = some (.pointer (nxt i r)) := hT i hi hsh
  have q0 : (i : Int) < 12 := by omega
  have HY : Hid (∀ pre x W, J pre W → pre.length < ns.length → YieldAt Fence.wide (n - 1) Try.prog l (encN x) W fun e W' =>
      (e = .returned (.bool true) ∧ J (pre ++ [x]) W' ∧ Kp ns Bn Bi W W') ∨ (e = .returned (.bool false) ∧ Jx (pre ++ [x]) W')) := hY
  have HC : Hid (Chain W ns) := hC
  have HI : Hid (W.cell? ⟨Bi, 0, none⟩ = some (.int .i64 (i : Int))) := hBi
  have HS : Hid (∃ z, ns = z ++ r) := hsub
  have H0 : Hid (J [] W) := h0
  clear hY hC hsub h0 hT
  have HJ : Hid (∀ pre W, J pre W → J pre W.drew) := fun pre W h => hJ pre W W.drew none h ⟨rfl, rfl, rfl, Nat.le_refl _, fun _ _ _ => rfl⟩ (fun r e => by cases e)
  clear hJ
  gi_wp2
  gi_region
  gi_wp2
  gi_loopg [4] (r.length) (fun k p wr => ∃ (pre : List (Of ns)) (r' : List Nd), r'.length = k ∧ p = .pointer (nxt i r') ∧ (∃ z, ns = z ++ r') ∧ pre.map Subtype.val ++ lev i r' = lev i r ∧ J pre wr ∧ Kp ns Bn Bi W wr)
  case atStart => exact ⟨[], r, rfl, rfl, HS.out, rfl, HJ.out _ _ H0.out, fun _ _ => rfl, rfl, rfl⟩
  case round =>
    obtain ⟨pre, r', hk, rfl, hz, hcome, hJs, hkp⟩ := hrel
    subst hk
    cases hd : drp i r' with
    | none =>
      obtain ⟨h1, h2⟩ := drp_none hd
      rw [h1]
      have HF : Hid (pre.map Subtype.val = lev i r) := by rw [h2, List.append_nil] at hcome; exact hcome
      clear h1 h2 hd hcome
      gi_wp2
      go_end0
      exact ⟨⟨_, rfl⟩, .inl ⟨pre, HF.out, hJs⟩⟩
    | some xs =>
      obtain ⟨x, s⟩ := xs
      obtain ⟨h1, h2, h3, z2, h4⟩ := drp_some hd
      have hlen : pre.length < ns.length := by
        obtain ⟨z, hz1⟩ := HS.out
        have h5 := congrArg List.length hcome
        have h6 : (lev i r).length ≤ r.length := List.length_filter_le _ _
        have h7 : ns.length = z.length + r.length := by rw [hz1, List.length_append]
        rw [h2] at h5
        simp at h5
        omega
      obtain ⟨z, hz1⟩ := hz
      have hx : ns = (z ++ z2) ++ x :: s := by rw [hz1, h4]; simp
      have hm : x ∈ ns := by rw [hx]; simp
      have HNX : Hid (∃ z, ns = z ++ s) := ⟨z ++ z2 ++ [x], by rw [hx]; simp⟩
      have HCM : Hid ((pre ++ [(⟨x, hm⟩ : Of ns)]).map Subtype.val ++ lev i s = lev i r) := by
        show (pre ++ [(⟨x, hm⟩ : Of ns)]).map Subtype.val ++ lev i s = lev i r
        rw [← hcome, h2]; simp
      have HSL : Hid (s.length < r'.length) := by
        show s.length < r'.length
        rw [h4]; simp; omega
      obtain ⟨fn, tmps, assign, body, hy, hR⟩ := HY.out pre ⟨x, hm⟩ wr hJs hlen
      simp only [encN] at hy
      have HR : Hid (∀ W3, Kp ns Bn Bi wr W3 → W3.cell? ⟨Bi, 0, none⟩ = some (.int .i64 (i : Int)) ∧ W3.cell? ⟨x.b, 5 + i, none⟩ = some (.pointer (nxt i s)) ∧ Kp ns Bn Bi W W3) := fun W3 hk3 => by
        have hk4 := hkp.trans hk3
        have hnode := (HC.out _ x s hx).keep (hk4.1 x hm)
        exact ⟨(World.cell?_of_block (a := ⟨Bi, 0, none⟩) hk4.2.2).trans HI.out, hnode.tow i hi h3, hk4⟩
      rw [h1]
      clear h1 h2 h3 h4 hd hz1 hx hcome hlen
      gi_wp2
      refine hR.mono ?_
      rintro e W3 (⟨rfl, hJ3, hk3⟩ | ⟨rfl, hJx3⟩)
      · obtain ⟨d1, d2, hk4⟩ := HR.out W3 hk3
        have HJ3 : Hid (J (pre ++ [⟨x, hm⟩]) W3.drew) := HJ.out _ _ hJ3
        have HK4 : Hid (Kp ns Bn Bi W W3) := hk4
        clear hJ3 hk3 hk4
        gi_wp2
        gi_region
        gi_wp2
        gi_roundg s.length
        case rel => exact ⟨_, s, rfl, rfl, HNX.out, HCM.out, HJ3.out, HK4.out⟩
        case measure => exact HSL.out
      · gi_wp2
        refine bodyPost_ret (results_none rfl _ _ _) rfl ?_
        exact ⟨⟨_, rfl⟩, .inr ⟨_, ⟨lev i s, HCM.out⟩, hJx3⟩⟩
end Sk
end Go.Proofs.Ytcioaoanhmpdkaa
namespace Go.Proofs.Ytcioaoanhmpdkaa
namespace Sk
open Go.RowKit Go.Shelf Laws Irw Erw KMath Skm
set_option linter.unusedVariables false
set_option maxRecDepth 100000
attribute [local go_sem] Oper.semAt_some

theorem behind_in (n : Nat) (p : Option Addr) (i : Int) (w : World) :
    CallsIn Fence.wide n Try.prog 90 #[.pointer p, .int .i64 i] w fun e w' => e = .returned (.func (.func 100) #[] #[.pointer (some ⟨w.heap.size, 0, none⟩), .pointer (some ⟨w.heap.size + 1, 0, none⟩)]) ∧ w' = (w.alloc (.cells #[.pointer p] 119)).alloc (.cells #[.int .i64 i] 3) := by
  refine callsIn_of_wp Try.func90 rfl trivial ?_ rfl
  simp only [Try.ntmps90, List.size_toArray, List.length_cons, List.length_nil, Nat.reduceAdd, Nat.reduceSub, Array.replicate_succ, Array.replicate_zero, List.push_toArray, List.append_toArray, List.nil_append, List.cons_append]
  gi_wp2
  go_ret
  exact ⟨rfl, rfl⟩

theorem behind_stops (n : Nat) (hn : 1 ≤ n) (Bn Bi i : Nat) (hi : i < 12) (sb sh : Nat) (hsh : i < sh) (r ns : List Nd) (hsub : ∃ z, ns = z ++ r) (w : World) (hBn : w.cell? ⟨Bn, 0, none⟩ = some (.pointer (some ⟨sb, 0, none⟩))) (hBi : w.cell? ⟨Bi, 0, none⟩ = some (.int .i64 (i : Int))) (hT : Tow w sb sh r) (hsb : sb < w.heap.size) (hC : Chain w ns) :
    SeqStopsK Fence.wide n Try.prog 100 #[.pointer (some ⟨Bn, 0, none⟩), .pointer (some ⟨Bi, 0, none⟩)] (encN (ns := ns)) (Kp ns Bn Bi) (fun ys => ys.map Subtype.val = lev i r) (fun pre => pre.map Subtype.val <+: lev i r) ns.length w := fun l J Jx W hW hJ hJx hY h0 => by
  have h1 := World.block_lt_of_cell? w _ hBn
  have h2 := World.block_lt_of_cell? w _ hBi
  exact behind1_in n hn l Bn Bi i hi sb sh hsh r ns hsub J Jx W.heap.size hJ hY W ((hW.cell (p := ⟨Bn, 0, none⟩) h1).trans hBn) ((hW.cell (p := ⟨Bi, 0, none⟩) h2).trans hBi) (hT.keep (hW.block sb hsb)) (hC.keep fun m hm => hW.block _ (hC.lt hm)) h0

/-- Marks that a function leaves behind: they are taken in, one by one. -/
theorem leaves_marks {F : Fence} {n : Nat} {P : Program} {fn : Func} {tmps : Array Value} {R : Ending → World → Prop} {B0 : Nat} : ∀ (Ds : List Nat) (w : World), (∀ D ∈ Ds, B0 ≤ D ∧ w.heap[D]? = some (.deferred (some []))) → Ds.Nodup →
    (∀ w', Below B0 w w' → (∀ b, b ∉ Ds → w'.heap[b]? = w.heap[b]?) → LeavesIn F n P fn tmps R [] .returning w') → LeavesInM F n P fn tmps R (Ds.map fun D => { target := .collected D, args := #[] }) .returning w
  | [], w, _, _, h => h w (Below.refl _ _) (fun _ _ => rfl)
  | D :: Ds, w, hD, hnd, h => by
    obtain ⟨hnD, hnd'⟩ := List.nodup_cons.1 hnd
    obtain ⟨hle, hobj⟩ := hD D List.mem_cons_self
    have hb1 : Below B0 w (w.putObj D (.deferred none)) := ⟨rfl, rfl, rfl, by simp, fun k hk => World.putObj_heap_other (by omega)⟩
    refine ⟨by simp, .inl ⟨_, _, rfl, run_takeDeferred hobj, ?_⟩⟩
    refine leaves_marks Ds _ (fun E hE => ⟨(hD E (List.mem_cons_of_mem _ hE)).1, ?_⟩) hnd' (fun w' hb hk => h w' (hb1.trans hb) fun b hb' => ?_)
    · rw [World.putObj_heap_other (by rintro rfl; exact hnD hE)]
      exact (hD E (List.mem_cons_of_mem _ hE)).2
    · rw [List.mem_cons, not_or] at hb'
      rw [hk b hb'.2, World.putObj_heap_other hb'.1]
theorem not_mark {w : World} {Ds : List Nat} {B0 : Nat} (hD : ∀ D ∈ Ds, B0 ≤ D ∧ w.heap[D]? = some (.deferred (some []))) {b o : Nat} {v : Value} (h : w.cell? ⟨b, o, none⟩ = some v) : b ∉ Ds := fun hm => by
  have := (hD b hm).2
  simp [World.cell?, this] at h
end Sk
end Go.Proofs.Ytcioaoanhmpdkaa
namespace Go.Proofs.Ytcioaoanhmpdkaa
namespace Sk
open Go.RowKit Go.Shelf Laws Irw Erw KMath Skm
set_option linter.unusedVariables false
set_option maxRecDepth 100000
attribute [local go_sem] Oper.semAt_some

def lp (L i : Nat) (p : List Nd) : Value := .pointer (some ⟨lst L i p, 0, none⟩)
def lastV (L : Nat) (p : List Nd) : Value := .agg #[lp L 0 p, lp L 1 p, lp L 2 p, lp L 3 p, lp L 4 p, lp L 5 p, lp L 6 p, lp L 7 p, lp L 8 p, lp L 9 p, lp L 10 p, lp L 11 p]
def mark (D : Nat) : Deferred := { target := .collected D, args := #[] }
def lastB (s : Nat) (l : List Nd) : Nat := l.foldl (fun _ n => n.b) s

/-- What stands while 'ahead' goes down. -/
structure Fr (w0 : World) (L : Nat) (pre : List Nd) (e : En) (j : Nat) (Ds : List Nat) (at_ : Nat) (W : World) : Prop where
  below : Below w0.heap.size w0 W
  box : entAt W w0.heap.size e
  res : ∀ i, i < 12 → W.cell? ⟨w0.heap.size + 1, i, none⟩ = some (.pointer none) ∧ W.frozen? ⟨w0.heap.size + 1, i, none⟩ = false
  arr : ∀ i, i < 12 → W.cell? ⟨w0.heap.size + 2, i, none⟩ = some (if j ≤ i then lp L i pre else .pointer none) ∧ W.frozen? ⟨w0.heap.size + 2, i, none⟩ = false
  pos : W.cell? ⟨w0.heap.size + 3, 0, none⟩ = some (.pointer (some ⟨at_, 0, none⟩)) ∧ W.frozen? ⟨w0.heap.size + 3, 0, none⟩ = false
  marks : ∀ D ∈ Ds, w0.heap.size + 4 ≤ D ∧ W.heap[D]? = some (.deferred (some []))
theorem Fr.keep {w0 : World} {L : Nat} {pre : List Nd} {e : En} {j : Nat} {Ds : List Nat} {at_ : Nat} {W W' : World} (h : Fr w0 L pre e j Ds at_ W) (hb : Below w0.heap.size W W') (hc : ∀ b, w0.heap.size ≤ b → b < w0.heap.size + 4 → W'.heap[b]? = W.heap[b]?) (hm : ∀ D ∈ Ds, W'.heap[D]? = W.heap[D]?) : Fr w0 L pre e j Ds at_ W' := by
  refine ⟨h.below.trans hb, h.box.keep (hc _ (Nat.le_refl _) (by omega)), fun i hi => ?_, fun i hi => ?_, ?_, fun D hD => ⟨(h.marks D hD).1, (hm D hD).trans (h.marks D hD).2⟩⟩
  · have := hc (w0.heap.size + 1) (by omega) (by omega)
    exact ⟨(World.cell?_of_block (a := ⟨_, i, none⟩) this).trans (h.res i hi).1, (World.frozen?_of_block (a := ⟨_, i, none⟩) this).trans (h.res i hi).2⟩
  · have := hc (w0.heap.size + 2) (by omega) (by omega)
    exact ⟨(World.cell?_of_block (a := ⟨_, i, none⟩) this).trans (h.arr i hi).1, (World.frozen?_of_block (a := ⟨_, i, none⟩) this).trans (h.arr i hi).2⟩
  · have := hc (w0.heap.size + 3) (by omega) (by omega)
    exact ⟨(World.cell?_of_block (a := ⟨_, 0, none⟩) this).trans h.pos.1, (World.frozen?_of_block (a := ⟨_, 0, none⟩) this).trans h.pos.2⟩
theorem Fr.lt {w0 : World} {L : Nat} {pre : List Nd} {e : En} {j : Nat} {Ds : List Nat} {at_ : Nat} {W : World} (h : Fr w0 L pre e j Ds at_ W) : w0.heap.size + 3 < W.heap.size := World.block_lt_of_cell? W _ h.pos.1
theorem Fr.mlt {w0 : World} {L : Nat} {pre : List Nd} {e : En} {j : Nat} {Ds : List Nat} {at_ : Nat} {W : World} (h : Fr w0 L pre e j Ds at_ W) {D : Nat} (hD : D ∈ Ds) : D < W.heap.size := (Array.getElem?_eq_some_iff.1 (h.marks D hD).2).1
theorem Fr.under {w0 : World} {L : Nat} {pre : List Nd} {e : En} {j : Nat} {Ds : List Nat} {at_ : Nat} {W W' : World} (h : Fr w0 L pre e j Ds at_ W) (hb : Below W.heap.size W W') : Fr w0 L pre e j Ds at_ W' :=
  h.keep (hb.mono h.below.size) (fun b _ hb' => hb.block b (by have := h.lt; omega)) (fun D hD => hb.block D (h.mlt hD))
theorem Fr.own {w0 : World} {L : Nat} {pre : List Nd} {e : En} {j : Nat} {Ds : List Nat} {at_ : Nat} {A B : World} {Bd : Nat} {row : Option Nat} (h : Fr w0 L pre e j Ds at_ A) (hg : A.grownBy B row) (hr : ∀ r, row = some r → Bd ≤ r) (hB : w0.heap.size + 4 ≤ Bd) (hD : ∀ D ∈ Ds, D < Bd) : Fr w0 L pre e j Ds at_ B := by
  have hk : ∀ b, b < Bd → b < A.heap.size → B.heap[b]? = A.heap[b]? := fun b h1 h2 => hg.block b h2 (fun e => by have := hr b e.symm; omega)
  have hlt := h.lt
  exact h.keep ⟨hg.os, hg.tape, hg.output, hg.size, fun b hb => hk b (by omega) (by omega)⟩ (fun b _ hb => hk b (by omega) (by omega)) (fun D hm => hk D (hD D hm) (h.mlt hm))
/-- 'at' has turned -/
theorem Fr.setAt {w0 : World} {L : Nat} {pre : List Nd} {e : En} {j : Nat} {Ds : List Nat} {at_ : Nat} {W : World} (h : Fr w0 L pre e j Ds at_ W) (b : Nat) : Fr w0 L pre e j Ds b (W.setCell ⟨w0.heap.size + 3, 0, none⟩ (.pointer (some ⟨b, 0, none⟩))) := by
  have hk : ∀ q, q ≠ w0.heap.size + 3 → (W.setCell ⟨w0.heap.size + 3, 0, none⟩ (.pointer (some ⟨b, 0, none⟩))).heap[q]? = W.heap[q]? := fun q hq => Below.heap_setCell W _ _ q hq
  refine ⟨h.below.setCell (p := ⟨w0.heap.size + 3, 0, none⟩) (by simp) _, h.box.keep (hk _ (by omega)), fun i hi => ?_, fun i hi => ?_, ⟨World.cell?_setCell_same _ _ _ h.pos.1, by rw [World.frozen?_setCell]; exact h.pos.2⟩, fun D hD => ⟨(h.marks D hD).1, (hk D (by have := (h.marks D hD).1; omega)).trans (h.marks D hD).2⟩⟩
  · have := hk (w0.heap.size + 1) (by omega)
    exact ⟨(World.cell?_of_block (a := ⟨_, i, none⟩) this).trans (h.res i hi).1, (World.frozen?_of_block (a := ⟨_, i, none⟩) this).trans (h.res i hi).2⟩
  · have := hk (w0.heap.size + 2) (by omega)
    exact ⟨(World.cell?_of_block (a := ⟨_, i, none⟩) this).trans (h.arr i hi).1, (World.frozen?_of_block (a := ⟨_, i, none⟩) this).trans (h.arr i hi).2⟩
/-- 'last[i] = at' -/
theorem Fr.setArr {w0 : World} {L : Nat} {pre : List Nd} {e : En} {j : Nat} {Ds : List Nat} {W : World} (h : Fr w0 L pre e (j + 1) Ds (lst L j pre) W) (hj : j < 12) : Fr w0 L pre e j Ds (lst L j pre) (W.setCell ⟨w0.heap.size + 2, j, none⟩ (.pointer (some ⟨lst L j pre, 0, none⟩))) := by
  have hk : ∀ q, q ≠ w0.heap.size + 2 → (W.setCell ⟨w0.heap.size + 2, j, none⟩ (.pointer (some ⟨lst L j pre, 0, none⟩))).heap[q]? = W.heap[q]? := fun q hq => Below.heap_setCell W _ _ q hq
  refine ⟨h.below.setCell (p := ⟨w0.heap.size + 2, j, none⟩) (by simp) _, h.box.keep (hk _ (by omega)), fun i hi => ?_, fun i hi => ?_, ?_, fun D hD => ⟨(h.marks D hD).1, (hk D (by have := (h.marks D hD).1; omega)).trans (h.marks D hD).2⟩⟩
  · have := hk (w0.heap.size + 1) (by omega)
    exact ⟨(World.cell?_of_block (a := ⟨_, i, none⟩) this).trans (h.res i hi).1, (World.frozen?_of_block (a := ⟨_, i, none⟩) this).trans (h.res i hi).2⟩
  · refine ⟨?_, by rw [World.frozen?_setCell]; exact (h.arr i hi).2⟩
    by_cases hij : i = j
    · subst hij
      rw [if_pos (Nat.le_refl _)]
      exact World.cell?_setCell_same _ _ _ (h.arr i hi).1
    · rw [World.cell?_setCell_other W ⟨w0.heap.size + 2, j, none⟩ ⟨w0.heap.size + 2, i, none⟩ _ (fun e => hij (by simpa using e.symm)), (h.arr i hi).1]
      by_cases h1 : j + 1 ≤ i
      · rw [if_pos h1, if_pos (by omega)]
      · rw [if_neg h1, if_neg (by omega)]
  · have := hk (w0.heap.size + 3) (by omega)
    exact ⟨(World.cell?_of_block (a := ⟨_, 0, none⟩) this).trans h.pos.1, (World.frozen?_of_block (a := ⟨_, 0, none⟩) this).trans h.pos.2⟩
theorem Fr.more {w0 : World} {L : Nat} {pre : List Nd} {e : En} {j : Nat} {Ds : List Nat} {at_ : Nat} {W : World} (h : Fr w0 L pre e j Ds at_ W) {D : Nat} (h1 : w0.heap.size + 4 ≤ D) (h2 : W.heap[D]? = some (.deferred (some []))) : Fr w0 L pre e j (D :: Ds) at_ W :=
  ⟨h.below, h.box, h.res, h.arr, h.pos, fun E hE => by
    rcases List.mem_cons.1 hE with rfl | hE
    · exact ⟨h1, h2⟩
    · exact h.marks E hE⟩
end Sk
end Go.Proofs.Ytcioaoanhmpdkaa
