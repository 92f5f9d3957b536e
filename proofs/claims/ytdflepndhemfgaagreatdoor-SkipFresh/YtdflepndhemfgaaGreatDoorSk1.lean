import Derived.RangeFuncNested
import Derived.RangeFuncBound
import Derived.RangeFuncCalls
import Derived.RangeFuncLeaves
import Derived.Shelf.Abstract
import Derived.Shelf.RegionOpen
import Derived.WalkKit
import Derived.OwnWalkIn
import Derived.TacticsInMore
import Derived.LoopNIn
import Derived.LoopIn
import Derived.Sort.LoopGhostIn
import Derived.RegionIn
import Derived.Test.YtdflepndhemfgaaGreatDoorProg
import Derived.Test.YtdflepndhemfgaaGreatDoorSkM
import Derived.Test.YtdflepndhemfgaaGreatDoorEAp
import Derived.Test.YtdflepndhemfgaaGreatDoorEnt
namespace Go.Proofs.YtdflepndhemfgaaGreatDoor
namespace Sk
open Go.RowKit Go.Shelf Laws Irw Erw KMath Skm
set_option linter.unusedVariables false
set_option maxRecDepth 100000
attribute [local go_sem] Oper.semAt_some

def entAt (w : World) (b : Nat) (e : En) : Prop := w.cell? ⟨b, 0, none⟩ = some (.string e.1) ∧ w.cell? ⟨b, 1, none⟩ = some (.int .u64 e.2.1) ∧ w.cell? ⟨b, 2, none⟩ = some (.bool e.2.2.1) ∧ w.cell? ⟨b, 3, none⟩ = some (.string e.2.2.2)
def Tow (w : World) (b h : Nat) (r : List Nd) : Prop := ∀ i, i < 12 → i < h → w.cell? ⟨b, 5 + i, none⟩ = some (.pointer (nxt i r))
structure NodeAt (w : World) (n : Nd) (r : List Nd) : Prop where
  ent : entAt w n.b n.e
  hgt : w.cell? ⟨n.b, 4, none⟩ = some (.int .i64 (n.h : Int))
  tow : Tow w n.b n.h r
def Chain (w : World) (ns : List Nd) : Prop := ∀ z n r, ns = z ++ n :: r → NodeAt w n r
theorem entAt.keep {w w' : World} {b : Nat} {e : En} (h : entAt w b e) (hb : w'.heap[b]? = w.heap[b]?) : entAt w' b e :=
  ⟨(World.cell?_of_block (a := ⟨b, 0, none⟩) hb).trans h.1, (World.cell?_of_block (a := ⟨b, 1, none⟩) hb).trans h.2.1, (World.cell?_of_block (a := ⟨b, 2, none⟩) hb).trans h.2.2.1, (World.cell?_of_block (a := ⟨b, 3, none⟩) hb).trans h.2.2.2⟩
theorem Tow.keep {w w' : World} {b h : Nat} {r : List Nd} (ht : Tow w b h r) (hb : w'.heap[b]? = w.heap[b]?) : Tow w' b h r := fun i h1 h2 => (World.cell?_of_block (a := ⟨b, 5 + i, none⟩) hb).trans (ht i h1 h2)
theorem NodeAt.keep {w w' : World} {n : Nd} {r : List Nd} (h : NodeAt w n r) (hb : w'.heap[n.b]? = w.heap[n.b]?) : NodeAt w' n r := ⟨h.ent.keep hb, (World.cell?_of_block (a := ⟨n.b, 4, none⟩) hb).trans h.hgt, h.tow.keep hb⟩
theorem Chain.keep {w w' : World} {ns : List Nd} (h : Chain w ns) (hb : ∀ n ∈ ns, w'.heap[n.b]? = w.heap[n.b]?) : Chain w' ns := fun z n r e => (h z n r e).keep (hb n (by rw [e]; simp))
theorem Chain.lt {w : World} {ns : List Nd} (h : Chain w ns) {n : Nd} (hn : n ∈ ns) : n.b < w.heap.size := by
  obtain ⟨z, r, e⟩ := List.append_of_mem hn
  exact World.block_lt_of_cell? w _ (h z n r e).hgt
theorem Chain.node {w : World} {ns : List Nd} (h : Chain w ns) {n : Nd} (hn : n ∈ ns) : ∃ r, NodeAt w n r := by
  obtain ⟨z, r, e⟩ := List.append_of_mem hn
  exact ⟨r, h z n r e⟩

abbrev Of (ns : List Nd) := { x : Nd // x ∈ ns }
def encN {ns : List Nd} (x : Of ns) : Array Value := #[.pointer (some ⟨x.1.b, 0, none⟩)]
/-- What a round keeps: the nodes, and the two boxes. -/
def Kp (ns : List Nd) (Bn Bi : Nat) (W W' : World) : Prop := (∀ n ∈ ns, W'.heap[n.b]? = W.heap[n.b]?) ∧ W'.heap[Bn]? = W.heap[Bn]? ∧ W'.heap[Bi]? = W.heap[Bi]?
theorem Kp.trans {ns : List Nd} {Bn Bi : Nat} {A B C : World} (h : Kp ns Bn Bi A B) (k : Kp ns Bn Bi B C) : Kp ns Bn Bi A C := ⟨fun n hn => (k.1 n hn).trans (h.1 n hn), k.2.1.trans h.2.1, k.2.2.trans h.2.2⟩

set_option maxHeartbeats 2000000 in
theorem behind1_in (n : Nat) (hn : 1 ≤ n) (l Bn Bi i : Nat) (hi : i < 12) (sb sh : Nat) (hsh : i < sh) (r ns : List Nd) (hsub : ∃ z, ns = z ++ r) (J Jx : List (Of ns) → World → Prop) (B : Nat) (hJ : AbidesFrom B J)
    (hY : ∀ pre x W, J pre W → pre.length < ns.length → YieldAt Fence.wide (n - 1) Tryz.prog l (encN x) W fun e W' =>
      (e = .returned (.bool true) ∧ J (pre ++ [x]) W' ∧ Kp ns Bn Bi W W') ∨ (e = .returned (.bool false) ∧ Jx (pre ++ [x]) W'))
    (W : World) (hBn : W.cell? ⟨Bn, 0, none⟩ = some (.pointer (some ⟨sb, 0, none⟩))) (hBi : W.cell? ⟨Bi, 0, none⟩ = some (.int .i64 (i : Int))) (hT : Tow W sb sh r) (hC : Chain W ns) (h0 : J [] W) :
    CallsIn Fence.wide n Tryz.prog 46 #[.func (.yield l) #[] #[], .pointer (some ⟨Bn, 0, none⟩), .pointer (some ⟨Bi, 0, none⟩)] W fun e W' => (∃ v, e = .returned v) ∧
      ((∃ ys : List (Of ns), ys.map Subtype.val = lev i r ∧ J ys W') ∨ (∃ pre : List (Of ns), pre.map Subtype.val <+: lev i r ∧ Jx pre W')) := by
  refine callsIn_of_wp Tryz.func46 rfl trivial ?_ rfl
  simp only [Tryz.ntmps46, List.size_toArray, List.length_cons, List.length_nil, Nat.reduceAdd, Nat.reduceSub, Array.replicate_succ, Array.replicate_zero, List.push_toArray, List.append_toArray, List.nil_append, List.cons_append]
  have c0 : W.cell? ⟨sb, 5 + i, none⟩ = some (.pointer (nxt i r)) := hT i hi hsh
  have q0 : (i : Int) < 12 := by omega
  have HY : Hid (∀ pre x W, J pre W → pre.length < ns.length → YieldAt Fence.wide (n - 1) Tryz.prog l (encN x) W fun e W' =>
      (e = .returned (.bool true) ∧ J (pre ++ [x]) W' ∧ Kp ns Bn Bi W W') ∨ (e = .returned (.bool false) ∧ Jx (pre ++ [x]) W')) := hY
  have HC : Hid (Chain W ns) := hC
  have HI : Hid (W.cell? ⟨Bi, 0, none⟩ = some (.int .i64 (i : Int))) := hBi
  have HS : Hid (∃ z, ns = z ++ r) := hsub
  have H0 : Hid (J [] W) := h0
  clear hY hC hsub h0 hT
  have HJ : Hid (∀ pre W, J pre W → J pre W.drew) := fun pre W h => hJ pre W W.drew none h ⟨rfl, rfl, rfl, Nat.le_refl _, fun _ _ _ => rfl⟩ (fun r e => by cases e)
  clear hJ
  gi_wp2
  gi_region
  gi_wp2
  gi_loopg [4] (r.length) (fun k p wr => ∃ (pre : List (Of ns)) (r' : List Nd), r'.length = k ∧ p = .pointer (nxt i r') ∧ (∃ z, ns = z ++ r') ∧ pre.map Subtype.val ++ lev i r' = lev i r ∧ J pre wr ∧ Kp ns Bn Bi W wr)
  case atStart => exact ⟨[], r, rfl, rfl, HS.out, rfl, HJ.out _ _ H0.out, fun _ _ => rfl, rfl, rfl⟩
  case round =>
    obtain ⟨pre, r', hk, rfl, hz, hcome, hJs, hkp⟩ := hrel
    subst hk
    cases hd : drp i r' with
    | none =>
      obtain ⟨h1, h2⟩ := drp_none hd
      rw [h1]
      have HF : Hid (pre.map Subtype.val = lev i r) := by rw [h2, List.append_nil] at hcome; exact hcome
      clear h1 h2 hd hcome
      gi_wp2
      go_end0
      exact ⟨⟨_, rfl⟩, .inl ⟨pre, HF.out, hJs⟩⟩
    | some xs =>
      obtain ⟨x, s⟩ := xs
      obtain ⟨h1, h2, h3, z2, h4⟩ := drp_some hd
      have hlen : pre.length < ns.length := by
        obtain ⟨z, hz1⟩ := HS.out
        have h5 := congrArg List.length hcome
        have h6 : (lev i r).length ≤ r.length := List.length_filter_le _ _
        have h7 : ns.length = z.length + r.length := by rw [hz1, List.length_append]
        rw [h2] at h5
        simp at h5
        omega
      obtain ⟨z, hz1⟩ := hz
      have hx : ns = (z ++ z2) ++ x :: s := by rw [hz1, h4]; simp
      have hm : x ∈ ns := by rw [hx]; simp
      have HNX : Hid (∃ z, ns = z ++ s) := ⟨z ++ z2 ++ [x], by rw [hx]; simp⟩
      have HCM : Hid ((pre ++ [(⟨x, hm⟩ : Of ns)]).map Subtype.val ++ lev i s = lev i r) := by
        show (pre ++ [(⟨x, hm⟩ : Of ns)]).map Subtype.val ++ lev i s = lev i r
        rw [← hcome, h2]; simp
      have HSL : Hid (s.length < r'.length) := by
        show s.length < r'.length
        rw [h4]; simp; omega
      obtain ⟨fn, tmps, assign, body, hy, hR⟩ := HY.out pre ⟨x, hm⟩ wr hJs hlen
      simp only [encN] at hy
      have HR : Hid (∀ W3, Kp ns Bn Bi wr W3 → W3.cell? ⟨Bi, 0, none⟩ = some (.int .i64 (i : Int)) ∧ W3.cell? ⟨x.b, 5 + i, none⟩ = some (.pointer (nxt i s)) ∧ Kp ns Bn Bi W W3) := fun W3 hk3 => by
        have hk4 := hkp.trans hk3
        have hnode := (HC.out _ x s hx).keep (hk4.1 x hm)
        exact ⟨(World.cell?_of_block (a := ⟨Bi, 0, none⟩) hk4.2.2).trans HI.out, hnode.tow i hi h3, hk4⟩
      rw [h1]
      clear h1 h2 h3 h4 hd hz1 hx hcome hlen
      gi_wp2
      refine hR.mono ?_
      rintro e W3 (⟨rfl, hJ3, hk3⟩ | ⟨rfl, hJx3⟩)
      · obtain ⟨d1, d2, hk4⟩ := HR.out W3 hk3
        have HJ3 : Hid (J (pre ++ [⟨x, hm⟩]) W3.drew) := HJ.out _ _ hJ3
        have HK4 : Hid (Kp ns Bn Bi W W3) := hk4
        clear hJ3 hk3 hk4
        gi_wp2
        gi_region
        gi_wp2
        gi_roundg s.length
        case rel => exact ⟨_, s, rfl, rfl, HNX.out, HCM.out, HJ3.out, HK4.out⟩
        case measure => exact HSL.out
      · gi_wp2
        refine bodyPost_ret (results_none rfl _ _ _) rfl ?_
        exact ⟨⟨_, rfl⟩, .inr ⟨_, ⟨lev i s, HCM.out⟩, hJx3⟩⟩
end Sk
end Go.Proofs.YtdflepndhemfgaaGreatDoor
