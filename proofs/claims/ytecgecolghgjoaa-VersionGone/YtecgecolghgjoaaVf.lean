import Derived.Test.YtecgecolghgjoaaVe
import Derived.Maps.OwnSet
import Derived.Maps.OwnOps
import Derived.Lib.MinMax
namespace Go.Proofs.Ytecgecolghgjoaa
namespace Vr
open Go.RowKit Go.Maps Laws Irw Crw
set_option linter.unusedVariables false
set_option linter.unusedSimpArgs false
set_option maxRecDepth 20000
/-- a version all of whose blocks have tag 0 -/
def LvT (T : Nat → Nat) (w : World) (s : Sv) (V : Lv) : Prop := s.2.1 = V.length ∧ ∃ vs : List Sv, vs.length = V.length ∧ Isk kS T w s vs ∧ ∀ (i : Nat) v l, vs[i]? = some v → V[i]? = some l → Isk kTb T w v l
/-- a plain block -/
def Blk (w : World) (b : Nat) : Prop := ∃ c t, w.heap[b]? = some (Obj.cells c t (0, 0))
def VT (T : Nat → Nat) (w : World) (vb : Nat) (V : Lv) : Prop := Fits V ∧ T vb = 0 ∧ Blk w vb ∧ ∃ s : Sv, Zb w vb [svV s] ∧ LvT T w s V
theorem Isk.ls {α : Type} {K : Knd α} {T : Nat → Nat} {w : World} {s : Sv} {l : List α} (h : Isk K T w s l) : Ls K w s l := ⟨h.1, h.2.1, h.2.2.1, h.2.2.2.1, h.2.2.2.2.1⟩
theorem Isk.re {α : Type} {K : Knd α} {T T' : Nat → Nat} {w : World} {s : Sv} {l : List α} (h : Isk K T w s l) (hT : ∀ b, b < w.heap.size → T b = 0 → T' b = 0) : Isk K T' w s l := by
  obtain ⟨h1, h2, h3, h4, h5, h6⟩ := h
  exact ⟨h1, h2, h3, h4, h5, fun b off e => ⟨hT b (h6 b off e).2 (h6 b off e).1, (h6 b off e).2⟩⟩
theorem VT.at_ {T : Nat → Nat} {w : World} {vb : Nat} {V : Lv} (h : VT T w vb V) : VAt w vb V := by
  obtain ⟨h1, h2, hk, s, h3, h4, vs, h5, h6, h7⟩ := h
  exact ⟨h1, s, h3, h4, vs, h5, h6.1, fun i v l hv hl => (h7 i v l hv hl).ls⟩
theorem VT.goes {t : Nat → Prop} {T T' : Nat → Nat} {w w' : World} {vb : Nat} {V : Lv} (h : VT T w vb V) (hg : Goes t T w T' w') (ht : ¬ t 0) : VT T' w' vb V := by
  obtain ⟨h1, h2, ⟨hc, hy, hk⟩, s, h3, h4, vs, h5, h6, h7⟩ := h
  exact ⟨h1, (hg.tag vb h3.1 (by rw [h2]; exact ht)).trans h2, ⟨hc, hy, (hg.block vb h3.1 (by rw [h2]; exact ht)).trans hk⟩, s, h3.goes hg (by rw [h2]; exact ht), h4, vs, h5, h6.goes hg ht, fun i v l hv hl => (h7 i v l hv hl).goes hg ht⟩
theorem VT.re {T T' : Nat → Nat} {w : World} {vb : Nat} {V : Lv} (h : VT T w vb V) (hT : ∀ b, b < w.heap.size → T b = 0 → T' b = 0) : VT T' w vb V := by
  obtain ⟨h1, h2, hk, s, h3, h4, vs, h5, h6, h7⟩ := h
  exact ⟨h1, hT vb h3.1 h2, hk, s, h3, h4, vs, h5, h6.re hT, fun i v l hv hl => (h7 i v l hv hl).re hT⟩
/-- blocks from h on -/
def lowT (h : Nat) : Nat → Nat := fun b => if b < h then 1 else 0
theorem lowT_ge {h b : Nat} (k : lowT h b = 0) : h ≤ b := by
  unfold lowT at k
  split at k
  · cases k
  · omega
theorem lowT_of {h b : Nat} (k : h ≤ b) : lowT h b = 0 := by unfold lowT; rw [if_neg (by omega)]
abbrev Dat := DataW (Option Addr)
/-- the set: its block has tag 1, its map tag 2 -/
structure SAt (T : Nat → Nat) (w : World) (sb vb mb : Nat) (V : Lv) : Prop where
  ts : T sb = 1
  tm : T mb = 2
  box : ∃ ps : Sv, Zb w sb [.pointer (some ⟨vb, 0, none⟩), .slice none 0 0, svV ps, .map (some mb)]
  ver : VT T w vb V
  map : ∃ (m : Nat) (D : Dat), w.ownsMap Try.prog 33 (plainElem Try.prog 3) mb m D
/-- cells of a block -/
theorem Zb.heap {w : World} {B : Nat} {vs : Array Value} {t : TypeId} (h : w.heap[B]? = Option.some (Obj.cells vs t)) : Zb w B vs.toList := by
  refine ⟨(Array.getElem?_eq_some_iff.1 h).1, fun j v hv => ?_, fun j => ?_⟩
  · have hv' : vs[j]? = Option.some v := by simpa using hv
    simp [World.cell?, h, hv']
  · simp [World.frozen?, h]
end Vr
end Go.Proofs.Ytecgecolghgjoaa
