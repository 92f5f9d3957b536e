import Derived.Test.YtaejjpbpnedblaaGreatFo
import Derived.OrdersHeld
import Derived.Deep.CutRange
import Derived.Deep.CutBlock
import Derived.Deep.DeepCutAuto
import Derived.Deep.RegionHeld3
import Derived.BigQuiet
namespace Go.Proofs.YtaejjpbpnedblaaGreat
namespace Vr
open Go.Shelf Go.RowKit Go.Lib Go.Sort Go.Maps Go.ChangeMaps Go.MapKept Laws Irw Crw
set_option linter.unusedVariables false
set_option linter.unusedSimpArgs false
set_option maxRecDepth 20000
/-- the upper tables' hull, as the law reckons it -/
def hulT (j : Jb) : Tb := { j.up.getD 0 noT with le := hLe j.up, gr := hGr j.up }
def hulK (u : Tb) (up : List Tb) (k : Nat) : Tb := { u with le := (up.take k).foldl (fun a t => minS a t.le) u.le, gr := (up.take k).foldl (fun a t => maxS a t.gr) u.gr }
theorem hulK_all {j : Jb} {u : Tb} (h : j.up[0]? = some u) : hulK u j.up j.up.length = hulT j := by
  have e : j.up.getD 0 noT = u := by rw [List.getD, h]; rfl
  unfold hulK hulT hLe hGr
  rw [e, List.take_length]
theorem hulK_succ {u t : Tb} {up : List Tb} {k : Nat} (h : up[k]? = some t) : hulK u up (k + 1) = { hulK u up k with le := minS (hulK u up k).le t.le, gr := maxS (hulK u up k).gr t.gr } := by
  unfold hulK
  rw [List.take_add_one, h]
  simp only [Option.toList_some, List.foldl_append, List.foldl_cons, List.foldl_nil]
/-- a job as P16.5 says -/
structure FairJ (c : Cf) (V : Lv) (j : Jb) (i : Nat) : Prop where
  lv : j.lv = (i : Int)
  il : i + 1 < V.length
  up : 0 < j.up.length
  len : j.up.length ≤ 1000000 ∧ j.lo.length ≤ 1000000
  ins : ∀ u ∈ j.up, tin (lev V (i : Int)) u.no = true
  low : ∀ x ∈ j.lo, tin (lev V ((i + 1 : Nat) : Int)) x.no = true ∧ ovT x (hulT j) = true
  nxt : ∀ t ∈ lev V ((i + 1 : Nat) : Int), ovT t (hulT j) = true → tin j.lo t.no = true ∨ (j.cut ≠ ⟨#[]⟩ ∧ ltS t.le j.cut = false)
  zer : i = 0 → j.up.length = (lev V 0).length ∧ j.cut = ⟨#[]⟩ ∧ j.mv = false
  pos : i ≠ 0 → j.mv = (decide (j.lo.length = 0) && decide (i + 2 < V.length)) ∧ (j.cut = ⟨#[]⟩ ∨ (ltS (hulT j).le j.cut = true ∧ ltS (hulT j).gr j.cut = false ∧ (j.lo.length : Int) = c 12)) ∧ j.up.length = 1 ∧ (j.lo.length : Int) ≤ c 12
/-- within the law's fair -/
structure FaS (w : World) (c : Cf) (vb : Nat) (V : Lv) (j : Jb) (i : Nat) (us ls : Sv) (W : World) (H : Nat) (h : Tb) : Prop where
  b : RowKit.Below w.heap.size w W
  cf : Lc W w.heap.size c
  cl : w.heap.size < W.heap.size
  jz : Zb W (w.heap.size + 1) (jbC (i : Int) us ls j.cut j.mv)
  hz : Zb W H (tbC h)
  hl : w.heap.size + 1 < H
theorem FaS.below {w : World} {c : Cf} {vb : Nat} {V : Lv} {j : Jb} {i : Nat} {us ls : Sv} {W W' : World} {H : Nat} {h : Tb} (s : FaS w c vb V j i us ls W H h) (hb : RowKit.Below W.heap.size W W') : FaS w c vb V j i us ls W' H h :=
  ⟨s.b.trans (hb.mono s.b.size), s.cf.keep s.cl hb, Nat.lt_of_lt_of_le s.cl hb.size, s.jz.below hb, s.hz.below hb, s.hl⟩
theorem FaS.set {w : World} {c : Cf} {vb : Nat} {V : Lv} {j : Jb} {i : Nat} {us ls : Sv} {W : World} {H : Nat} {h : Tb} (s : FaS w c vb V j i us ls W H h) (x y : ByteArray) : FaS w c vb V j i us ls ((W.setCell ⟨H, 4, none⟩ (.string x)).setCell ⟨H, 5, none⟩ (.string y)).drew H { h with le := x, gr := y } := by
  have hH : w.heap.size ≠ H := by have := s.hl; omega
  have hJ : w.heap.size + 1 ≠ H := by have := s.hl; omega
  have hd : ∀ X : World, RowKit.Below X.heap.size X X.drew := fun X => (Below.refl _ _).drew
  refine ⟨((s.b.setCell (p := ⟨H, 4, none⟩) (by have := s.hl; show w.heap.size ≤ H; omega) _).setCell (p := ⟨H, 5, none⟩) (by have := s.hl; show w.heap.size ≤ H; omega) _).drew, ?_, by have := s.cl; simpa using this, ?_, ?_, s.hl⟩
  · refine Lc.keep ?_ (by have := s.cl; simpa using this) (hd _)
    intro m v hv
    exact (World.cell?_setCell_other _ _ _ _ (by intro e; exact hH (congrArg Addr.block e).symm)).trans ((World.cell?_setCell_other _ _ _ _ (by intro e; exact hH (congrArg Addr.block e).symm)).trans (s.cf m v hv))
  · exact ((s.jz.other (w' := W) _ _ hJ).other (w' := W) _ _ hJ).below (hd _)
  · exact ((s.hz.set 4 (.string x)).set 5 (.string y)).below (hd _)
theorem keepSF {wq : World} {S : World → Prop} (h : ∀ W, RowKit.Below wq.heap.size wq W → RowKit.Below wq.heap.size wq W ∧ S W) {W W' : World} (h1 : RowKit.Below wq.heap.size wq W ∧ S W) (h2 : RowKit.Below W.heap.size W W') : RowKit.Below wq.heap.size wq W' ∧ S W' := h W' (h1.1.trans (h2.mono h1.1.size))
theorem ls_tb {w : World} {a : Option Addr} {n c : Nat} {l : List Tb} (h : Ls kTb w (a, n, c) l) {i : Nat} {t : Tb} (ht : l[i]? = some t) : ∃ b off, a = some ⟨b, off, none⟩ ∧ b < w.heap.size ∧ w.cell? ⟨b, off + i * 6, none⟩ = some (.int .u64 (t.no : Int)) ∧ w.cell? ⟨b, off + i * 6 + 1, none⟩ = some (.int .i64 t.we) ∧ w.cell? ⟨b, off + i * 6 + 2, none⟩ = some (.int .i64 t.by_) ∧ w.cell? ⟨b, off + i * 6 + 3, none⟩ = some (.int .i64 t.en) ∧ w.cell? ⟨b, off + i * 6 + 4, none⟩ = some (.string t.le) ∧ w.cell? ⟨b, off + i * 6 + 5, none⟩ = some (.string t.gr) := by
  obtain ⟨b, off, e, hb, u, hu, y0, y1, y2, y3, y4, y5⟩ := h.tb (i := i) (List.getElem?_eq_some_iff.1 ht).1
  rw [ht] at hu
  injection hu with hu
  subst hu
  exact ⟨b, off, e, hb, y0, y1, y2, y3, y4, y5⟩
theorem ltS_nilR (x : ByteArray) : ltS x ⟨#[]⟩ = false := by
  rw [← lt_ltS, ByteArray.toList_eq, ByteArray.toList_eq]
  cases x.data.toList <;> rfl
theorem eqlS (x y : ByteArray) (W : World) : Sem.run Tryz.prog (binOp BinOp.eql 9 (.string x) (.string y)) W = .ok (.bool (decide (x = y))) W := by
  have e : (!ltS x y && !ltS y x) = decide (x = y) := by
    by_cases h : x = y
    · subst h; simp [ltS_irrefl]
    · rw [decide_eq_false h]
      cases h1 : ltS x y with
      | true => rfl
      | false =>
        cases h2 : ltS y x with
        | true => rfl
        | false => exact absurd (ltS_tri h1 h2) h
  simp [binOp, run_underlying Tryz.underlying9, Op.stringOp, eq_ltS, e]
end Vr
end Go.Proofs.YtaejjpbpnedblaaGreat
