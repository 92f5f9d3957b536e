import Derived.Test.YtcmbogogakdeoaaDoorCRw
import Derived.Test.YtcmbogogakdeoaaDoorChk7
import Derived.Test.YtcmbogogakdeoaaDoorLgG
import Derived.Deep.QuietTactic
import Derived.BigQuiet
namespace Go.Proofs.YtcmbogogakdeoaaDoor
namespace Grp
open Go.RowKit Laws Irw Crw Lg
set_option linter.unusedVariables false
set_option maxRecDepth 100000
set_option linter.unusedSimpArgs false

abbrev Sv := Option Addr × Nat × Nat
def kS : Knd Sv := ⟨41, 1, 24, .slice none 0 0, fun x => [.slice x.1 x.2.1 x.2.2], fun _ => rfl, fun x u hu => by simp at hu; subst hu; rfl, by omega, rfl, by omega⟩
theorem infoS : (Tryd.prog.info? 41).map (fun i => (i.zero, i.size, i.bytes)) = some (some kS.zero, 1, 24) := by kernel_rfl
theorem infoW : (Tryd.prog.info? 40).map (fun i => (i.zero, i.size, i.bytes)) = some (some (.agg #[.string ⟨#[]⟩, .bool false, .string ⟨#[]⟩]), 3, 40) := by kernel_rfl
theorem undG : Tryd.prog.underlying 42 = some (.slice 41) := by kernel_rfl
theorem IsWr.keepB {w w' : World} {a : Option Addr} {ws : List Chk.Wr} (h : Chk.IsWr w a ws) (hb : ∀ b off, a = some ⟨b, off, none⟩ → b < w.heap.size → w'.heap[b]? = w.heap[b]?) (hs : w.heap.size ≤ w'.heap.size) : Chk.IsWr w' a ws := by
  refine ⟨fun hne => ?_, h.2⟩
  obtain ⟨b, off, e, hr⟩ := h.1 hne
  have hk := hb b off e hr.1
  refine ⟨b, off, e, Nat.lt_of_lt_of_le hr.1 hs, fun i x hx => ?_⟩
  obtain ⟨h0, h1, h2⟩ := hr.2 i x hx
  exact ⟨(World.cell?_of_block (a := ⟨b, _, none⟩) hk).trans h0, (World.cell?_of_block (a := ⟨b, _, none⟩) hk).trans h1, (World.cell?_of_block (a := ⟨b, _, none⟩) hk).trans h2⟩
/-- Lists of writes: what a slice of slices holds. -/
def IsG (w : World) (a : Option Addr) (gs : List (List Chk.Wr)) : Prop :=
  ∃ vs : List Sv, vs.length = gs.length ∧ IsK kS w a vs ∧ ∀ (i : Nat) v ws, vs[i]? = some v → gs[i]? = some ws → v.2.1 = ws.length ∧ Chk.IsWr w v.1 ws
theorem IsG.below {w w' : World} {a : Option Addr} {gs : List (List Chk.Wr)} (h : IsG w a gs) (hb : Below w.heap.size w w') : IsG w' a gs := by
  obtain ⟨vs, h1, h2, h3⟩ := h
  exact ⟨vs, h1, h2.below hb, fun i v ws hv hw => ⟨(h3 i v ws hv hw).1, (h3 i v ws hv hw).2.below hb⟩⟩
theorem IsG.rd {w : World} {a : Option Addr} {gs : List (List Chk.Wr)} (h : IsG w a gs) {k : Nat} (hk : k < gs.length) : ∃ b off ad c, a = some ⟨b, off, none⟩ ∧ b < w.heap.size ∧ w.cell? ⟨b, off + k, none⟩ = some (.slice ad (gs.getD k []).length c) ∧ Chk.IsWr w ad (gs.getD k []) := by
  obtain ⟨vs, h1, h2, h3⟩ := h
  obtain ⟨b, off, e, hr⟩ := h2.at_ (by omega)
  have hkv : k < vs.length := by omega
  have hv : vs[k]? = some vs[k] := List.getElem?_eq_getElem hkv
  have hg : gs[k]? = some (gs.getD k []) := by simp [hk]
  obtain ⟨h4, h5⟩ := h3 k _ _ hv hg
  have hc := hr.2 k _ hv 0 _ rfl
  refine ⟨b, off, vs[k].1, vs[k].2.2, e, hr.1, ?_, h5⟩
  have : off + k * kS.size + 0 = off + k := by show off + k * 1 + 0 = _; omega
  rw [this, h4] at hc
  exact hc

/-! How much a group is (screeroom.Count). -/
def bulkW (x : W3) : Nat := 1 + x.1.size + x.2.2.size
def bulkS (ws : List W3) : Nat := (ws.map bulkW).sum
def bulkG (gs : List (List W3)) : Nat := gs.length + (gs.map bulkS).sum
theorem sum_take {α : Type} {f : α → Nat} {l : List α} {k : Nat} {x : α} (h : l[k]? = some x) : ((l.take (k + 1)).map f).sum = ((l.take k).map f).sum + f x := by
  rw [List.take_add_one, h]
  simp
/-- a count as it lies -/
def Ct (C : Nat) (w : World) (x : Int) : Prop := C < w.heap.size ∧ w.cell? ⟨C, 0, none⟩ = some (.int .i64 x) ∧ w.frozen? ⟨C, 0, none⟩ = false ∧ x ≤ 32768
theorem Ct.set {C : Nat} {w : World} {x : Int} (h : Ct C w x) (y : Int) (hy : y ≤ 32768) : Ct C (w.setCell ⟨C, 0, none⟩ (.int .i64 y)) y := by
  obtain ⟨h1, h2, h3, h4⟩ := h
  exact ⟨by simpa using h1, World.cell?_setCell_same _ _ _ h2, by rw [World.frozen?_setCell]; exact h3, hy⟩
end Grp
end Go.Proofs.YtcmbogogakdeoaaDoor
