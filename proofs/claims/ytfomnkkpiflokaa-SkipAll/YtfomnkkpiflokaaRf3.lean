import Derived.Test.YtfomnkkpiflokaaRf2
import Derived.Deep.DeepCutAuto
namespace Go.Proofs.Ytfomnkkpiflokaa
namespace Sk
open Go.RowKit Laws Irw Erw KMath Skm Byt
set_option linter.unusedVariables false
set_option maxRecDepth 100000
set_option linter.unusedSimpArgs false

/-- what stands while the document's Put goes on -/
structure Rp (w W : World) (R B : Nat) (x : En) (v0 v1 v2 : Value) (n : Int) : Prop where
  keep : Keep [R] w W
  c0 : W.cell? ⟨R, 0, none⟩ = some v0
  c1 : W.cell? ⟨R, 1, none⟩ = some v1
  c2 : W.cell? ⟨R, 2, none⟩ = some v2
  c3 : W.cell? ⟨R, 3, none⟩ = some (.int .i64 n)
  fro : ∀ j, W.frozen? ⟨R, j, none⟩ = false
  lt : R < w.heap.size
  box : entAt W B x
  bge : w.heap.size ≤ B
  blt : B < W.heap.size
theorem Rp.below {w W W' : World} {R B : Nat} {x : En} {v0 v1 v2 : Value} {n : Int} (h : Rp w W R B x v0 v1 v2 n) (hb : Below W.heap.size W W') : Rp w W' R B x v0 v1 v2 n := by
  have hl : R < W.heap.size := Nat.lt_of_lt_of_le h.lt h.keep.size
  have hc : ∀ j, W'.cell? ⟨R, j, none⟩ = W.cell? ⟨R, j, none⟩ := fun j => hb.cell (p := ⟨R, j, none⟩) hl
  exact ⟨h.keep.trans (Keep.below hb), by rw [hc]; exact h.c0, by rw [hc]; exact h.c1, by rw [hc]; exact h.c2, by rw [hc]; exact h.c3, fun j => by rw [← h.fro j]; exact World.frozen?_of_block (hb.block _ hl), h.lt, h.box.keep (hb.block _ h.blt), h.bge, Nat.lt_of_lt_of_le h.blt hb.size⟩
theorem Rp.ne {w W : World} {R B : Nat} {x : En} {v0 v1 v2 : Value} {n : Int} (h : Rp w W R B x v0 v1 v2 n) : B ≠ R := by have := h.lt; have := h.bge; omega
theorem Rp.set3 {w W : World} {R B : Nat} {x : En} {v0 v1 v2 : Value} {n : Int} (h : Rp w W R B x v0 v1 v2 n) (m : Int) : Rp w (W.setCell ⟨R, 3, none⟩ (.int .i64 m)) R B x v0 v1 v2 m :=
  ⟨h.keep.trans (Keep.set _ _ _ _), by rw [World.cell?_setCell_other _ _ _ _ (by simp)]; exact h.c0, by rw [World.cell?_setCell_other _ _ _ _ (by simp)]; exact h.c1, by rw [World.cell?_setCell_other _ _ _ _ (by simp)]; exact h.c2, World.cell?_setCell_same _ _ _ h.c3, fun j => by simp [h.fro j], h.lt, h.box.keep (Below.heap_setCell _ _ _ _ (by simp [h.ne])), h.bge, by simpa using h.blt⟩
theorem Rp.set0 {w W : World} {R B : Nat} {x : En} {v0 v1 v2 : Value} {n : Int} (h : Rp w W R B x v0 v1 v2 n) (u : Value) : Rp w (W.setCell ⟨R, 0, none⟩ u) R B x u v1 v2 n :=
  ⟨h.keep.trans (Keep.set _ _ _ _), World.cell?_setCell_same _ _ _ h.c0, by rw [World.cell?_setCell_other _ _ _ _ (by simp)]; exact h.c1, by rw [World.cell?_setCell_other _ _ _ _ (by simp)]; exact h.c2, by rw [World.cell?_setCell_other _ _ _ _ (by simp)]; exact h.c3, fun j => by simp [h.fro j], h.lt, h.box.keep (Below.heap_setCell _ _ _ _ (by simp [h.ne])), h.bge, by simpa using h.blt⟩
theorem Rp.set1 {w W : World} {R B : Nat} {x : En} {v0 v1 v2 : Value} {n : Int} (h : Rp w W R B x v0 v1 v2 n) (u : Value) : Rp w (W.setCell ⟨R, 1, none⟩ u) R B x v0 u v2 n :=
  ⟨h.keep.trans (Keep.set _ _ _ _), by rw [World.cell?_setCell_other _ _ _ _ (by simp)]; exact h.c0, World.cell?_setCell_same _ _ _ h.c1, by rw [World.cell?_setCell_other _ _ _ _ (by simp)]; exact h.c2, by rw [World.cell?_setCell_other _ _ _ _ (by simp)]; exact h.c3, fun j => by simp [h.fro j], h.lt, h.box.keep (Below.heap_setCell _ _ _ _ (by simp [h.ne])), h.bge, by simpa using h.blt⟩
theorem ownE_out {W3 W : World} {T : Nat → Nat} {a : Option Addr} {n c : Nat} {l : List En} (h : OwnE 9 T W (.slice a n c) l) (ho : Old W3 T W) (hl : 0 < l.length) : ∃ g, a = some ⟨g, 0, none⟩ ∧ W3.heap.size ≤ g ∧ ERow W g 0 l ∧ n = l.length ∧ l.length ≤ c := by
  obtain ⟨g, rfl⟩ := h.blk hl
  obtain ⟨h1, h2, h3, h4⟩ := h.isE
  obtain ⟨b, off, e, hr⟩ := h1.at_ hl
  simp only [Option.some.injEq, Addr.mk.injEq] at e
  obtain ⟨rfl, rfl, _⟩ := e
  refine ⟨g, rfl, ?_, hr, h2, by omega⟩
  rcases Nat.lt_or_ge g W3.heap.size with hg | hg
  · have h5 := ho.zero g (.inl hg)
    have h6 := h.2 g rfl
    omega
  · exact hg
theorem ownL_blk {t : Nat} {T : Nat → Nat} {w : World} {a : Option Addr} {n c : Nat} {l : List Int} (h : OwnL t T w (.slice a n c) l) (h0 : 0 < l.length) : ∃ g, a = Option.some ⟨g, 0, none⟩ := by
  rcases h.1.2 with ⟨h1, h2⟩ | ⟨g, cap, cur, hv, _⟩
  · omega
  · simp only [Value.slice.injEq] at hv
    exact ⟨g, hv.1⟩
theorem ownL_out {W3 W : World} {T : Nat → Nat} {a : Option Addr} {n c : Nat} {l : List Int} (h : OwnL 9 T W (.slice a n c) l) (ho : Old W3 T W) (hl : 0 < l.length) : ∃ g, a = some ⟨g, 0, none⟩ ∧ W3.heap.size ≤ g ∧ IRow W g 0 l ∧ n = l.length ∧ l.length ≤ c := by
  obtain ⟨h1, h2, h3, h4⟩ := h.isI
  obtain ⟨b, off, rfl, hr⟩ := h1.at_ hl
  obtain ⟨g, hg⟩ : ∃ g, (some ⟨b, off, none⟩ : Option Addr) = some ⟨g, 0, none⟩ := ownL_blk h hl
  simp only [Option.some.injEq, Addr.mk.injEq] at hg
  obtain ⟨rfl, rfl, _⟩ := hg
  refine ⟨b, rfl, ?_, hr, h2, by omega⟩
  rcases Nat.lt_or_ge b W3.heap.size with hg | hg
  · have h5 := ho.zero b (.inl hg)
    have h6 := h.2 b rfl
    omega
  · exact hg
theorem old_zero (w : World) : Old w (fun _ => 0) w := ⟨Below.refl _ _, fun _ _ => rfl⟩

/-- one more in the document's list -/
def insP {α : Type} (l : List α) (M : Nat) (x : α) : List α := l.take M ++ [x] ++ l.drop M
theorem insP_len {α : Type} {l : List α} {M : Nat} {x : α} (h : M ≤ l.length) : (insP l M x).length = l.length + 1 := by
  unfold insP
  simp
  omega
def Dup (es : List En) (x : En) : Prop := plc x.1 x.2.1 es < es.length ∧ (es.getD (plc x.1 x.2.1 es) ez).1 = x.1 ∧ (es.getD (plc x.1 x.2.1 es) ez).2.1 = x.2.1
/-- what the document's Put leaves -/
def RPutAns (w : World) (R : Nat) (ds : List Nat) (es : List En) (hs : List Int) (bs : List Nat) (x : En) (ok : Bool) (w' : World) : Prop :=
  ∃ es' hs' bs', Rl w' R ds es' hs' bs' ∧ Keep [R] w w' ∧ (∀ b ∈ bs', b ∈ bs ∨ w.heap.size ≤ b) ∧ ((ok = false ∧ Dup es x ∧ es' = es ∧ hs' = hs) ∨ (ok = true ∧ ¬ Dup es x ∧ es' = insP es (plc x.1 x.2.1 es) x ∧ hs' = insP hs (plc x.1 x.2.1 es) (hgt ds es.length : Int)))
theorem Rp.done {w W : World} {R B : Nat} {x : En} {ds : List Nat} {es' : List En} {hs' : List Int} {g6 c6 g10 c10 : Nat} {a3 : Option Addr} {c3 : Nat} {bs : List Nat} (h : Rp w W R B x (.slice (some ⟨g6, 0, none⟩) es'.length c6) (.slice (some ⟨g10, 0, none⟩) hs'.length c10) (.slice a3 ds.length c3) (es'.length : Int))
    (h6 : ERow W g6 0 es') (l6 : es'.length ≤ c6) (h10 : IRow W g10 0 hs') (l10 : hs'.length ≤ c10) (h3 : IsB W a3 ds) (hm3 : ∀ ad, a3 = some ad → ad.block ∈ bs) (hlen : hs'.length = es'.length) (hpos : 0 < es'.length) (k6 : w.heap.size ≤ g6) (k10 : w.heap.size ≤ g10) (hbs : ∀ b ∈ bs, b < w.heap.size ∧ b ≠ R) : Rl W R ds es' hs' (g6 :: g10 :: bs) := by
  have hR := h.lt
  have hsz := h.keep.size
  refine ⟨by omega, ⟨some ⟨g6, 0, none⟩, c6, h.c0, IsE.of h6, l6, fun e => (by cases e), fun e => (by rw [e] at hpos; simp at hpos), fun ad e => ⟨g6, by simp, by cases e; rfl⟩⟩, ⟨some ⟨g10, 0, none⟩, c10, h.c1, IsI.of h10, l10, fun e => (by cases e), fun e => (by rw [e] at hlen; simp at hlen; omega), fun ad e => ⟨g10, by simp, by cases e; rfl⟩⟩, ⟨a3, c3, h.c2, h3, fun ad e => by simp [hm3 ad e]⟩, h.c3, h.fro, hlen, fun b hb => ?_⟩
  simp only [List.mem_cons] at hb
  rcases hb with rfl | rfl | hb
  · exact ⟨h6.1, by omega⟩
  · exact ⟨h10.1, by omega⟩
  · have := hbs b hb
    exact ⟨by omega, this.2⟩
end Sk
end Go.Proofs.Ytfomnkkpiflokaa
