import Derived.Test.YtnhhalabmmcemaaDoorProg
import Derived.Test.YtnhhalabmmcemaaDoorSam
import Derived.Test.YtnhhalabmmcemaaDoorLaws
import Derived.WalkKit
import Derived.WalkSpells
import Derived.WalkLawsBesides
import Derived.Below
import Derived.Laws.AppendOwnNone
import Derived.Deep.AppendLies
import Derived.Deep.QuietTactic
import Derived.BigQuiet
import Derived.Lib.ConvBytes
namespace Go.Proofs.YtnhhalabmmcemaaDoor
namespace Tsr
open Go.RowKit CMath Byt Cod Laws
set_option linter.unusedVariables false
set_option maxRecDepth 20000

/-- Texts that lie in a block. -/
def TRow (w : World) (b off : Nat) (l : List ByteArray) : Prop := b < w.heap.size ∧ ∀ (i : Nat) (x : ByteArray), l[i]? = some x → w.cell? ⟨b, off + i, none⟩ = some (.string x)
/-- What a slice of texts holds. -/
def IsT (w : World) (a : Option Addr) (l : List ByteArray) : Prop := l ≠ [] → ∃ b off, a = some ⟨b, off, none⟩ ∧ TRow w b off l
theorem TRow.keep {w w' : World} {b off : Nat} {l : List ByteArray} (h : TRow w b off l) (hb : w'.heap[b]? = w.heap[b]?) (hs : w.heap.size ≤ w'.heap.size) : TRow w' b off l :=
  ⟨Nat.lt_of_lt_of_le h.1 hs, fun i x hx => (World.cell?_of_block (w := w) (a := ⟨b, off + i, none⟩) hb).trans (h.2 i x hx)⟩
theorem TRow.below {w w' : World} {B b off : Nat} {l : List ByteArray} (h : TRow w b off l) (hb : Below B w w') (hB : b < B) : TRow w' b off l := h.keep (hb.block b hB) hb.size
theorem IsT.below {w w' : World} {a : Option Addr} {l : List ByteArray} (h : IsT w a l) (hb : Below w.heap.size w w') : IsT w' a l := fun hne => by
  obtain ⟨b, off, e, hr⟩ := h hne
  exact ⟨b, off, e, hr.below hb hr.1⟩
theorem IsT.nil (w : World) (a : Option Addr) : IsT w a [] := fun h => absurd rfl h
theorem IsT.some {w : World} {b off : Nat} {l : List ByteArray} (h : TRow w b off l) : IsT w (some ⟨b, off, none⟩) l := fun _ => ⟨b, off, rfl, h⟩
theorem IsT.none {w : World} {l : List ByteArray} (h : IsT w none l) : l = [] := by
  by_cases hne : l = []
  · exact hne
  · obtain ⟨b, off, e, _⟩ := h hne
    cases e
theorem TRow.take {w : World} {b off : Nat} {l : List ByteArray} (h : TRow w b off l) (n : Nat) : TRow w b off (l.take n) :=
  ⟨h.1, fun i x hx => h.2 i x (by
    rw [List.getElem?_take] at hx
    split at hx
    · exact hx
    · cases hx)⟩
theorem TRow.drop {w : World} {b off : Nat} {l : List ByteArray} (h : TRow w b off l) (n : Nat) : TRow w b (off + n) (l.drop n) :=
  ⟨h.1, fun i x hx => by
    rw [List.getElem?_drop] at hx
    have := h.2 (n + i) x hx
    rwa [← Nat.add_assoc] at this⟩
theorem IsT.take {w : World} {a : Option Addr} {l : List ByteArray} (h : IsT w a l) (n : Nat) : IsT w a (l.take n) := fun hne => by
  obtain ⟨b, off, e, hr⟩ := h (by intro e; rw [e] at hne; simp at hne)
  exact ⟨b, off, e, hr.take n⟩

def cellsT (l : List ByteArray) : List Value := l.map .string
theorem cellsT_length (l : List ByteArray) : (cellsT l).length = l.length := by simp [cellsT]
theorem cellsT_append (l r : List ByteArray) : cellsT (l ++ r) = cellsT l ++ cellsT r := by simp [cellsT]
theorem cellsT_one (l : List ByteArray) : ∀ u ∈ cellsT l, u.oneCell' = true := by
  intro u hu
  simp [cellsT] at hu
  obtain ⟨x, _, rfl⟩ := hu
  rfl
theorem cellsT_get {l : List ByteArray} {i : Nat} {x : ByteArray} (h : l[i]? = some x) : (cellsT l)[i]? = some (.string x) := by simp [cellsT, h]
theorem cellsT_inv {l : List ByteArray} {i : Nat} {u : Value} (h : (cellsT l)[i]? = some u) : ∃ x, l[i]? = some x ∧ u = .string x := by
  simp [cellsT] at h
  obtain ⟨x, h1, h2⟩ := h
  exact ⟨x, h1, h2.symm⟩
theorem newsT {w : World} {a : Option Addr} {l : List ByteArray} (h : IsT w a l) : ∀ ad, a = some ad → ∀ j u, (cellsT l)[j]? = some u → w.cell? (ad.add j) = some u := by
  intro ad had j u hu
  obtain ⟨x, hx, rfl⟩ := cellsT_inv hu
  obtain ⟨b, off, h', hlt, hr⟩ := h (by intro e; rw [e] at hx; simp at hx)
  rw [had] at h'
  cases h'
  rw [Byt.add_plain']
  exact hr j x hx
theorem row_of_ownT {w : World} {base g n c : Nat} {l : List ByteArray} {e : TypeId} (h : w.ownsRow base e 1 (.slice (some ⟨g, 0, none⟩) n c) n (cellsT l)) (hn : n = l.length) : TRow w g 0 l := by
  refine ⟨(h.lt g rfl).2, fun i x hx => ?_⟩
  have hi : i < l.length := (List.getElem?_eq_some_iff.1 hx).1
  rw [Nat.zero_add, h.cellAt _ (by omega)]
  exact cellsT_get hx
/-- A list of texts of one's own: nil, or in a block of its own. -/
theorem isT_of_own {w : World} {base n : Nat} {v : Value} {l : List ByteArray} {e : TypeId} (h : w.ownsRow base e 1 v n (cellsT l)) : n = l.length ∧ ∃ a c, v = .slice a n c ∧ IsT w a l ∧ n ≤ c ∧ c ≤ 9223372036854775807 ∧ (a = none → c = 0 ∧ l = []) ∧ (∀ g off, a = some ⟨g, off, none⟩ → base ≤ g ∧ g < w.heap.size) := by
  have hn : n = l.length := by have := h.1; rw [cellsT_length] at this; omega
  refine ⟨hn, ?_⟩
  rcases h.2 with ⟨h1, h2⟩ | ⟨g, c, cur, rfl, hg, _, hc, hm, _⟩
  · have : l = [] := List.eq_nil_of_length_eq_zero (by omega)
    exact ⟨none, 0, by rw [h1, h2], by rw [this]; exact IsT.nil _ _, by omega, by omega, fun _ => ⟨rfl, this⟩, fun g off e => by cases e⟩
  · exact ⟨some ⟨g, 0, none⟩, c, rfl, IsT.some (row_of_ownT h hn), hc, hm, fun e => (by cases e), fun g' off e => (by cases e; exact ⟨hg, (h.lt _ rfl).2⟩)⟩
theorem infoS : (Tryd.prog.info? 9).map (fun i => (i.zero, i.size, i.bytes)) = some (some (.string ⟨#[]⟩), 1, 16) := by kernel_rfl

/-- append of texts onto texts of the call's own. -/
theorem wpList_appT {P : Program} {w : World} {ops : Array Oper} {rest : List Oper} {o : Oper} {a : Act} {Q : Exit → Act → World → Prop} (hgd : o.guard = none) (s x : Operand) (t : TypeId)
    (ho : o.op = .call { callee := .builtin .append, args := #[s, x], argTypes := #[t, t] })
    (base : Nat) (e : TypeId) (i : TypeInfo) (ht : P.underlying t = some (.slice e)) (hi : P.info? e = some i) (hz : i.zero = some (.string ⟨#[]⟩)) (hsize : i.size = 1) (hby : i.bytes = 16)
    (v : Value) (l : List ByteArray) (n : Nat) (hs : a.eval s = v) (hown : w.ownsRow base e 1 v n (cellsT l))
    (ao : Option Addr) (m c : Nat) (r : List ByteArray) (hx : a.eval x = .slice ao m c) (hm : m = r.length) (hn : ao = none → c = 0) (hr : IsT w ao r)
    (h47 : (n + m) * 16 ≤ 140737488355328) (hbase : base ≤ w.heap.size)
    (h : ∀ v' w', w'.ownsRow base e 1 v' (n + m) (cellsT (l ++ r)) → w.grownBy w' v.ownBlock → (v ≠ .slice none 0 0 → v' ≠ .slice none 0 0) → wpList P ops Q rest (a.put o.dst v') w') : wpList P ops Q (o :: rest) a w := by
  subst hm
  cases ao with
  | none =>
    have hr0 := hr.none
    subst hr0
    obtain rfl := hn rfl
    refine wpList_append_own_none hgd s x t ho base e i 1 ht hi v n _ hs hown hx (h v w (by simpa using hown) (World.grownBy.refl _ _) (fun h => h))
  | some ad =>
    refine wpList_append_own w hgd s x t ho base e i (.string ⟨#[]⟩) 1 16 ht hi hz hsize hby rfl (by omega) v n _ hs hown ad r.length c (cellsT r) hx (by rw [cellsT_length]; omega) (newsT hr ad rfl) (cellsT_one r) (by unfold maxLen; omega) (by omega) hbase fun v' w' h2 h3 h4 => h v' w' (by rw [cellsT_append]; exact h2) h3 (fun hv hv' => hv (h4.1 hv').1)
theorem isT_new {w : World} {x : ByteArray} {T : TypeId} : IsT (w.alloc (.cells #[.string x] T)) (some ⟨w.heap.size, 0, none⟩) [x] := by
  refine IsT.some ⟨by simp, fun i z hz => ?_⟩
  rw [World.cell?_alloc_at _ _ _ _ rfl]
  cases i with
  | zero => simp at hz; subst hz; rfl
  | succ i => simp at hz

/-- A text as bytes. -/
theorem conv_isB (w : World) (e : TypeId) (s : ByteArray) : IsB (Lib.bytesWorld w e s) (some ⟨w.heap.size, 0, none⟩) (strB s) := by
  refine IsB.some ⟨by rw [Lib.bytesWorld_size]; omega, fun i x hx => ?_⟩ (strB_byte s)
  have hi : i < s.size := by rw [← strB_length]; exact (List.getElem?_eq_some_iff.1 hx).1
  rw [Nat.zero_add, Lib.bytesWorld_cell w e s i hi]
  simp only [strB, List.getElem?_map, Option.map_eq_some_iff] at hx
  obtain ⟨y, hy, rfl⟩ := hx
  simp [hy]
theorem conv_below (w : World) (e : TypeId) (s : ByteArray) : Below w.heap.size w (Lib.bytesWorld w e s) := ⟨rfl, rfl, rfl, by rw [Lib.bytesWorld_size]; omega, fun k hk => Lib.bytesWorld_at_old w e s k hk⟩

end Tsr
end Go.Proofs.YtnhhalabmmcemaaDoor
