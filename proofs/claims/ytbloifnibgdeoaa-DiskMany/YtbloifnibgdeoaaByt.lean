import Derived.Test.YtbloifnibgdeoaaCMath
import Derived.WalkKit
import Derived.WalkSpells
import Derived.Below
import Derived.Lib.AppendStr
import Derived.Deep.QuietTactic
import Derived.Laws.AppendOwnNone
import Derived.Deep.AppendLies
import Derived.Maps.AppendAt
namespace Go.Proofs.Ytbloifnibgdeoaa
namespace Byt
open Go.RowKit CMath
set_option linter.unusedVariables false

/-- Bytes that lie in a block. -/
def BRow (w : World) (b off : Nat) (l : List Nat) : Prop := b < w.heap.size ∧ ∀ (i x : Nat), l[i]? = some x → w.cell? ⟨b, off + i, none⟩ = some (.int .u8 (x : Int))
/-- What a slice of bytes holds. -/
def IsB (w : World) (a : Option Addr) (l : List Nat) : Prop := (l ≠ [] → ∃ b off, a = some ⟨b, off, none⟩ ∧ BRow w b off l) ∧ (∀ x ∈ l, x < 256)

theorem BRow.keep {w w' : World} {b off : Nat} {l : List Nat} (h : BRow w b off l) (hb : w'.heap[b]? = w.heap[b]?) (hs : w.heap.size ≤ w'.heap.size) : BRow w' b off l :=
  ⟨Nat.lt_of_lt_of_le h.1 hs, fun i x hx => (World.cell?_of_block (w := w) (a := ⟨b, off + i, none⟩) hb).trans (h.2 i x hx)⟩
theorem BRow.below {w w' : World} {B b off : Nat} {l : List Nat} (h : BRow w b off l) (hb : Below B w w') (hB : b < B) : BRow w' b off l :=
  h.keep (hb.block b hB) hb.size
theorem IsB.below {w w' : World} {a : Option Addr} {l : List Nat} (h : IsB w a l) (hb : Below w.heap.size w w') : IsB w' a l :=
  ⟨fun hne => by
    obtain ⟨b, off, e, hr⟩ := h.1 hne
    exact ⟨b, off, e, hr.below hb hr.1⟩, h.2⟩
theorem IsB.nil (w : World) (a : Option Addr) : IsB w a [] := ⟨fun h => absurd rfl h, by simp⟩
theorem IsB.some {w : World} {b off : Nat} {l : List Nat} (h : BRow w b off l) (hl : ∀ x ∈ l, x < 256) : IsB w (some ⟨b, off, none⟩) l := ⟨fun _ => ⟨b, off, rfl, h⟩, hl⟩
theorem BRow.take {w : World} {b off : Nat} {l : List Nat} (h : BRow w b off l) (n : Nat) : BRow w b off (l.take n) :=
  ⟨h.1, fun i x hx => h.2 i x (by
    rw [List.getElem?_take] at hx
    split at hx
    · exact hx
    · cases hx)⟩
theorem BRow.drop {w : World} {b off : Nat} {l : List Nat} (h : BRow w b off l) (n : Nat) : BRow w b (off + n) (l.drop n) :=
  ⟨h.1, fun i x hx => by
    rw [List.getElem?_drop] at hx
    have := h.2 (n + i) x hx
    rwa [← Nat.add_assoc] at this⟩
theorem IsB.take {w : World} {a : Option Addr} {l : List Nat} (h : IsB w a l) (n : Nat) : IsB w a (l.take n) :=
  ⟨fun hne => by
    obtain ⟨b, off, e, hr⟩ := h.1 (by intro e; rw [e] at hne; simp at hne)
    exact ⟨b, off, e, hr.take n⟩, fun x hx => h.2 x (List.mem_of_mem_take hx)⟩
theorem IsB.none {w : World} {l : List Nat} (h : IsB w none l) : l = [] := by
  by_cases hne : l = []
  · exact hne
  · obtain ⟨b, off, e, _⟩ := h.1 hne
    cases e

/-- The cells of bytes. -/
def cellsB (l : List Nat) : List Value := l.map fun (x : Nat) => .int .u8 (x : Int)
theorem cellsB_length (l : List Nat) : (cellsB l).length = l.length := by simp [cellsB]
theorem cellsB_append (l r : List Nat) : cellsB (l ++ r) = cellsB l ++ cellsB r := by simp [cellsB]
theorem cellsB_one (l : List Nat) : ∀ u ∈ cellsB l, u.oneCell' = true := by
  intro u hu
  simp [cellsB] at hu
  obtain ⟨x, _, rfl⟩ := hu
  rfl
theorem cellsB_get {l : List Nat} {i x : Nat} (h : l[i]? = some x) : (cellsB l)[i]? = some (.int .u8 (x : Int)) := by simp [cellsB, h]
theorem cellsB_inv {l : List Nat} {i : Nat} {u : Value} (h : (cellsB l)[i]? = some u) : ∃ x, l[i]? = some x ∧ u = .int .u8 (x : Int) := by
  simp [cellsB] at h
  obtain ⟨x, h1, h2⟩ := h
  exact ⟨x, h1, h2.symm⟩

theorem add_plain' (b off t : Nat) : (⟨b, off, none⟩ : Addr).add t = ⟨b, off + t, none⟩ := by unfold Addr.add; by_cases ht : t = 0 <;> simp [ht]

theorem news_of {w : World} {a : Option Addr} {l : List Nat} (h : IsB w a l) : ∀ ad, a = some ad → ∀ j u, (cellsB l)[j]? = some u → w.cell? (ad.add j) = some u := by
  intro ad had j u hu
  obtain ⟨x, hx, rfl⟩ := cellsB_inv hu
  obtain ⟨b, off, h', hlt, hr⟩ := h.1 (by intro e; rw [e] at hx; simp at hx)
  rw [had] at h'
  cases h'
  rw [add_plain']
  exact hr j x hx

theorem row_of_own {w : World} {base g n c : Nat} {l : List Nat} {e : TypeId} (h : w.ownsRow base e 1 (.slice (some ⟨g, 0, none⟩) n c) n (cellsB l)) (hn : n = l.length) : BRow w g 0 l := by
  refine ⟨(h.lt g rfl).2, fun i x hx => ?_⟩
  have hi : i < l.length := (List.getElem?_eq_some_iff.1 hx).1
  rw [Nat.zero_add, h.cellAt _ (by omega)]
  exact cellsB_get hx
theorem isB_of_own {w : World} {base n : Nat} {v : Value} {l : List Nat} {e : TypeId} (h : w.ownsRow base e 1 v n (cellsB l)) (hl : ∀ x ∈ l, x < 256) : n = l.length ∧ ((v = .slice none 0 0 ∧ l = []) ∨ ∃ g c, v = .slice (some ⟨g, 0, none⟩) n c ∧ n ≤ c ∧ base ≤ g ∧ BRow w g 0 l) := by
  have hn : n = l.length := by have := h.1; rw [cellsB_length] at this; omega
  refine ⟨hn, ?_⟩
  rcases h.2 with ⟨h1, h2⟩ | ⟨g, c, cur, rfl, hg, _, hc, _⟩
  · exact .inl ⟨h1, List.eq_nil_of_length_eq_zero (by omega)⟩
  · exact .inr ⟨g, c, rfl, hc, hg, row_of_own h hn⟩

/-- The answer of a call: bytes in memory of its own, not nil. -/
def Own (T base : Nat) (w : World) (v : Value) (l : List Nat) : Prop := ∃ g c, v = .slice (some ⟨g, 0, none⟩) l.length c ∧ w.ownsRow base T 1 v l.length (cellsB l) ∧ ∀ x ∈ l, x < 256
theorem Own.mk' {T base : Nat} {w : World} {v : Value} {n : Nat} {l : List Nat} (h : w.ownsRow base T 1 v n (cellsB l)) (hl : ∀ x ∈ l, x < 256) (hv : v ≠ .slice none 0 0) : Own T base w v l := by
  obtain ⟨hn, h1 | ⟨g, c, h1, _⟩⟩ := isB_of_own h hl
  · exact absurd h1.1 hv
  · exact ⟨g, c, by rw [← hn]; exact h1, by rw [← hn]; exact h, hl⟩
theorem Own.pos {T base : Nat} {w : World} {v : Value} {n : Nat} {l : List Nat} (h : w.ownsRow base T 1 v n (cellsB l)) (hl : ∀ x ∈ l, x < 256) (hp : 0 < n) : Own T base w v l := by
  refine Own.mk' h hl ?_
  rintro rfl
  rcases h.2 with ⟨_, h2⟩ | ⟨g, c, cur, h', _⟩
  · omega
  · cases h'

theorem Own.row {T base : Nat} {w : World} {v : Value} {l : List Nat} (h : Own T base w v l) : w.ownsRow base T 1 v l.length (cellsB l) := by
  obtain ⟨g, c, _, h2, _⟩ := h
  exact h2
theorem Own.byte {T base : Nat} {w : World} {v : Value} {l : List Nat} (h : Own T base w v l) : ∀ x ∈ l, x < 256 := by
  obtain ⟨g, c, _, _, h2⟩ := h
  exact h2
theorem Own.lower {T base base' : Nat} {w : World} {v : Value} {l : List Nat} (h : Own T base w v l) (hb : base' ≤ base) : Own T base' w v l := by
  obtain ⟨g, c, e, ⟨h1, h2⟩, h3⟩ := h
  refine ⟨g, c, e, ⟨h1, ?_⟩, h3⟩
  rcases h2 with h2 | ⟨g, cap, cur, hv, hg, hr⟩
  · exact .inl h2
  · exact .inr ⟨g, cap, cur, hv, by omega, hr⟩

theorem Own.isB {T base : Nat} {w : World} {v : Value} {l : List Nat} (h : Own T base w v l) : ∃ g c, v = .slice (some ⟨g, 0, none⟩) l.length c ∧ base ≤ g ∧ g < w.heap.size ∧ l.length ≤ c ∧ IsB w (some ⟨g, 0, none⟩) l := by
  obtain ⟨g, c, rfl, h2, h3⟩ := h
  have hr := row_of_own h2 rfl
  have hg := h2.lt g rfl
  refine ⟨g, c, rfl, hg.1, hg.2, ?_, IsB.some hr h3⟩
  rcases h2.2 with ⟨h4, _⟩ | ⟨g', c', cur, h4, _, _, h5, _⟩
  · cases h4
  · cases h4; exact h5
theorem Own.keep {T base : Nat} {w w' : World} {v : Value} {l : List Nat} (h : Own T base w v l) (hb : ∀ g, v.ownBlock = some g → w'.heap[g]? = w.heap[g]?) : Own T base w' v l := by
  obtain ⟨g, c, e, ⟨h1, h2⟩, h3⟩ := h
  refine ⟨g, c, e, ⟨h1, ?_⟩, h3⟩
  rcases h2 with h2 | ⟨g, cap, cur, hv, hg, hh, hr⟩
  · exact .inl h2
  · exact .inr ⟨g, cap, cur, hv, hg, (hb g (by rw [hv]; rfl)).trans hh, hr⟩
theorem Own.below {T base : Nat} {w w' : World} {v : Value} {l : List Nat} (h : Own T base w v l) (hb : Below w.heap.size w w') : Own T base w' v l :=
  h.keep fun g hg => hb.block g (h.row.lt g hg).2

theorem below_drewN {B : Nat} {a w : World} (h : Below B a w) (n : Nat) : Below B a (w.drewN n) := h.trans ⟨rfl, rfl, rfl, Nat.le_refl _, fun _ _ => rfl⟩

/-- Strings as bytes. -/
def strB (s : ByteArray) : List Nat := s.data.toList.map (·.toNat)
theorem strB_length (s : ByteArray) : (strB s).length = s.size := by simp [strB]
theorem strB_byte (s : ByteArray) : ∀ x ∈ strB s, x < 256 := by
  intro x hx
  simp [strB] at hx
  obtain ⟨y, _, rfl⟩ := hx
  exact y.toNat_lt
theorem strCells_eq (s : ByteArray) : Lib.strCells s = cellsB (strB s) := by
  unfold Lib.strCells cellsB strB
  simp
theorem strB_inj {s t : ByteArray} (h : strB s = strB t) : s = t := by
  unfold strB at h
  have : s.data.toList = t.data.toList := by
    have hi : Function.Injective UInt8.toNat := fun a b h => UInt8.toNat_inj.1 h
    exact List.map_inj_right (fun a b h => hi h) |>.1 h
  cases s; cases t
  simp at this
  rw [this]
/-- Bytes as a string. -/
def ofB (l : List Nat) : ByteArray := ⟨(l.map UInt8.ofNat).toArray⟩
theorem strB_ofB {l : List Nat} (h : ∀ x ∈ l, x < 256) : strB (ofB l) = l := by
  unfold strB ofB
  simp only [List.map_map]
  conv => rhs; rw [← List.map_id l]
  refine List.map_congr_left fun x hx => ?_
  have := h x hx
  simp
  omega

/-- append of bytes onto bytes of the call's own. -/
theorem wpList_appB {P : Program} {w : World} {ops : Array Oper} {rest : List Oper} {o : Oper} {a : Act} {Q : Exit → Act → World → Prop} (hgd : o.guard = none) (s x : Operand) (t : TypeId)
    (ho : o.op = .call { callee := .builtin .append, args := #[s, x], argTypes := #[t, t] })
    (base : Nat) (e : TypeId) (i : TypeInfo) (ht : P.underlying t = some (.slice e)) (hi : P.info? e = some i) (hz : i.zero = some (.int .u8 0)) (hsize : i.size = 1) (hby : i.bytes = 1)
    (v : Value) (l : List Nat) (n : Nat) (hs : a.eval s = v) (hown : w.ownsRow base e 1 v n (cellsB l))
    (ao : Option Addr) (m c : Nat) (r : List Nat) (hx : a.eval x = .slice ao m c) (hm : m = r.length) (hn : ao = none → c = 0) (hr : IsB w ao r)
    (h47 : n + m ≤ 140737488355328) (hbase : base ≤ w.heap.size)
    (h : ∀ v' w', w'.ownsRow base e 1 v' (n + m) (cellsB (l ++ r)) → w.grownBy w' v.ownBlock → (v ≠ .slice none 0 0 → v' ≠ .slice none 0 0) → wpList P ops Q rest (a.put o.dst v') w') : wpList P ops Q (o :: rest) a w := by
  subst hm
  cases ao with
  | none =>
    have hr0 := hr.none
    subst hr0
    obtain rfl := hn rfl
    refine wpList_append_own_none hgd s x t ho base e i 1 ht hi v n _ hs hown hx (h v w (by simpa using hown) (World.grownBy.refl _ _) (fun h => h))
  | some ad =>
    refine wpList_append_own w hgd s x t ho base e i (.int .u8 0) 1 1 ht hi hz hsize hby rfl (by omega) v n _ hs hown ad r.length c (cellsB r) hx (by rw [cellsB_length]; omega) (news_of hr ad rfl) (cellsB_one r) (by unfold maxLen; omega) (by omega) hbase fun v' w' h2 h3 h4 => h v' w' (by rw [cellsB_append]; exact h2) h3 (fun hv hv' => hv (h4.1 hv').1)
theorem isB_new {w : World} {y : Int} {x : Nat} {T : TypeId} (hy : y = x) (hx : x < 256) : IsB (w.alloc (.cells #[.int .u8 y] T)) (some ⟨w.heap.size, 0, none⟩) [x] := by
  subst hy
  refine IsB.some ⟨by simp, fun i z hz => ?_⟩ (by simpa using hx)
  rw [World.cell?_alloc_at _ _ _ _ rfl]
  cases i with
  | zero => simp at hz; subst hz; rfl
  | succ i => simp at hz
theorem or128 (n : Nat) : bits .or .u8 ((n : Int) % 256) 128 = ((n % 128 + 128 : Nat) : Int) := by
  have e : ((n : Int) % 256) = ((n % 256 : Nat) : Int) := by omega
  rw [e]
  have h := u8_or_nat (n % 256) 128 (by omega) (by omega)
  rw [show ((128 : Nat) : Int) = 128 by rfl] at h
  rw [h]
  congr 1
  have h2 : n % 256 % 128 + 2 ^ 7 * (n % 256 / 128) = n % 256 := by omega
  have h3 := Nat.two_pow_add_eq_or_of_lt (i := 7) (b := n % 256 % 128) (by omega) (n % 256 / 128)
  rcases (show n % 256 / 128 = 0 ∨ n % 256 / 128 = 1 by omega) with h4 | h4
  · have : n % 256 = n % 128 := by omega
    rw [this, Nat.or_comm]
    have := Nat.two_pow_add_eq_or_of_lt (i := 7) (b := n % 128) (by omega) 1
    simp at this
    omega
  · have e5 : n % 256 = 128 + n % 128 := by omega
    have := Nat.two_pow_add_eq_or_of_lt (i := 7) (b := n % 128) (by omega) 1
    simp at this
    rw [e5, this, Nat.or_comm (128 ||| n % 128), ← Nat.or_assoc, Nat.or_self]
    omega

end Byt
end Go.Proofs.Ytbloifnibgdeoaa
