import Derived.Test.YtnhhalabmmcemaaDoorProg
import Derived.Test.YtnhhalabmmcemaaDoorSam
import Derived.Test.YtnhhalabmmcemaaDoorCRw
import Derived.Test.YtnhhalabmmcemaaDoorQbN
import Derived.Lib.AppendStr
namespace Go.Proofs.YtnhhalabmmcemaaDoor
namespace Qb
open Go.RowKit CMath Byt Laws Irw Crw Cod
set_option linter.unusedVariables false
set_option linter.unusedSimpArgs false
set_option maxRecDepth 20000

/-! Bytes of one's own, told by tags. -/
def k8 : Knd Nat := ⟨5, 1, 1, .int .u8 0, fun x => [.int .u8 (x : Int)], fun _ => rfl, fun x u hu => by simp at hu; subst hu; rfl, by omega, rfl, by omega⟩
theorem k8_cells (l : List Nat) : k8.cells l = cellsB l := by
  induction l with
  | nil => rfl
  | cons x l ih =>
    show k8.cs x ++ k8.cells l = _
    rw [ih]; rfl
theorem isK_of {w : World} {a : Option Addr} {l : List Nat} (h : IsB w a l) : IsK k8 w a l := fun hne => by
  obtain ⟨b, off, e, h1, h2⟩ := h.1 hne
  refine ⟨b, off, e, h1, fun i x hx j u hu => ?_⟩
  have hj : j < 1 := (List.getElem?_eq_some_iff.1 hu).1
  obtain rfl : j = 0 := by omega
  cases hu
  have := h2 i x hx
  show w.cell? ⟨b, off + i * 1 + 0, none⟩ = _
  rw [Nat.mul_one, Nat.add_zero]
  exact this
theorem isB_of_K {w : World} {a : Option Addr} {l : List Nat} (h : IsK k8 w a l) (hl : ∀ x ∈ l, x < 256) : IsB w a l := ⟨fun hne => by
  obtain ⟨b, off, e, h1, h2⟩ := h hne
  refine ⟨b, off, e, h1, fun i x hx => ?_⟩
  have := h2 i x hx 0 _ rfl
  have e2 : off + i * k8.size + 0 = off + i := by show off + i * 1 + 0 = _; omega
  rw [e2] at this
  exact this, hl⟩
structure OwnB (t : Nat) (T : Nat → Nat) (w : World) (v : Value) (l : List Nat) : Prop where
  own : OwnK k8 t T w v l
  byte : ∀ x ∈ l, x < 256
theorem OwnB.goes {s : Nat} {t : Nat → Prop} {T T' : Nat → Nat} {w w' : World} {v : Value} {l : List Nat} (h : OwnB s T w v l) (hg : Goes t T w T' w') (hs : ¬ t s) : OwnB s T' w' v l := ⟨h.own.goes hg hs, h.byte⟩
theorem OwnB.below {s : Nat} {T : Nat → Nat} {w w' : World} {v : Value} {l : List Nat} (h : OwnB s T w v l) (hb : Below w.heap.size w w') : OwnB s T w' v l := ⟨h.own.below hb, h.byte⟩
theorem OwnB.form {s : Nat} {T : Nat → Nat} {w : World} {v : Value} {l : List Nat} (h : OwnB s T w v l) : ∃ a c, v = .slice a l.length c ∧ IsB w a l ∧ l.length ≤ c ∧ (a = none → c = 0) ∧ c ≤ 9223372036854775807 ∧ (∀ b off, a = some ⟨b, off, none⟩ → off = 0 ∧ T b = s ∧ b < w.heap.size) := by
  rcases h.own.1.2 with ⟨h1, h2⟩ | ⟨g, cap, cur, hv, hb, hh, hc, hm, hr⟩
  · refine ⟨none, 0, by rw [h1, h2], ?_, by omega, by simp, by omega, fun b off e => by cases e⟩
    have : l = [] := List.eq_nil_of_length_eq_zero h2
    rw [this]; exact IsB.nil _ _
  · obtain ⟨a, c, e, hi, h1, h2, h3⟩ := h.own.form
    rw [hv] at e
    simp only [Value.slice.injEq] at e
    obtain ⟨rfl, _, rfl⟩ := e
    exact ⟨some ⟨g, 0, none⟩, cap, hv, isB_of_K hi h.byte, hc, by simp, hm, fun b off e => by cases e; exact ⟨rfl, h3 _ _ rfl⟩⟩
theorem OwnB.empty (t : Nat) (T : Nat → Nat) (w : World) : OwnB t T w (.slice none 0 0) [] := ⟨OwnK.empty _ _ _, by simp⟩
theorem OwnB.row {t : Nat} {T : Nat → Nat} {w : World} {v : Value} {l : List Nat} (h : OwnB t T w v l) : w.ownsRow 0 5 1 v l.length (cellsB l) := by
  have := h.own.1
  rw [k8_cells] at this
  exact this
/-- What was made anew gets a tag. -/
theorem OwnB.of_own {base t : Nat} {T : Nat → Nat} {w : World} {v : Value} {l : List Nat} (h : Own 5 base w v l) : ∃ g, base ≤ g ∧ g < w.heap.size ∧ OwnB t (upd T g t) w v l := by
  obtain ⟨g, c, e, h2, h3⟩ := h
  have hl := h2.lt g (by rw [e]; rfl)
  refine ⟨g, hl.1, hl.2, ⟨⟨?_, fun g' hg => ?_⟩, h3⟩⟩
  · rw [k8_cells]
    refine ⟨h2.1, ?_⟩
    rcases h2.2 with h | ⟨g, cap, cur, hv, hg, hr⟩
    · exact .inl h
    · exact .inr ⟨g, cap, cur, hv, by omega, hr⟩
  · rw [e] at hg
    simp [Value.ownBlock] at hg
    subst hg
    exact upd_same _ _ _

theorem info8' : (Tryd.prog.info? 5).map (fun i => (i.zero, i.size, i.bytes)) = some (some (.int .u8 0), 1, 1) := by kernel_rfl
/-- append of a slice's bytes -/
theorem wpList_app8 (w : World) {ops : Array Oper} {rest : List Oper} {o : Oper} {a : Act} {Q : Exit → Act → World → Prop} (hgd : o.guard = none) (s x : Operand)
    (ho : o.op = .call { callee := .builtin .append, args := #[s, x], argTypes := #[25, 25] })
    (g : Nat) (T : Nat → Nat) (v : Value) (l : List Nat) (hs : a.eval s = v) (hown : OwnB g T w v l) (ao : Option Addr) (m c : Nat) (r : List Nat) (hx : a.eval x = .slice ao m c) (hm : m = r.length) (hn : ao = none → c = 0) (hr : IsB w ao r) (h40 : l.length + r.length ≤ 1000000000000)
    (h : ∀ a' c' T' w', OwnB g T' w' (.slice a' (l.length + r.length) c') (l ++ r) → Goes (· = g) T w T' w' → wpList Tryd.prog ops Q rest (a.put o.dst (.slice a' (l.length + r.length) c')) w') : wpList Tryd.prog ops Q (o :: rest) a w := by
  obtain ⟨i8, hi, hz0, hz1, hz2⟩ := info_parts info8'
  exact wpList_appK k8 w hgd s x 25 ho i8 Tryd.underlying25 hi hz0 hz1 hz2 g T v l hs hown.own ao m c r hx hm hn (isK_of hr) h40 fun a' c' T' w' h2 h3 => h a' c' T' w' ⟨h2, byte_app hown.byte hr.2⟩ h3
/-- append of a text -/
theorem run_appS (w : World) (ty : TypeId) (s : Nat) (T : Nat → Nat) (v : Value) (l : List Nat) (hown : OwnB s T w v l) (x : ByteArray) (h40 : l.length + x.size ≤ 1000000000000) :
    ∃ v' T' w', (Builtin.append_ #[25, 9] ty #[v, .string x]).run Tryd.prog w = .ok v' w' ∧ OwnB s T' w' v' (l ++ strB x) ∧ Goes (· = s) T w T' w' := by
  obtain ⟨i8, hi, hz0, hz1, hz2⟩ := info_parts info8'
  obtain ⟨v', w', hr, h2, h3, h4⟩ := Lib.run_append_own_string (P := Tryd.prog) w 0 25 9 ty 5 i8 Tryd.underlying25 Tryd.underlying9 hi hz0 hz1 hz2 v l.length (cellsB l) hown.row x (by unfold maxLen; omega) (by omega) (Nat.zero_le _)
  rw [strCells_eq, ← cellsB_append] at h2
  have hby : ∀ y ∈ l ++ strB x, y < 256 := byte_app hown.byte (strB_byte x)
  have fin : ∀ g n c, v' = .slice (some ⟨g, 0, none⟩) n c → (v.ownBlock = some g ∨ w.heap.size ≤ g) → ∃ v'' T' w'', (Builtin.append_ #[25, 9] ty #[v, .string x]).run Tryd.prog w = .ok v'' w'' ∧ OwnB s T' w'' v'' (l ++ strB x) ∧ Goes (· = s) T w T' w'' := by
    intro g n c hv hat
    subst hv
    have hlen : l.length + x.size = (l ++ strB x).length := by simp [strB_length]
    have hn : n = l.length + x.size := by
      rcases h2.2 with ⟨e, _⟩ | ⟨g', c', cur, e, _⟩
      · cases e
      · cases e; rfl
    subst hn
    have h2' : w'.ownsRow 0 k8.ty k8.size (.slice (some ⟨g, 0, none⟩) (l.length + x.size) c) (l.length + x.size) (k8.cells l ++ k8.cells (strB x)) := by
      rw [k8_cells, k8_cells, ← cellsB_append]; exact h2
    obtain ⟨k1, k2⟩ := OwnK.grown (H := if v.ownBlock = some g then w.heap.size else g) hown.own h3 h2' (by rw [strB_length]) (by
      by_cases hg : v.ownBlock = some g
      · exact .inl hg
      · rw [if_neg hg]; exact .inr rfl) (by
      split
      · exact Nat.le_refl _
      · rcases hat with h | h
        · contradiction
        · exact h)
    exact ⟨_, _, w', hr, ⟨k1, hby⟩, k2⟩
  rcases hown.own.1.2 with ⟨e1, e2⟩ | ⟨g, cap, cur, hv, hb, hh, hc, hm, hcs, ht⟩
  · have hl : l = [] := List.eq_nil_of_length_eq_zero e2
    subst hl
    by_cases hx : x.size = 0
    · have hv' := h4.2 ⟨e1, hx⟩
      have hx0 : strB x = [] := List.eq_nil_of_length_eq_zero (by rw [strB_length]; exact hx)
      refine ⟨v', T, w', hr, ⟨?_, hby⟩, ⟨h3.os, h3.tape, h3.output, h3.size, fun b hb _ => h3.block b hb (by rw [e1]; simp [Value.ownBlock]), fun _ _ _ => rfl, fun _ _ h => h⟩⟩
      rw [hx0, hv']
      exact OwnK.empty _ _ _
    · obtain ⟨v2, w2, hr2, h22, _, h42⟩ := Lib.run_append_own_string (P := Tryd.prog) w w.heap.size 25 9 ty 5 i8 Tryd.underlying25 Tryd.underlying9 hi hz0 hz1 hz2 v 0 [] (by rw [e1]; exact World.ownsRow_nil _ _ _ _) x (by unfold maxLen; omega) (by omega) (Nat.le_refl _)
      rw [hr] at hr2
      cases hr2
      rcases h22.2 with ⟨e, _⟩ | ⟨g, c, cur, e, hg, _⟩
      · exact absurd (h42.1 e).2 hx
      · exact fin g _ c e (.inr hg)
  · have hcs' : cur.size = cap := by have : cur.size = cap * 1 := hcs; omega
    by_cases hroom : l.length + x.size ≤ cap
    · have hr2 := Lib.run_append_room_string (P := Tryd.prog) w 25 9 ty 5 i8 Tryd.underlying25 Tryd.underlying9 hi hz1 g l.length cap cur hh x hroom (by omega)
      rw [← hv, hr] at hr2
      cases hr2
      exact fin g _ cap rfl (.inl (by rw [hv]; rfl))
    · have hr2 := Lib.run_append_grow_string (P := Tryd.prog) w 25 9 ty 5 i8 (.int .u8 0) Tryd.underlying25 Tryd.underlying9 hi hz0 ⟨g, 0, none⟩ l.length cap (cellsB l) (by rw [cellsB_length, hz1]; omega) (by
        have := hown.row
        rw [hv] at this
        exact this.cells (g := g) rfl) x (by omega) (by omega) (by rw [hz2]; exact growslice_fits (by omega) (by omega))
      rw [← hv, hr] at hr2
      cases hr2
      exact fin w.heap.size _ _ rfl (.inr (Nat.le_refl _))
theorem wpList_appS (w : World) {ops : Array Oper} {rest : List Oper} {o : Oper} {a : Act} {Q : Exit → Act → World → Prop} (hgd : o.guard = none) (s x : Operand)
    (ho : o.op = .call { callee := .builtin .append, args := #[s, x], argTypes := #[25, 9] })
    (g : Nat) (T : Nat → Nat) (v : Value) (l : List Nat) (hs : a.eval s = v) (hown : OwnB g T w v l) (y : ByteArray) (hx : a.eval x = .string y) (h40 : l.length + y.size ≤ 1000000000000)
    (h : ∀ a' c' T' w', OwnB g T' w' (.slice a' (l ++ strB y).length c') (l ++ strB y) → Goes (· = g) T w T' w' → wpList Tryd.prog ops Q rest (a.put o.dst (.slice a' (l ++ strB y).length c')) w') : wpList Tryd.prog ops Q (o :: rest) a w := by
  refine wpList_plain hgd fun K hK => ?_
  obtain ⟨v', T', w', hr, h2, h3⟩ := run_appS w o.type g T v l hown y h40
  obtain ⟨a', c', e, _⟩ := h2.form
  subst e
  unfold Oper.wp execOp
  simp only [ho, resolve, invoke, builtin, Sem.run_bind, Sem.run_pure, Result.andThen_ok, List.map_toArray, List.map_cons, List.map_nil, hs, hx, hr]
  exact hK _ _ (h a' c' T' w' h2 h3)

end Qb
end Go.Proofs.YtnhhalabmmcemaaDoor
