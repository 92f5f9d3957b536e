import Derived.Test.YtebfokjgeknciabLp2
namespace Go.Proofs.Ytebfokjgeknciab
namespace Lin
open Go.RowKit Go.Shelf Laws Irw
set_option linter.unusedVariables false
set_option maxRecDepth 100000

/-- A line that lies: tag t is itself, t + 1 who stands in it. -/
structure LineAt (t : Nat) (T : Nat → Nat) (w : World) (p : Nat) (l : List Int) : Prop where
  tag : T p = t
  lt : p < w.heap.size
  free : w.frozen? ⟨p, 0, none⟩ = false
  at_ : ∃ v, w.cell? ⟨p, 0, none⟩ = some v ∧ OwnL (t + 1) T w v l
theorem LineAt.goes {t : Nat} {u : Nat → Prop} {T T' : Nat → Nat} {w w' : World} {p : Nat} {l : List Int} (h : LineAt t T w p l) (hg : Goes u T w T' w') (h1 : ¬ u t) (h2 : ¬ u (t + 1)) : LineAt t T' w' p l := by
  have hb := hg.block p h.lt (by rw [h.tag]; exact h1)
  obtain ⟨v, hv, ho⟩ := h.at_
  exact ⟨(hg.tag p h.lt (by rw [h.tag]; exact h1)).trans h.tag, Nat.lt_of_lt_of_le h.lt hg.size, (World.frozen?_of_block (a := ⟨p, 0, none⟩) hb).trans h.free, v, (World.cell?_of_block (a := ⟨p, 0, none⟩) hb).trans hv, ho.goes hg h2⟩
theorem LineAt.below {t : Nat} {T : Nat → Nat} {w w' : World} {p : Nat} {l : List Int} (h : LineAt t T w p l) (hb : Below w.heap.size w w') : LineAt t T w' p l := h.goes (Goes.below (t := fun _ => False) hb) (fun z => z) (fun z => z)
theorem LineAt.put {t : Nat} {T T' : Nat → Nat} {w w' : World} {p : Nat} {l l' : List Int} {v : Value} (h : LineAt t T w p l) (hg : Goes (· = t + 1) T w T' w') (ho : OwnL (t + 1) T' w' v l') :
    LineAt t T' (w'.setCell ⟨p, 0, none⟩ v) p l' ∧ Goes (fun x => x = t ∨ x = t + 1) T w T' (w'.setCell ⟨p, 0, none⟩ v) := by
  have hT : T' p = t := (hg.tag p h.lt (by rw [h.tag]; omega)).trans h.tag
  have hb := hg.block p h.lt (by rw [h.tag]; omega)
  obtain ⟨v0, hv0, _⟩ := h.at_
  have hc : w'.cell? ⟨p, 0, none⟩ = some v0 := (World.cell?_of_block (a := ⟨p, 0, none⟩) hb).trans hv0
  have hs : Goes (· = t) T' w' T' (w'.setCell ⟨p, 0, none⟩ v) := Goes.setCell hT
  refine ⟨⟨hT, by have := h.lt; have := hg.size; simp; omega, ?_, v, World.cell?_setCell_same _ _ _ hc, ho.goes hs (by omega)⟩, (hg.mono fun x hx => .inr hx).trans (hs.mono fun x hx => .inl hx)⟩
  rw [World.frozen?_setCell]
  exact (World.frozen?_of_block (a := ⟨p, 0, none⟩) hb).trans h.free
/-- what it holds, to be read -/
theorem LineAt.form {t : Nat} {T : Nat → Nat} {w : World} {p : Nat} {l : List Int} (h : LineAt t T w p l) : ∃ a c, w.cell? ⟨p, 0, none⟩ = some (.slice a l.length c) ∧ OwnL (t + 1) T w (.slice a l.length c) l ∧ IsI w a l ∧ l.length ≤ c ∧ (a = none → c = 0) := by
  obtain ⟨v, hv, ho⟩ := h.at_
  obtain ⟨a, c, rfl, h1, h2, h3, _⟩ := ho.form
  exact ⟨a, c, hv, ho, h1, h2, h3⟩

theorem new_any (w : World) (T : Nat → Nat) (t : Nat) : Calls Try.prog 20 #[] w fun e w' => e = .returned (.pointer (some ⟨w.heap.size, 0, none⟩)) ∧ LineAt t (upd T w.heap.size t) w' w.heap.size [] ∧ Below w.heap.size w w' := by
  go_enter Try.func20, Try.ntmps20
  go_wp2
  go_ret
  refine ⟨rfl, ⟨upd_same _ _ _, by simp, by simp, .slice none 0 0, by simp, OwnL.nil _ _ _⟩, (Below.refl _ _).alloc (Nat.le_refl _) _⟩

/-- FIRST. -/
theorem first_any (t : Nat) (T : Nat → Nat) (w : World) (p : Nat) (l : List Int) (h : LineAt t T w p l) (hlen : l.length ≤ 1000000000000) :
    Calls Try.prog 33 #[.pointer (some ⟨p, 0, none⟩)] w fun e w' => e = .returned (.tuple #[.int .i64 (l.getD 0 0), .bool (decide (0 < l.length))]) ∧ w' = w := by
  obtain ⟨a, c, hc, _, hi, _, _⟩ := h.form
  by_cases h0 : l = []
  · subst h0
    go_enter Try.func33, Try.ntmps33
    go_wp2
    go_ret2
    exact ⟨by simp, rfl⟩
  · obtain ⟨b, off, rfl, hr⟩ := hi h0
    have hp : 0 < l.length := List.length_pos_iff.2 h0
    have c0 : w.cell? ⟨b, off, none⟩ = some (.int .i64 (l.getD 0 0)) := by have := hr.cell hp; simpa using this
    have q1 : ¬ (l.length : Int) = 0 := by omega
    have q2 : (0 : Int) < l.length := by omega
    generalize l.getD 0 0 = y at *
    go_enter Try.func33, Try.ntmps33
    go_wp2
    go_ret2
    exact ⟨by simp [hp], rfl⟩

end Lin
end Go.Proofs.Ytebfokjgeknciab
