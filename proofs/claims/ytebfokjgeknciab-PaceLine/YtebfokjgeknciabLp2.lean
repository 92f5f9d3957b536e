import Derived.Test.YtebfokjgeknciabLp1
import Derived.Shelf.Slices.Cells
import Derived.Shelf.Slices.Turned
import Derived.Shelf.Lay
namespace Go.Proofs.Ytebfokjgeknciab
namespace Lin
open Go.RowKit Go.Shelf Laws Irw
set_option linter.unusedVariables false
set_option maxRecDepth 100000

shelf_lay Lays2.n23 Nm2 23 at Try as Try.delA
shelf_lay Lays.n108 Nm 108 at Try as Try.idxA
shelf_lay Lays.n107 Nm 107 at Try as Try.conA

theorem index_any (a : Option Addr) (c n : Nat) (l : List Int) (x : Int) (w : World) (ha : IsI w a l) (hlen : l.length ≤ 9223372036854775807) (hn : n = l.length) :
    Calls Try.prog 35 #[.slice a n c, .int .i64 x] w fun e w' => e = .returned (.int .i64 (plc l x)) ∧ w' = w := by
  subst hn
  by_cases h0 : l = []
  · subst h0
    refine (Any.slices_Index_int_empty Try.idxA a c x w).mono ?_
    rintro e w' ⟨rfl, rfl⟩
    exact ⟨rfl, rfl⟩
  · obtain ⟨b, off, rfl, hr⟩ := ha h0
    refine (Any.slices_Index_int Try.idxA b off l.length c l x w (Nat.le_refl _) hlen (fun j hj => hr.cell hj)).mono ?_
    rintro e w' ⟨rfl, rfl⟩
    rw [List.take_length]
    exact ⟨rfl, rfl⟩
theorem contains_any (a : Option Addr) (c n : Nat) (l : List Int) (x : Int) (w : World) (ha : IsI w a l) (hlen : l.length ≤ 9223372036854775807) (hn : n = l.length) :
    Calls Try.prog 34 #[.slice a n c, .int .i64 x] w fun e w' => e = .returned (.bool (l.contains x)) ∧ w' = w := by
  subst hn
  by_cases h0 : l = []
  · subst h0
    refine (Any.slices_Contains_int_empty Try.conA a c x w).mono ?_
    rintro e w' ⟨rfl, rfl⟩
    exact ⟨rfl, rfl⟩
  · obtain ⟨b, off, rfl, hr⟩ := ha h0
    refine (Any.slices_Contains_int Try.conA b off l.length c l x w (Nat.le_refl _) hlen (fun j hj => hr.cell hj)).mono ?_
    rintro e w' ⟨rfl, rfl⟩
    rw [List.take_length]
    exact ⟨rfl, rfl⟩

/-- a row is written over -/
theorem own_setCells {base : Nat} {e : TypeId} {g n c : Nat} : ∀ (vs : List Value) (o : Nat) (w : World) (xs : List Value), w.ownsRow base e 1 (.slice (some ⟨g, 0, none⟩) n c) n xs → o + vs.length ≤ xs.length →
    (w.setCells g o vs).ownsRow base e 1 (.slice (some ⟨g, 0, none⟩) n c) n (xs.take o ++ vs ++ xs.drop (o + vs.length)) ∧ w.grownBy (w.setCells g o vs) (some g)
  | [], o, w, xs, h, _ => by
    refine ⟨?_, World.grownBy.refl _ _⟩
    simp only [World.setCells, List.append_nil, List.length_nil, Nat.add_zero, List.take_append_drop]
    exact h
  | v :: r, o, w, xs, h, hl => by
    simp only [List.length_cons] at hl
    obtain ⟨h1, h2⟩ := h.stored o v
    obtain ⟨k1, k2⟩ := own_setCells r (o + 1) _ _ h1 (by simp; omega)
    refine ⟨?_, h2.trans k2⟩
    have e1 : (xs.set o v).take (o + 1) = xs.take o ++ [v] := by
      rw [List.take_add_one, List.take_set_of_le (Nat.le_refl _)]
      simp [show o < xs.length by omega]
    have e2 : (xs.set o v).drop (o + 1 + r.length) = xs.drop (o + (r.length + 1)) := by
      rw [List.drop_set_of_lt (by omega)]
      congr 1
      omega
    rw [e1, e2, List.append_assoc, List.append_assoc] at k1
    rw [World.setCells, List.length_cons, List.append_assoc]
    exact k1

theorem delete_any (t : Nat) (T : Nat → Nat) (w : World) (v : Value) (l : List Int) (h : OwnL t T w v l) (k : Nat) (hk : k < l.length) (hlen : l.length ≤ 1000000000000) (j : Int) (hj : j = k + 1) :
    Calls Try.prog 36 #[v, .int .i64 k, .int .i64 j] w fun e w' => ∃ v', e = .returned v' ∧ OwnL t T w' v' (l.eraseIdx k) ∧ Goes (· = t) T w T w' := by
  rcases h.1.2 with ⟨h1, h2⟩ | ⟨g, cap, cur, hv, hb, hh, hc, hm, hs, ht⟩
  · omega
  · subst hv
    have hj' : j = ((k + 1 : Nat) : Int) := by omega
    subst hj'
    obtain ⟨a, c, e, hi, _, _, hf⟩ := h.form
    simp only [Value.slice.injEq] at e
    obtain ⟨rfl, _, rfl⟩ := e
    obtain ⟨b, off, e, hr⟩ := hi.at_ (by omega)
    simp only [Option.some.injEq, Addr.mk.injEq] at e
    obtain ⟨rfl, rfl, _⟩ := e
    refine (Any.slices_Delete_int_cells Try.delA g 0 l.length cap k (k + 1) l w (Nat.le_refl _) hc (by unfold maxLen at hm; omega) (by omega) (by omega) (fun j hj => hr.cell hj) (fun j _ => h.1.frozenAt _)).mono ?_
    rintro e w' ⟨rfl, q, rfl⟩
    refine ⟨_, rfl, ?_⟩
    rw [List.take_length]
    have hd : (w.drewN q).ownsRow 0 3 1 (.slice (some ⟨g, 0, none⟩) l.length cap) l.length (cellsI l) := h.1
    have hle : (l.take k ++ l.drop (k + 1) ++ List.replicate (k + 1 - k) 0).length = l.length := by simp; omega
    have e2 : (l.take k ++ l.drop (k + 1) ++ List.replicate (k + 1 - k) 0).take (l.length - (k + 1 - k)) = l.eraseIdx k := by
      rw [List.take_append_of_le_length (by simp; omega), List.take_of_length_le (by simp; omega), erase_eq]
    generalize l.take k ++ l.drop (k + 1) ++ List.replicate (k + 1 - k) 0 = L at *
    obtain ⟨k1, k2⟩ := own_setCells (L.map (Value.int .i64)) 0 _ _ hd (by simp [cellsI]; omega)
    have e1 : (cellsI l).take 0 ++ (L.map (Value.int .i64)) ++ (cellsI l).drop (0 + (L.map (Value.int .i64)).length) = cellsI L := by
      have e0 : (cellsI l).drop (0 + l.length) = [] := List.drop_eq_nil_of_le (by rw [cellsI_length]; omega)
      rw [List.length_map, hle, List.take_zero, List.nil_append, e0, List.append_nil]
      rfl
    rw [e1] at k1
    have k3 : OwnL t T ((w.drewN q).setCells g 0 (L.map (Value.int .i64))) (.slice (some ⟨g, 0, none⟩) l.length cap) L := ⟨by rw [hle]; exact k1, h.2⟩
    have k4 := k3.cut (k := l.length - (k + 1 - k)) (by rw [hle]; omega)
    rw [e2] at k4
    refine ⟨k4, k2.os, k2.tape, k2.output, k2.size, fun b hb ht => ?_, fun _ _ _ => rfl, fun _ _ h => h⟩
    refine k2.block b hb fun e => ht ?_
    simp only [Option.some.injEq] at e
    subst e
    exact h.2 b rfl

end Lin
end Go.Proofs.Ytebfokjgeknciab
