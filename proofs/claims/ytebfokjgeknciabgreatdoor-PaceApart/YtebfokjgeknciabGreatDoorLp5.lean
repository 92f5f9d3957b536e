import Derived.WalkKit
import Derived.Lib.Slices
import Derived.Test.YtebfokjgeknciabGreatDoorProg
import Derived.Test.YtebfokjgeknciabGreatDoorIRw
import Derived.Deep.QuietTactic
import Derived.Laws.AppendOwnNone
import Derived.Shelf.Slices.Cells
import Derived.Shelf.Slices.Turned
import Derived.Shelf.Lay
namespace Go.Proofs.YtebfokjgeknciabGreatDoor
namespace Lin
open Go.RowKit
set_option linter.unusedVariables false

/-- Where a number stands. -/
def plc (l : List Int) (n : Int) : Int := Lib.idxOf l n
theorem plc_ge (l : List Int) (n : Int) : 0 ≤ plc l n ↔ n ∈ l := by
  unfold plc
  rw [Lib.idxOf_nonneg_iff]
  simp
theorem plc_hit {l : List Int} {n : Int} {k : Nat} (hk : k < l.length) (h : l.getD k 0 = n) (hn : ∀ j, j < k → l.getD j 0 ≠ n) : plc l n = k := by
  have := Lib.idxOf_hit l l.length k n hk (Nat.le_refl _) h hn
  rwa [List.take_length] at this
theorem plc_miss {l : List Int} {n : Int} (hn : ∀ j, j < l.length → l.getD j 0 ≠ n) : plc l n = -1 := by
  have := Lib.idxOf_miss l l.length n hn
  rwa [List.take_length] at this
theorem plc_neg {l : List Int} {n : Int} (h : n ∉ l) : plc l n = -1 := plc_miss fun j hj e => h (by rw [← e]; simp [hj])
theorem plc_some {l : List Int} {n : Int} (h : n ∈ l) : ∃ k : Nat, k < l.length ∧ plc l n = k ∧ l.getD k 0 = n ∧ ∀ j, j < k → l.getD j 0 ≠ n := by
  have key : ∀ m, m ≤ l.length → (∃ k : Nat, k < m ∧ l.getD k 0 = n ∧ ∀ j, j < k → l.getD j 0 ≠ n) ∨ ∀ j, j < m → l.getD j 0 ≠ n := by
    intro m
    induction m with
    | zero => intro _; exact .inr fun j hj => by omega
    | succ m ih =>
      intro hm
      rcases ih (by omega) with ⟨k, h1, h2, h3⟩ | h1
      · exact .inl ⟨k, by omega, h2, h3⟩
      · by_cases e : l.getD m 0 = n
        · exact .inl ⟨m, by omega, e, h1⟩
        · exact .inr fun j hj => by
            by_cases ej : j = m
            · rw [ej]; exact e
            · exact h1 j (by omega)
  rcases key l.length (Nat.le_refl _) with ⟨k, h1, h2, h3⟩ | h1
  · exact ⟨k, h1, plc_hit h1 h2 h3, h2, h3⟩
  · have := plc_miss h1
    have h2 := (plc_ge l n).2 h
    omega
theorem plc_at {l : List Int} (hd : l.Nodup) {k : Nat} (hk : k < l.length) : plc l (l.getD k 0) = k := by
  refine plc_hit hk rfl fun j hj e => ?_
  have hj' : j < l.length := by omega
  have e' : l[j] = l[k] := by simpa [hj', hk] using e
  exact List.pairwise_iff_getElem.1 hd j k hj' hk hj e'
theorem plc_ahead {l : List Int} (hd : l.Nodup) {k : Nat} (hk : k < l.length) : plc (l.take k) (l.getD k 0) = -1 := by
  refine plc_neg fun hm => ?_
  obtain ⟨j, hj, e⟩ := List.mem_iff_getElem.1 hm
  simp at hj
  have e' : l[j] = l[k] := by simpa [hk] using e
  exact List.pairwise_iff_getElem.1 hd j k (by omega) hk (by omega) e'

/-- somebody joins, somebody leaves -/
theorem nodup_join {l : List Int} (hd : l.Nodup) {n : Int} (h : n ∉ l) : (l ++ [n]).Nodup := by
  rw [List.nodup_append]
  exact ⟨hd, by simp, by intro a ha b hb e; simp at hb; subst hb; subst e; exact h ha⟩
/-- when they joined -/
structure Since (l : List Int) (s : List Int) (i : Int) : Prop where
  len : s.length = l.length
  up : s.Pairwise (· < ·)
  lt : ∀ x ∈ s, x < i
theorem Since.nil (i : Int) : Since [] [] i := ⟨rfl, by simp, by simp⟩
theorem Since.next {l s : List Int} {i : Int} (h : Since l s i) : Since l s (i + 1) := ⟨h.len, h.up, fun x hx => by have := h.lt x hx; omega⟩
theorem Since.join {l s : List Int} {i : Int} (h : Since l s i) (n : Int) : Since (l ++ [n]) (s ++ [i]) (i + 1) :=
  ⟨by simp [h.len], by rw [List.pairwise_append]; exact ⟨h.up, by simp, fun a ha b hb => by simp at hb; subst hb; exact h.lt a ha⟩, fun x hx => by
    rw [List.mem_append] at hx
    rcases hx with hx | hx
    · have := h.lt x hx; omega
    · simp at hx; omega⟩
theorem Since.leave {l s : List Int} {i : Int} (h : Since l s i) (k : Nat) : Since (l.eraseIdx k) (s.eraseIdx k) (i + 1) :=
  ⟨by simp [List.length_eraseIdx, h.len], h.up.sublist (List.eraseIdx_sublist _ _), fun x hx => by
    have := h.lt x ((List.eraseIdx_sublist _ _).subset hx); omega⟩
theorem Since.rise {l s : List Int} {i : Int} (h : Since l s i) {k : Nat} (h0 : 0 < k) (hk : k < l.length) : ¬ s.getD k 0 < s.getD (k - 1) 0 := by
  have h1 : k < s.length := by rw [h.len]; exact hk
  have := List.pairwise_iff_getElem.1 h.up (k - 1) k (by omega) h1 (by omega)
  have e1 : s.getD k 0 = s[k] := by simp [h1]
  have e2 : s.getD (k - 1) 0 = s[k - 1]'(by omega) := by
    have : k - 1 < s.length := by omega
    simp [this]
  omega
theorem erase_eq (l : List Int) (k : Nat) : l.eraseIdx k = l.take k ++ l.drop (k + 1) := List.eraseIdx_eq_take_drop_succ l k

end Lin
end Go.Proofs.YtebfokjgeknciabGreatDoor
namespace Go.Proofs.YtebfokjgeknciabGreatDoor
namespace Lin
open Go.RowKit Laws Irw
set_option linter.unusedVariables false
set_option maxRecDepth 100000


end Lin
end Go.Proofs.YtebfokjgeknciabGreatDoor
namespace Go.Proofs.YtebfokjgeknciabGreatDoor
namespace Lin
open Go.RowKit Go.Shelf Laws Irw
set_option linter.unusedVariables false
set_option maxRecDepth 100000

shelf_lay Lays2.n23 Nm2 23 at Tryz as Tryz.delA
shelf_lay Lays.n108 Nm 108 at Tryz as Tryz.idxA
shelf_lay Lays.n107 Nm 107 at Tryz as Tryz.conA

theorem index_any (a : Option Addr) (c n : Nat) (l : List Int) (x : Int) (w : World) (ha : IsI w a l) (hlen : l.length ≤ 9223372036854775807) (hn : n = l.length) :
    Calls Tryz.prog 89 #[.slice a n c, .int .i64 x] w fun e w' => e = .returned (.int .i64 (plc l x)) ∧ w' = w := by
  subst hn
  by_cases h0 : l = []
  · subst h0
    refine (Any.slices_Index_int_empty Tryz.idxA a c x w).mono ?_
    rintro e w' ⟨rfl, rfl⟩
    exact ⟨rfl, rfl⟩
  · obtain ⟨b, off, rfl, hr⟩ := ha h0
    refine (Any.slices_Index_int Tryz.idxA b off l.length c l x w (Nat.le_refl _) hlen (fun j hj => hr.cell hj)).mono ?_
    rintro e w' ⟨rfl, rfl⟩
    rw [List.take_length]
    exact ⟨rfl, rfl⟩
theorem contains_any (a : Option Addr) (c n : Nat) (l : List Int) (x : Int) (w : World) (ha : IsI w a l) (hlen : l.length ≤ 9223372036854775807) (hn : n = l.length) :
    Calls Tryz.prog 88 #[.slice a n c, .int .i64 x] w fun e w' => e = .returned (.bool (l.contains x)) ∧ w' = w := by
  subst hn
  by_cases h0 : l = []
  · subst h0
    refine (Any.slices_Contains_int_empty Tryz.conA a c x w).mono ?_
    rintro e w' ⟨rfl, rfl⟩
    exact ⟨rfl, rfl⟩
  · obtain ⟨b, off, rfl, hr⟩ := ha h0
    refine (Any.slices_Contains_int Tryz.conA b off l.length c l x w (Nat.le_refl _) hlen (fun j hj => hr.cell hj)).mono ?_
    rintro e w' ⟨rfl, rfl⟩
    rw [List.take_length]
    exact ⟨rfl, rfl⟩

/-- a row is written over -/
theorem own_setCells {base : Nat} {e : TypeId} {g n c : Nat} : ∀ (vs : List Value) (o : Nat) (w : World) (xs : List Value), w.ownsRow base e 1 (.slice (some ⟨g, 0, none⟩) n c) n xs → o + vs.length ≤ xs.length →
    (w.setCells g o vs).ownsRow base e 1 (.slice (some ⟨g, 0, none⟩) n c) n (xs.take o ++ vs ++ xs.drop (o + vs.length)) ∧ w.grownBy (w.setCells g o vs) (some g)
  | [], o, w, xs, h, _ => by
    refine ⟨?_, World.grownBy.refl _ _⟩
    simp only [World.setCells, List.append_nil, List.length_nil, Nat.add_zero, List.take_append_drop]
    exact h
  | v :: r, o, w, xs, h, hl => by
    simp only [List.length_cons] at hl
    obtain ⟨h1, h2⟩ := h.stored o v
    obtain ⟨k1, k2⟩ := own_setCells r (o + 1) _ _ h1 (by simp; omega)
    refine ⟨?_, h2.trans k2⟩
    have e1 : (xs.set o v).take (o + 1) = xs.take o ++ [v] := by
      rw [List.take_add_one, List.take_set_of_le (Nat.le_refl _)]
      simp [show o < xs.length by omega]
    have e2 : (xs.set o v).drop (o + 1 + r.length) = xs.drop (o + (r.length + 1)) := by
      rw [List.drop_set_of_lt (by omega)]
      congr 1
      omega
    rw [e1, e2, List.append_assoc, List.append_assoc] at k1
    rw [World.setCells, List.length_cons, List.append_assoc]
    exact k1

theorem delete_any (t : Nat) (T : Nat → Nat) (w : World) (v : Value) (l : List Int) (h : OwnL t T w v l) (k : Nat) (hk : k < l.length) (hlen : l.length ≤ 1000000000000) (j : Int) (hj : j = k + 1) :
    Calls Tryz.prog 90 #[v, .int .i64 k, .int .i64 j] w fun e w' => ∃ v', e = .returned v' ∧ OwnL t T w' v' (l.eraseIdx k) ∧ Goes (· = t) T w T w' := by
  rcases h.1.2 with ⟨h1, h2⟩ | ⟨g, cap, cur, hv, hb, hh, hc, hm, hs, ht⟩
  · omega
  · subst hv
    have hj' : j = ((k + 1 : Nat) : Int) := by omega
    subst hj'
    obtain ⟨a, c, e, hi, _, _, hf⟩ := h.form
    simp only [Value.slice.injEq] at e
    obtain ⟨rfl, _, rfl⟩ := e
    obtain ⟨b, off, e, hr⟩ := hi.at_ (by omega)
    simp only [Option.some.injEq, Addr.mk.injEq] at e
    obtain ⟨rfl, rfl, _⟩ := e
    refine (Any.slices_Delete_int_cells Tryz.delA g 0 l.length cap k (k + 1) l w (Nat.le_refl _) hc (by unfold maxLen at hm; omega) (by omega) (by omega) (fun j hj => hr.cell hj) (fun j _ => h.1.frozenAt _)).mono ?_
    rintro e w' ⟨rfl, q, rfl⟩
    refine ⟨_, rfl, ?_⟩
    rw [List.take_length]
    have hd : (w.drewN q).ownsRow 0 3 1 (.slice (some ⟨g, 0, none⟩) l.length cap) l.length (cellsI l) := h.1
    have hle : (l.take k ++ l.drop (k + 1) ++ List.replicate (k + 1 - k) 0).length = l.length := by simp; omega
    have e2 : (l.take k ++ l.drop (k + 1) ++ List.replicate (k + 1 - k) 0).take (l.length - (k + 1 - k)) = l.eraseIdx k := by
      rw [List.take_append_of_le_length (by simp; omega), List.take_of_length_le (by simp; omega), erase_eq]
    generalize l.take k ++ l.drop (k + 1) ++ List.replicate (k + 1 - k) 0 = L at *
    obtain ⟨k1, k2⟩ := own_setCells (L.map (Value.int .i64)) 0 _ _ hd (by simp [cellsI]; omega)
    have e1 : (cellsI l).take 0 ++ (L.map (Value.int .i64)) ++ (cellsI l).drop (0 + (L.map (Value.int .i64)).length) = cellsI L := by
      have e0 : (cellsI l).drop (0 + l.length) = [] := List.drop_eq_nil_of_le (by rw [cellsI_length]; omega)
      rw [List.length_map, hle, List.take_zero, List.nil_append, e0, List.append_nil]
      rfl
    rw [e1] at k1
    have k3 : OwnL t T ((w.drewN q).setCells g 0 (L.map (Value.int .i64))) (.slice (some ⟨g, 0, none⟩) l.length cap) L := ⟨by rw [hle]; exact k1, h.2⟩
    have k4 := k3.cut (k := l.length - (k + 1 - k)) (by rw [hle]; omega)
    rw [e2] at k4
    refine ⟨k4, k2.os, k2.tape, k2.output, k2.size, fun b hb ht => ?_, fun _ _ _ => rfl, fun _ _ h => h⟩
    refine k2.block b hb fun e => ht ?_
    simp only [Option.some.injEq] at e
    subst e
    exact h.2 b rfl

end Lin
end Go.Proofs.YtebfokjgeknciabGreatDoor
namespace Go.Proofs.YtebfokjgeknciabGreatDoor
namespace Lin
open Go.RowKit Go.Shelf Laws Irw
set_option linter.unusedVariables false
set_option maxRecDepth 100000

/-- A line that lies: tag t is itself, t + 1 who stands in it. -/
structure LineAt (t : Nat) (T : Nat → Nat) (w : World) (p : Nat) (l : List Int) : Prop where
  tag : T p = t
  lt : p < w.heap.size
  free : w.frozen? ⟨p, 0, none⟩ = false
  at_ : ∃ v, w.cell? ⟨p, 0, none⟩ = some v ∧ OwnL (t + 1) T w v l
theorem LineAt.goes {t : Nat} {u : Nat → Prop} {T T' : Nat → Nat} {w w' : World} {p : Nat} {l : List Int} (h : LineAt t T w p l) (hg : Goes u T w T' w') (h1 : ¬ u t) (h2 : ¬ u (t + 1)) : LineAt t T' w' p l := by
  have hb := hg.block p h.lt (by rw [h.tag]; exact h1)
  obtain ⟨v, hv, ho⟩ := h.at_
  exact ⟨(hg.tag p h.lt (by rw [h.tag]; exact h1)).trans h.tag, Nat.lt_of_lt_of_le h.lt hg.size, (World.frozen?_of_block (a := ⟨p, 0, none⟩) hb).trans h.free, v, (World.cell?_of_block (a := ⟨p, 0, none⟩) hb).trans hv, ho.goes hg h2⟩
theorem LineAt.below {t : Nat} {T : Nat → Nat} {w w' : World} {p : Nat} {l : List Int} (h : LineAt t T w p l) (hb : Below w.heap.size w w') : LineAt t T w' p l := h.goes (Goes.below (t := fun _ => False) hb) (fun z => z) (fun z => z)
theorem LineAt.put {t : Nat} {T T' : Nat → Nat} {w w' : World} {p : Nat} {l l' : List Int} {v : Value} (h : LineAt t T w p l) (hg : Goes (· = t + 1) T w T' w') (ho : OwnL (t + 1) T' w' v l') :
    LineAt t T' (w'.setCell ⟨p, 0, none⟩ v) p l' ∧ Goes (fun x => x = t ∨ x = t + 1) T w T' (w'.setCell ⟨p, 0, none⟩ v) := by
  have hT : T' p = t := (hg.tag p h.lt (by rw [h.tag]; omega)).trans h.tag
  have hb := hg.block p h.lt (by rw [h.tag]; omega)
  obtain ⟨v0, hv0, _⟩ := h.at_
  have hc : w'.cell? ⟨p, 0, none⟩ = some v0 := (World.cell?_of_block (a := ⟨p, 0, none⟩) hb).trans hv0
  have hs : Goes (· = t) T' w' T' (w'.setCell ⟨p, 0, none⟩ v) := Goes.setCell hT
  refine ⟨⟨hT, by have := h.lt; have := hg.size; simp; omega, ?_, v, World.cell?_setCell_same _ _ _ hc, ho.goes hs (by omega)⟩, (hg.mono fun x hx => .inr hx).trans (hs.mono fun x hx => .inl hx)⟩
  rw [World.frozen?_setCell]
  exact (World.frozen?_of_block (a := ⟨p, 0, none⟩) hb).trans h.free
/-- what it holds, to be read -/
theorem LineAt.form {t : Nat} {T : Nat → Nat} {w : World} {p : Nat} {l : List Int} (h : LineAt t T w p l) : ∃ a c, w.cell? ⟨p, 0, none⟩ = some (.slice a l.length c) ∧ OwnL (t + 1) T w (.slice a l.length c) l ∧ IsI w a l ∧ l.length ≤ c ∧ (a = none → c = 0) := by
  obtain ⟨v, hv, ho⟩ := h.at_
  obtain ⟨a, c, rfl, h1, h2, h3, _⟩ := ho.form
  exact ⟨a, c, hv, ho, h1, h2, h3⟩

theorem new_any (w : World) (T : Nat → Nat) (t : Nat) : Calls Tryz.prog 22 #[] w fun e w' => e = .returned (.pointer (some ⟨w.heap.size, 0, none⟩)) ∧ LineAt t (upd T w.heap.size t) w' w.heap.size [] ∧ Below w.heap.size w w' := by
  go_enter Tryz.func22, Tryz.ntmps22
  go_wp2
  go_ret
  refine ⟨rfl, ⟨upd_same _ _ _, by simp, by simp, .slice none 0 0, by simp, OwnL.nil _ _ _⟩, (Below.refl _ _).alloc (Nat.le_refl _) _⟩

/-- FIRST. -/
theorem first_any (t : Nat) (T : Nat → Nat) (w : World) (p : Nat) (l : List Int) (h : LineAt t T w p l) (hlen : l.length ≤ 1000000000000) :
    Calls Tryz.prog 87 #[.pointer (some ⟨p, 0, none⟩)] w fun e w' => e = .returned (.tuple #[.int .i64 (l.getD 0 0), .bool (decide (0 < l.length))]) ∧ w' = w := by
  obtain ⟨a, c, hc, _, hi, _, _⟩ := h.form
  by_cases h0 : l = []
  · subst h0
    go_enter Tryz.func87, Tryz.ntmps87
    go_wp2
    go_ret2
    exact ⟨by simp, rfl⟩
  · obtain ⟨b, off, rfl, hr⟩ := hi h0
    have hp : 0 < l.length := List.length_pos_iff.2 h0
    have c0 : w.cell? ⟨b, off, none⟩ = some (.int .i64 (l.getD 0 0)) := by have := hr.cell hp; simpa using this
    have q1 : ¬ (l.length : Int) = 0 := by omega
    have q2 : (0 : Int) < l.length := by omega
    generalize l.getD 0 0 = y at *
    go_enter Tryz.func87, Tryz.ntmps87
    go_wp2
    go_ret2
    exact ⟨by simp [hp], rfl⟩

end Lin
end Go.Proofs.YtebfokjgeknciabGreatDoor
namespace Go.Proofs.YtebfokjgeknciabGreatDoor
namespace Lin
open Go.RowKit Go.Shelf Laws Irw
set_option linter.unusedVariables false
set_option maxRecDepth 100000

theorem infoI : (Tryz.prog.info? 3).map (fun i => (i.zero, i.size, i.bytes)) = some (some (.int .i64 0), 1, 8) := by kernel_rfl

def joinL (l : List Int) (x : Int) : List Int := if x ∈ l then l else l ++ [x]
def leaveL (l : List Int) (x : Int) : List Int := if x ∈ l then l.eraseIdx (plc l x).toNat else l
def JoinIs (t : Nat) (T : Nat → Nat) (w : World) (p : Nat) (l l' : List Int) (w' : World) : Prop := ∃ T', LineAt t T' w' p l' ∧ Goes (fun x => x = t ∨ x = t + 1) T w T' w'

theorem isI_new {w : World} {x : Int} {u : TypeId} : IsI (w.alloc (.cells #[.int .i64 x] u)) (some ⟨w.heap.size, 0, none⟩) [x] := by
  refine IsI.of ⟨by simp, fun i z hz => ?_⟩
  rw [World.cell?_alloc_at _ _ _ _ rfl]
  cases i with
  | zero => simp at hz; subst hz; rfl
  | succ i => simp at hz

set_option maxHeartbeats 1600000 in
/-- JOIN. -/
theorem join_any (t : Nat) (T : Nat → Nat) (w : World) (p : Nat) (l : List Int) (x : Int) (h : LineAt t T w p l) (hlen : l.length ≤ 100000000000) :
    Calls Tryz.prog 60 #[.pointer (some ⟨p, 0, none⟩), .int .i64 x] w fun e w' => e = .returned (.bool (decide (x ∉ l))) ∧ JoinIs t T w p l (joinL l x) w' := by
  obtain ⟨i0, hi0, hz0, hz1, hz2⟩ := info_parts infoI
  obtain ⟨a, c, hc, ho, hi, _, hn⟩ := h.form
  have HH : Hid (LineAt t T w p l) := h
  have HO : Hid (OwnL (t + 1) T w (.slice a l.length c) l) := ho
  have hlt := h.lt
  have hf := h.free
  clear h ho
  by_cases hx : x ∈ l
  · have HX : Hid (x ∈ l) := hx
    have hcx : l.contains x = true := by simp [hx]
    clear hx
    go_enter Tryz.func60, Tryz.ntmps60
    go_wp2_with (go_at_call 88; refine (contains_any a c _ l x _ hi (by omega) rfl).mono ?_; rintro e w9 ⟨rfl, hw9⟩; have hw8 := hw9.symm; clear hw9; subst hw8)
    go_ret
    exact ⟨by simp [HX.out], T, by unfold joinL; rw [if_pos HX.out]; exact HH.out, Goes.refl _ _ _⟩
  · have HX : Hid (¬ x ∈ l) := hx
    have hcx : l.contains x = false := by simp [hx]
    clear hx
    go_enter Tryz.func60, Tryz.ntmps60
    go_wp2_with (first
      | (go_at_call 88; refine (contains_any a c _ l x _ hi (by omega) rfl).mono ?_; rintro e w9 ⟨rfl, hw9⟩; have hw8 := hw9.symm; clear hw9; subst hw8)
      | (at_builtin; go_loud (refine wpList_appL _ (by rfl) (.tmp 15) (.tmp 17) 33 (by rfl) i0 Tryz.underlying33 hi0 hz0 hz1 hz2 (t + 1) T (.slice a l.length c) l (by rfl) (HO.out.below ((Below.refl _ _).alloc (Nat.le_refl _) _)) (some ⟨w.heap.size, 0, none⟩) 1 1 [x] (by rfl) (by rfl) (by simp) isI_new (by simp; omega) ?_; intro a7 c7 T7 w7 hown7 hgo7 hat7; have hg' : Goes (· = t + 1) T w T7 w7 := (Goes.below ((Below.refl _ _).alloc (Nat.le_refl _) _)).trans hgo7; have hfin : Hid (LineAt t T7 (w7.setCell ⟨p, 0, none⟩ (.slice a7 (l.length + 1) c7)) p (l ++ [x]) ∧ Goes (fun x => x = t ∨ x = t + 1) T w T7 (w7.setCell ⟨p, 0, none⟩ (.slice a7 (l.length + 1) c7))) := HH.out.put hg' hown7; have hb := hg'.block p hlt (by rw [HH.out.tag]; omega); have hc7 : w7.cell? ⟨p, 0, none⟩ = some (.slice a l.length c) := (World.cell?_of_block (a := ⟨p, 0, none⟩) hb).trans hc; have hf7 : w7.frozen? ⟨p, 0, none⟩ = false := (World.frozen?_of_block (a := ⟨p, 0, none⟩) hb).trans hf; clear hg' hown7 hgo7 hat7 hb)))
    go_ret
    exact ⟨by simp [HX.out], T7, by unfold joinL; rw [if_neg HX.out]; exact hfin.out.1, hfin.out.2⟩

end Lin
end Go.Proofs.YtebfokjgeknciabGreatDoor
namespace Go.Proofs.YtebfokjgeknciabGreatDoor
namespace Lin
open Go.RowKit Go.Shelf Laws Irw
set_option linter.unusedVariables false
set_option maxRecDepth 100000

set_option maxHeartbeats 1600000 in
/-- LEAVE. -/
theorem leave_any (t : Nat) (T : Nat → Nat) (w : World) (p : Nat) (l : List Int) (x : Int) (h : LineAt t T w p l) (hlen : l.length ≤ 100000000000) :
    Calls Tryz.prog 62 #[.pointer (some ⟨p, 0, none⟩), .int .i64 x] w fun e w' => e = .returned (.bool (decide (x ∈ l))) ∧ JoinIs t T w p l (leaveL l x) w' := by
  obtain ⟨a, c, hc, ho, hi, _, hn⟩ := h.form
  have HH : Hid (LineAt t T w p l) := h
  have HO : Hid (OwnL (t + 1) T w (.slice a l.length c) l) := ho
  have hlt := h.lt
  have hf := h.free
  clear h ho
  by_cases hx : x ∈ l
  · have HX : Hid (x ∈ l) := hx
    obtain ⟨k, hk, hp, _, _⟩ := plc_some hx
    have HP : Hid (plc l x = k) := hp
    clear hp
    have hk0 : ¬ (k : Int) < 0 := by omega
    have hw1 : IntKind.i64.wrap ((k : Int) + 1) = (k : Int) + 1 := IntWalk.i64_in _ (by omega)
    clear hx
    go_enter Tryz.func62, Tryz.ntmps62
    go_wp2_with (first
      | (go_at_call 89; refine (index_any a c _ l x _ hi (by omega) rfl).mono ?_; rintro e w9 ⟨rfl, hw9⟩; have hw8 := hw9.symm; clear hw9; subst hw8; rw [HP.out])
      | (go_at_call 90; go_loud (refine (delete_any (t + 1) T _ (.slice a l.length c) l HO.out k hk (by omega) _ rfl).mono ?_; rintro e w7 ⟨v7, rfl, hown7, hg'⟩; obtain ⟨a7, c7, rfl, _⟩ := hown7.form; have hfin : Hid (LineAt t T (w7.setCell ⟨p, 0, none⟩ (.slice a7 (l.eraseIdx k).length c7)) p (l.eraseIdx k) ∧ Goes (fun x => x = t ∨ x = t + 1) T w T (w7.setCell ⟨p, 0, none⟩ (.slice a7 (l.eraseIdx k).length c7))) := HH.out.put hg' hown7; have hb := hg'.block p hlt (by rw [HH.out.tag]; omega); have hc7 : w7.cell? ⟨p, 0, none⟩ = some (.slice a l.length c) := (World.cell?_of_block (a := ⟨p, 0, none⟩) hb).trans hc; have hf7 : w7.frozen? ⟨p, 0, none⟩ = false := (World.frozen?_of_block (a := ⟨p, 0, none⟩) hb).trans hf; clear hg' hown7 hb)))
    go_ret
    exact ⟨by simp [HX.out], T, by unfold leaveL; rw [if_pos HX.out, HP.out, Int.toNat_natCast]; exact hfin.out.1, hfin.out.2⟩
  · have HX : Hid (¬ x ∈ l) := hx
    have HP : Hid (plc l x = -1) := plc_neg hx
    clear hx
    go_enter Tryz.func62, Tryz.ntmps62
    go_wp2_with (go_at_call 89; refine (index_any a c _ l x _ hi (by omega) rfl).mono ?_; rintro e w9 ⟨rfl, hw9⟩; have hw8 := hw9.symm; clear hw9; subst hw8; rw [HP.out])
    go_ret
    exact ⟨by simp [HX.out], T, by unfold leaveL; rw [if_neg HX.out]; exact HH.out, Goes.refl _ _ _⟩

set_option maxHeartbeats 1600000 in
/-- ALL: new memory. -/
theorem all_any (t : Nat) (T : Nat → Nat) (w : World) (p : Nat) (l : List Int) (h : LineAt t T w p l) (hlen : l.length ≤ 100000000000) :
    Calls Tryz.prog 31 #[.pointer (some ⟨p, 0, none⟩)] w fun e w' => ∃ a' c', e = .returned (.slice a' l.length c') ∧ w'.ownsRow w.heap.size 3 1 (.slice a' l.length c') l.length (cellsI l) ∧ Below w.heap.size w w' := by
  obtain ⟨i0, hi0, hz0, hz1, hz2⟩ := info_parts infoI
  obtain ⟨a, c, hc, ho, hi, _, hn⟩ := h.form
  clear h ho
  go_enter Tryz.func31, Tryz.ntmps31
  go_wp2_with (at_builtin; go_loud (refine wpList_appL _ (by rfl) (.const (.slice none 0 0)) (.tmp 6) 33 (by rfl) i0 Tryz.underlying33 hi0 hz0 hz1 hz2 0 (fun _ => 1) (.slice none 0 0) [] (by rfl) (OwnL.nil _ _ _) a l.length c l (by rfl) (by rfl) hn hi (by simp; omega) ?_; intro a7 c7 T7 w7 hown7 hgo7 hat7; have hfin : Hid (OwnL 0 T7 w7 (.slice a7 (0 + l.length) c7) l ∧ Goes (· = 0) (fun _ => 1) w T7 w7 ∧ ((Value.slice a7 (0 + l.length) c7).ownBlock = none ∨ (Value.slice a7 (0 + l.length) c7).ownBlock = some w.heap.size)) := ⟨hown7, hgo7, hat7⟩; clear hown7 hgo7 hat7))
  go_ret
  have e0 : 0 + l.length = l.length := Nat.zero_add _
  obtain ⟨h1, h2, h3⟩ := hfin.out
  rw [e0] at h1 h3
  refine ⟨a7, c7, by simp, ⟨h1.1.1, ?_⟩, h2.os, h2.tape, h2.output, h2.size, fun b hb => h2.block b hb (by simp)⟩
  rcases h1.1.2 with h4 | ⟨g, cap, cur, hv, _, hr⟩
  · exact .inl h4
  · refine .inr ⟨g, cap, cur, hv, ?_, hr⟩
    rw [hv] at h3
    simp [Value.ownBlock] at h3
    omega

end Lin
end Go.Proofs.YtebfokjgeknciabGreatDoor
