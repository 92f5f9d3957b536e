import Derived.Test.YtjbnnhephagdmaaDoorMbA
import Derived.Test.YtjbnnhephagdmaaDoorMp7
import Derived.Test.YtjbnnhephagdmaaDoorMk3
namespace Go.Proofs.YtjbnnhephagdmaaDoor
namespace Mnf
open Go.RowKit CMath Byt Cod Crw Irw Laws
set_option linter.unusedVariables false
set_option linter.unusedSimpArgs false
set_option maxRecDepth 20000
/-! numbers -/
theorem wholes_le : ∀ (es : List Ed) (n : Nat), wholes es n ≤ es.length := by
  intro es
  induction es with
  | nil => intro n; simp [wholes]
  | cons e es ih =>
    intro n
    unfold wholes
    split
    · have := ih (n - (puts e).length); simp; omega
    · simp
theorem wholes_iff : ∀ (es : List Ed) (n x : Nat), x < es.length → (((es.take (x + 1)).flatMap puts).length ≤ n ↔ x < wholes es n) := by
  intro es
  induction es with
  | nil => intro n x hx; simp at hx
  | cons e es ih =>
    intro n x hx
    unfold wholes
    rw [List.take_succ_cons, List.flatMap_cons, List.length_append]
    cases x with
    | zero =>
      simp only [List.take_zero, List.flatMap_nil, List.length_nil, Nat.add_zero]
      split <;> omega
    | succ x =>
      have h := ih (n - (puts e).length) x (by simpa using hx)
      split
      · omega
      · omega
theorem puts_le (e : Ed) : (puts e).length ≤ bulkT (rE e) + bulkT e + tabs e + 1 := by
  rw [puts_len (tabs e) e (Nat.le_refl _)]
  omega
theorem tabs_right (e : Ed) : tabs (rE e) = tabs e := by unfold tabs rE; simp
theorem puts_most (e : Ed) : (puts (rE e)).length ≤ bulkT e := by
  rw [puts_len (tabs (rE e)) _ (Nat.le_refl _), tabs_right]
  unfold bulkT tabs
  omega
theorem flat_most : ∀ (es : List Ed), ((es.map rE).flatMap puts).length ≤ (es.map bulkT).sum := by
  intro es
  induction es with
  | nil => simp
  | cons e es ih =>
    simp only [List.map_cons, List.flatMap_cons, List.length_append, List.sum_cons]
    have := puts_most e
    omega
theorem len_most : ∀ (es : List Ed), es.length ≤ (es.map bulkT).sum := by
  intro es
  induction es with
  | nil => simp
  | cons e es ih =>
    simp only [List.map_cons, List.length_cons, List.sum_cons]
    unfold bulkT
    unfold bulkT at ih
    omega
theorem bulk_in {es : List Ed} {e : Ed} (h : e ∈ es) : bulkT e ≤ (es.map bulkT).sum := by
  induction es with
  | nil => simp at h
  | cons x es ih =>
    simp only [List.map_cons, List.sum_cons]
    rcases List.mem_cons.1 h with rfl | h
    · omega
    · have := ih h; omega
theorem gets_whole (es : List Ed) (h : ∀ e ∈ es, okE e) : gets (es.flatMap puts) noE = some es := by
  have := gets_all es [] h
  rw [List.append_nil] at this
  rw [this]
  simp [gets]
/-- behind how many records each edit is there -/
def endsL (es : List Ed) (k : Nat) : List Int := (List.range k).map fun i => (((es.take (i + 1)).flatMap puts).length : Int)
theorem endsL_succ (es : List Ed) (k : Nat) : endsL es (k + 1) = endsL es k ++ [(((es.take (k + 1)).flatMap puts).length : Int)] := by unfold endsL; rw [List.range_succ, List.map_append]; rfl
theorem endsL_len (es : List Ed) (k : Nat) : (endsL es k).length = k := by simp [endsL]
theorem endsL_get (es : List Ed) {k x : Nat} (h : x < k) : (endsL es k).getD x 0 = (((es.take (x + 1)).flatMap puts).length : Int) := by simp [endsL, h]
/-! records gathered -/
structure Bk (w3 : World) (T : Nat → Nat) (wr : World) (rs : List (List Nat)) (vs : List Sv) (en : List Int) (s5 s6 : Value) : Prop where
  old : Old w3 T wr
  own : OwnK kD 1 T wr s5 vs
  len : vs.length = rs.length
  ds : ∀ (j : Nat) v l, vs[j]? = some v → rs[j]? = some l → DsT T wr v l
  en : OwnL 2 T wr s6 en
theorem Bk.below {w3 wr w' : World} {T : Nat → Nat} {rs : List (List Nat)} {vs : List Sv} {en : List Int} {s5 s6 : Value} (h : Bk w3 T wr rs vs en s5 s6) (hb : Below wr.heap.size wr w') : Bk w3 T w' rs vs en s5 s6 := by
  have hg := Goes.below (t := fun _ => False) (T := T) hb
  exact ⟨h.old.goes hg (fun z => z), h.own.below hb, h.len, fun j v l hv hl => (h.ds j v l hv hl).goes hg (fun z => z), h.en.below hb⟩
theorem Bk.recs {w3 W w' : World} {T T' : Nat → Nat} {rs rs2 : List (List Nat)} {vs vs2 : List Sv} {en : List Int} {s5 s5' s6 : Value} (h : Bk w3 T W rs vs en s5 s6) (hg : Goes (· = 1) T W T' w') (hown : OwnK kD 1 T' w' s5' (vs ++ vs2)) (hl2 : vs2.length = rs2.length) (hd2 : ∀ (j : Nat) v l, vs2[j]? = some v → rs2[j]? = some l → DsT T W v l) : Bk w3 T' w' (rs ++ rs2) (vs ++ vs2) en s5' s6 := by
  refine ⟨h.old.goes hg (by decide), hown, by rw [List.length_append, List.length_append, h.len, hl2], fun j v l hv hl => ?_, h.en.goes hg (by decide)⟩
  refine DsT.goes ?_ hg (by decide)
  have hlen := h.len
  rcases Nat.lt_or_ge j rs.length with hj | hj
  · rw [List.getElem?_append_left (by omega)] at hv hl
    exact h.ds j v l hv hl
  · rw [List.getElem?_append_right (by omega)] at hv hl
    rw [hlen] at hv
    exact hd2 _ v l hv hl
theorem Bk.ends {w3 W w' : World} {T T' : Nat → Nat} {rs : List (List Nat)} {vs : List Sv} {en en' : List Int} {s5 s6 s6' : Value} (h : Bk w3 T W rs vs en s5 s6) (hg : Goes (· = 2) T W T' w') (hown : OwnL 2 T' w' s6' en') : Bk w3 T' w' rs vs en' s5 s6' :=
  ⟨h.old.goes hg (by decide), h.own.goes hg (by decide), h.len, fun j v l hv hl => (h.ds j v l hv hl).goes hg (by decide), hown⟩
theorem Bk.isD {w3 W : World} {T : Nat → Nat} {rs : List (List Nat)} {vs : List Sv} {en : List Int} {a : Option Addr} {n c : Nat} {s6 : Value} (h : Bk w3 T W rs vs en (.slice a n c) s6) : IsD W a rs ∧ n = rs.length := by
  have h1 : OwnK kD 1 T W (svV (a, n, c)) vs := h.own
  obtain ⟨k1, k2, _⟩ := OwnK.sk h1
  exact ⟨⟨vs, h.len, k2, fun j v l hv hl => by obtain ⟨q1, q2, q3, q4, q5, _⟩ := h.ds j v l hv hl; exact ⟨q1, q2, q3, q4, q5⟩⟩, k1.trans h.len⟩
theorem IsD.take {w : World} {a : Option Addr} {rs : List (List Nat)} (h : IsD w a rs) (m : Nat) : IsD w a (rs.take m) := by
  obtain ⟨vs, h1, h2, h3⟩ := h
  refine ⟨vs.take m, by rw [List.length_take, List.length_take, h1], fun hne => ?_, fun j v l hv hl => ?_⟩
  · obtain ⟨b, off, e, r1, r2⟩ := h2 (by intro e; rw [e] at hne; simp at hne)
    refine ⟨b, off, e, r1, fun i x hx => r2 i x ?_⟩
    rw [List.getElem?_take] at hx
    split at hx
    · exact hx
    · cases hx
  · rw [List.getElem?_take] at hv hl
    split at hv
    · rename_i hj
      rw [if_pos hj] at hl
      exact h3 j v l hv hl
    · cases hv
theorem EdsAt.take {w : World} {a : Option Addr} {n c : Nat} {es : List Ed} (h : EdsAt w (a, n, c) es) {m : Nat} (hm : m ≤ es.length) : EdsAt w (a, m, c) (es.take m) := by
  obtain ⟨vs, h1, h2, h3, h4, h5, h6⟩ := h
  refine ⟨vs.take m, by rw [List.length_take, List.length_take, h1], by rw [List.length_take]; show m = _; omega, h3, by rw [List.length_take]; show _ ≤ c; have : es.length ≤ c := h4; omega, fun hne => ?_, fun j v l hv hl => ?_⟩
  · obtain ⟨b, off, e, r1, r2⟩ := h5 (by intro e; rw [e] at hne; simp at hne)
    refine ⟨b, off, e, r1, fun i x hx => r2 i x ?_⟩
    rw [List.getElem?_take] at hx
    split at hx
    · exact hx
    · cases hx
  · rw [List.getElem?_take] at hv hl
    split at hv
    · rename_i hj
      rw [if_pos hj] at hl
      exact h6 j v l hv hl
    · cases hv
theorem own_addr {α : Type} {K : Knd α} {t : Nat} {T : Nat → Nat} {w : World} {a : Option Addr} {n c : Nat} {l : List α} (h : OwnK K t T w (.slice a n c) l) : (a = none ∧ n = 0 ∧ c = 0) ∨ ∃ g, a = some ⟨g, 0, none⟩ := by
  rcases h.1.2 with ⟨h1, h2⟩ | ⟨g, cap, cur, hv2, _⟩
  · cases h1
    exact .inl ⟨rfl, rfl, rfl⟩
  · cases hv2
    exact .inr ⟨g, rfl⟩
end Mnf
end Go.Proofs.YtjbnnhephagdmaaDoor
