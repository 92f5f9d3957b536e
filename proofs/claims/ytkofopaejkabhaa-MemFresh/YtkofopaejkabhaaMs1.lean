import Derived.Test.YtkofopaejkabhaaMm4
import Derived.Test.YtkofopaejkabhaaMo1
namespace Go.Proofs.Ytkofopaejkabhaa
namespace Mem
open Go.RowKit Laws Irw Erw KMath Skm Byt Sk Grp
set_option linter.unusedVariables false
set_option maxRecDepth 100000
set_option linter.unusedSimpArgs false

/-- what is not looked for may come -/
theorem adds_filter {q : En → Bool} {ds : List Nat} {ns ns' : List Nd} {es : List En} (h : Adds ds ns es ns') (hq : ∀ e ∈ es, q e = false) : (ns'.map Nd.e).filter q = (ns.map Nd.e).filter q := by
  induction h with
  | nil => rfl
  | @snoc es ns1 ns2 e ok h1 h2 ih =>
    have ih := ih fun x hx => hq x (by simp [hx])
    rcases h2 with ⟨_, rfl, _⟩ | ⟨_, _, pre, post, b, rfl, rfl⟩
    · exact ih
    · rw [← ih, List.map_append, List.map_cons, List.filter_append, List.filter_cons, if_neg (by rw [hq e (by simp)]; exact Bool.false_ne_true), List.map_append, List.filter_append]
theorem gk_same {k : ByteArray} {s : Int} {ds : List Nat} {ns ns' : List Nd} {es : List En} (h : Adds ds ns es ns') (hs : ∀ e ∈ es, s < e.2.1) : gk k s (ns'.map Nd.e) = gk k s (ns.map Nd.e) := by
  unfold gk
  rw [adds_filter h fun e he => by
    have := hs e he
    simp
    intro _
    omega]
theorem stt_filter (s : Int) (l : List En) : stt s l = stt s (l.filter fun e => decide (e.2.1 ≤ s)) := by
  have : ∀ st : ByteArray × List En, l.foldl (stp s) st = (l.filter fun e => decide (e.2.1 ≤ s)).foldl (stp s) st := by
    induction l with
    | nil => intro st; rfl
    | cons e r ih =>
      intro st
      rw [List.filter_cons]
      by_cases h : e.2.1 ≤ s
      · rw [if_pos (decide_eq_true h), List.foldl_cons, List.foldl_cons]
        exact ih _
      · rw [if_neg (by simpa using h), List.foldl_cons]
        have e2 : stp s st e = st := by
          unfold stp
          rw [if_pos (.inl (by omega))]
        rw [e2]
        exact ih _
  exact this _
theorem frm_vis (k : ByteArray) (s : Int) (es : List En) : frm k s es = frm k s (es.filter fun e => decide (e.2.1 ≤ s)) := by
  unfold frm
  rw [stt_filter]
  congr 2
  rw [List.filter_filter, List.filter_filter]
  congr 1
  funext e
  exact Bool.and_comm _ _
theorem frm_same {k : ByteArray} {s : Int} {ds : List Nat} {ns ns' : List Nd} {es : List En} (h : Adds ds ns es ns') (hs : ∀ e ∈ es, s < e.2.1) : frm k s (ns'.map Nd.e) = frm k s (ns.map Nd.e) := by
  rw [frm_vis, adds_filter h (fun e he => by have := hs e he; simp; omega), ← frm_vis]
/-- the first of a key is the newest -/
theorem gk_top {k : ByteArray} {s : Int} {es : List En} (hs : es.Pairwise ltE) {y : En} (hy : y ∈ es) (h1 : y.1 = k) (h2 : y.2.1 ≤ s) : ∃ x, gk k s es = some x ∧ x ∈ es ∧ x.1 = k ∧ y.2.1 ≤ x.2.1 ∧ x.2.1 ≤ s := by
  have hm : y ∈ es.filter (fun e => decide (e.1 = k) && decide (e.2.1 ≤ s)) := by
    rw [List.mem_filter]
    exact ⟨hy, by simp [h1, h2]⟩
  have hp : (es.filter (fun e => decide (e.1 = k) && decide (e.2.1 ≤ s))).Pairwise ltE := hs.filter _
  unfold gk
  cases hF : es.filter (fun e => decide (e.1 = k) && decide (e.2.1 ≤ s)) with
  | nil => rw [hF] at hm; cases hm
  | cons x r =>
    have hx : x ∈ es.filter (fun e => decide (e.1 = k) && decide (e.2.1 ≤ s)) := by rw [hF]; simp
    rw [List.mem_filter] at hx
    simp only [Bool.and_eq_true, decide_eq_true_eq] at hx
    refine ⟨x, rfl, hx.1, hx.2.1, ?_, hx.2.2⟩
    rw [hF] at hm hp
    rcases List.mem_cons.1 hm with rfl | hm
    · exact Int.le_refl _
    · have := (List.pairwise_cons.1 hp).1 y hm
      unfold ltE at this
      rw [cmpE_lt_iff, hx.2.1, h1] at this
      rcases this with h | h
      · rw [bl_irrefl] at h; cases h
      · omega
/-- one batch more -/
theorem ents_seq {f : Nat} {ws : List Chk.Wr} (hf : f + ws.length ≤ 1000000) {e : En} (he : e ∈ Ents.ents (f : Int) ws) : (f : Int) ≤ e.2.1 ∧ e.2.1 < ((f + ws.length : Nat) : Int) := by
  obtain ⟨i, hi, rfl⟩ := List.mem_iff_getElem.1 he
  rw [Ents.ents_length] at hi
  have hx := Ents.ents_get (first := (f : Int)) (List.getElem?_eq_getElem hi)
  rw [List.getElem?_eq_getElem (by rw [Ents.ents_length]; exact hi)] at hx
  rw [Option.some.inj hx]
  dsimp only
  rw [seqAt_small (by omega)]
  omega
theorem ents_apart {f : Nat} {ws : List Chk.Wr} (hf : f + ws.length ≤ 1000000) : (Ents.ents (f : Int) ws).Pairwise (fun a b => cmpE a.1 b.1 a.2.1 b.2.1 ≠ 0) := by
  rw [List.pairwise_iff_getElem]
  intro i j hi hj hij
  rw [Ents.ents_length] at hi hj
  have h1 := Ents.ents_get (first := (f : Int)) (List.getElem?_eq_getElem hi)
  have h2 := Ents.ents_get (first := (f : Int)) (List.getElem?_eq_getElem hj)
  rw [List.getElem?_eq_getElem (by rw [Ents.ents_length]; exact hi)] at h1
  rw [List.getElem?_eq_getElem (by rw [Ents.ents_length]; exact hj)] at h2
  rw [Option.some.inj h1, Option.some.inj h2]
  dsimp only
  rw [seqAt_small (by omega), seqAt_small (by omega)]
  intro h0
  have := ((cmpE_zero_iff _ _ _ _).1 h0).2
  omega
theorem fwd_mem_seq {f : Nat} {gs : List (List Chk.Wr)} (hb : Bs gs) (hf : f ≤ 1000) {e : En} (he : e ∈ fwd f gs gs.length) : (f : Int) ≤ e.2.1 ∧ e.2.1 < ((f + off gs gs.length : Nat) : Int) := by
  have h1 : e.2.1 ∈ (fwd f gs gs.length).map (fun e => e.2.1) := List.mem_map.2 ⟨e, he, rfl⟩
  rw [fwd_seq hb hf _ (Nat.le_refl _)] at h1
  obtain ⟨j, hj, e2⟩ := List.mem_map.1 h1
  have := List.mem_range.1 hj
  omega
/-- what the batch behind all others brings is there -/
theorem more_mem {gs : List (List Chk.Wr)} (hb : Bs gs) {f : Nat} (hf : f ≤ 1000) {ds : List Nat} {ns ns' : List Nd} {ws : List Chk.Wr} (hw : ws.length ≤ 1000) (h1 : (ns.map Nd.e).Perm (fwd f gs gs.length)) (hs : ns.Pairwise (fun a b => ltE a.e b.e)) (h2 : Adds ds ns (Ents.ents ((f + off gs gs.length : Nat) : Int) ws) ns') : ∀ e ∈ Ents.ents ((f + off gs gs.length : Nat) : Int) ws, e ∈ ns'.map Nd.e := by
  have ho := off_le hb.l16 gs.length (Nat.le_refl _)
  have hl := hb.len
  have hp := h2.perm (by
    rw [List.pairwise_append]
    refine ⟨List.pairwise_map.2 (hs.imp fun h => ltE_ne h), ents_apart (by omega), fun a ha b hb' => ?_⟩
    have q1 := fwd_mem_seq hb hf (h1.mem_iff.1 ha)
    have q2 := ents_seq (by omega) hb'
    intro h0
    have := ((cmpE_zero_iff _ _ _ _).1 h0).2
    omega)
  intro e he
  exact hp.mem_iff.2 (List.mem_append_right _ he)
end Mem
end Go.Proofs.Ytkofopaejkabhaa
