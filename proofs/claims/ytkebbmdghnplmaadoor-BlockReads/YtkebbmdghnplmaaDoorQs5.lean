import Derived.Test.YtkebbmdghnplmaaDoorQc3
import Derived.Test.YtkebbmdghnplmaaDoorQb1
namespace Go.Proofs.YtkebbmdghnplmaaDoor
namespace Qb
open Go.RowKit CMath Byt Laws Irw Crw Cod
set_option linter.unusedVariables false
set_option linter.unusedSimpArgs false

/-- The place of a block's restarts, by its own number of them. -/
def nOf (b : List Nat) : Nat := val ((b.drop (b.length - 8)).take 4)
def pOf (b : List Nat) : Nat := b.length - 8 - 4 * nOf b
def eOf (b : List Nat) : List Nat := b.take (pOf b)
def vOf (b : List Nat) : Nat := val ((b.drop (pOf b + 4)).take 4)
theorem opn_un {b : List Nat} (h8 : 8 ≤ b.length) (h4 : 4 * nOf b ≤ b.length - 8) : opn b = opn.opn3 b (eOf b) (rst (eOf b) ((b.drop (pOf b)).take (b.length - 8 - pOf b))) := by
  unfold opn
  rw [if_neg (by omega), if_neg (by show ¬ b.length - 8 < 4 * nOf b; omega)]
  rfl
theorem opn_short {b : List Nat} (h : b.length < 8) : opn b = none := by unfold opn; rw [if_pos h]
theorem opn_many {b : List Nat} (h8 : 8 ≤ b.length) (h4 : b.length - 8 < 4 * nOf b) : opn b = none := by
  unfold opn
  rw [if_neg (by omega), if_pos (by show b.length - 8 < 4 * nOf b; exact h4)]
/-- What a block says of itself. -/
theorem blk_parts {b : List Nat} {S : St} (hp4 : 4 * (S.p.length / 4) = S.p.length) (hS : blk S = b) (hl : b.length < 4294967296) : nOf b = S.p.length / 4 ∧ pOf b = S.b.length ∧ eOf b = S.b ∧ (b.drop (pOf b)).take (b.length - 8 - pOf b) = S.p := by
  subst hS
  have hL := blk_len S
  have hT := blk_tail S
  have e0 : (blk S).length - 8 = S.b.length + S.p.length := by omega
  have e1 : nOf (blk S) = S.p.length / 4 := by
    unfold nOf
    rw [e0, hT]
    have : (four (S.p.length / 4) ++ four (crc (blk0 S))).take 4 = four (S.p.length / 4) := List.take_left (l₁ := four _)
    rw [this]
    exact four_val (by omega)
  have e2 : blk S = S.b ++ (S.p ++ (four (S.p.length / 4) ++ four (crc (blk0 S)))) := by simp [blk, blk0]
  have e5 : pOf (blk S) = S.b.length := by unfold pOf; rw [e1]; omega
  refine ⟨e1, e5, ?_, ?_⟩
  · unfold eOf; rw [e5, e2]; exact List.take_left
  · rw [e5, show (blk S).length - 8 - S.b.length = S.p.length by omega, e2, List.drop_left, List.take_left]
theorem opn_some {b : List Nat} {R : Nat} {l : List En} (hl : b.length < 4294967296) (h : opn b = some (R, l)) :
    1 ≤ R ∧ chain ⟨#[]⟩ l ∧ blk (pushes R st0 l) = b ∧ nOf b = (pushes R st0 l).p.length / 4 ∧ pOf b = (pushes R st0 l).b.length ∧ eOf b = (pushes R st0 l).b ∧ wk (eOf b) [] = szs R 0 [] l ∧ sumS (wk (eOf b) []) = pOf b ∧ (∀ e ∈ l, Ok e ∧ 0 ≤ e.2.1) := by
  obtain ⟨h1, h2, h3, eb, h4⟩ := opn_is h
  obtain ⟨q1, q2, q3, q4⟩ := blk_parts (pushes_len4 R l) h3 hl
  have hok : ∀ e ∈ l, Ok e ∧ 0 ≤ e.2.1 := fun e he => ⟨chain_ok h2 e he, by
    rw [h4] at he
    obtain ⟨x, hx, rfl⟩ := List.mem_map.1 he
    exact wk_nonneg _ _ _ (Nat.le_refl _) x hx⟩
  have hw : wk (eOf b) [] = szs R 0 [] l := by
    rw [q3, pushes_b]
    show wk ([] ++ tl R 0 [] l) [] = _
    rw [List.nil_append, wk_tl R _ hok 0 [] [] (.inl rfl)]
  refine ⟨h1, h2, h3, q1, q2, q3, hw, ?_, hok⟩
  rw [hw, szs_sum, q2, pushes_b]
  show (tl R 0 [] l).length = ([] ++ tl R 0 [] l).length
  rw [List.nil_append]

/-- The number of the entry at the second restart point, as the document counts it. -/
def Sec (v : Nat) (z : List (En × Nat)) (s : Nat) : Prop :=
  (∃ pre suf, z = pre ++ suf ∧ suf ≠ [] ∧ pre ≠ [] ∧ sumS pre = v ∧ s = pre.length) ∨ (s = 0 ∧ ∀ pre suf, z = pre ++ suf → suf ≠ [] → pre ≠ [] → sumS pre ≠ v)
theorem Sec.nil (v : Nat) : Sec v [] 0 := .inr ⟨rfl, fun pre suf h hs => by
  have := congrArg List.length h
  simp at this
  exact absurd (List.eq_nil_of_length_eq_zero (by omega)) hs⟩
theorem Sec.hit {v : Nat} {z : List (En × Nat)} (x : En × Nat) (hz : z ≠ []) (hv : sumS z = v) : Sec v (z ++ [x]) z.length := .inl ⟨z, [x], rfl, by simp, hz, hv, rfl⟩
theorem Sec.on {v s : Nat} {z : List (En × Nat)} (h : Sec v z s) (x : En × Nat) (hn : ¬ (z ≠ [] ∧ sumS z = v)) : Sec v (z ++ [x]) s := by
  rcases h with ⟨pre, suf, h1, h2, h3, h4, h5⟩ | ⟨h1, h2⟩
  · exact .inl ⟨pre, suf ++ [x], by rw [h1, List.append_assoc], by simp, h3, h4, h5⟩
  · refine .inr ⟨h1, fun pre suf he hs hp hv => ?_⟩
    rcases List.eq_nil_or_concat suf with rfl | ⟨suf', y, rfl⟩
    · exact hs rfl
    · rw [List.concat_eq_append, ← List.append_assoc] at he
      have h9 := List.append_inj' he rfl
      by_cases hsf : suf' = []
      · subst hsf
        rw [List.append_nil] at h9
        rw [h9.1] at hn
        exact hn ⟨hp, hv⟩
      · exact h2 pre suf' h9.1 hsf hp hv
theorem sumS_app (a b : List (En × Nat)) : sumS (a ++ b) = sumS a + sumS b := by
  induction a with
  | nil => simp [sumS]
  | cons x t ih => rw [List.cons_append, sumS_cons, sumS_cons, ih]; omega
theorem sumS_one (x : En × Nat) : sumS [x] = x.2 := by simp [sumS]
/-- The document's restart. -/
def rDoc (b : List Nat) (s k : Nat) : Nat := if 2 ≤ nOf b then s else k
theorem pushes_big {r r' : Nat} {l : List En} (h : l.length ≤ r) (h' : l.length ≤ r') : pushes r st0 l = pushes r' st0 l := by
  refine pushes_eq _ _ l st0 fun i hi => ?_
  show (0 + i) % _ = 0 ↔ (0 + i) % r' = 0
  rw [Nat.zero_add, mod_zero_small (by omega), mod_zero_small (by omega)]
theorem second_at {R : Nat} {l : List En} (hR : 1 ≤ R) (hb : (pushes R st0 l).b.length < 4294967296) (h2 : 2 ≤ (pushes R st0 l).p.length / 4) : ∃ pre suf, szs R 0 [] l = pre ++ suf ∧ suf ≠ [] ∧ pre ≠ [] ∧ sumS pre = val (((pushes R st0 l).p.drop 4).take 4) := by
  by_cases hlr : l.length ≤ R
  · by_cases hne : l = []
    · subst hne; rw [p_nil] at h2; simp at h2
    · rw [p_first R l hR hlr hne] at h2; simp [four_len] at h2
  · obtain ⟨l1, e, l2, rfl, h1⟩ : ∃ l1 e l2, l = l1 ++ e :: l2 ∧ l1.length = R := by
      refine ⟨l.take R, l[R]'(by omega), l.drop (R + 1), ?_, by rw [List.length_take]; omega⟩
      rw [← List.drop_eq_getElem_cons, List.take_append_drop]
    obtain ⟨m, hm⟩ := p_second R l1 e l2 hR h1
    have hb1 : (pushes R st0 l1).b.length < 4294967296 := by
      rw [pushes_app, pushes_b] at hb
      simp at hb; omega
    have hv : val (((pushes R st0 (l1 ++ e :: l2)).p.drop 4).take 4) = (pushes R st0 l1).b.length := by
      rw [hm]
      have e1 : (four 0 ++ (four (pushes R st0 l1).b.length ++ m)).drop 4 = four (pushes R st0 l1).b.length ++ m := List.drop_left (l₁ := four 0)
      have e2 : (four (pushes R st0 l1).b.length ++ m).take 4 = four (pushes R st0 l1).b.length := List.take_left (l₁ := four _)
      rw [e1, e2]
      exact four_val hb1
    obtain ⟨last', hs⟩ := szs_app R l1 (e :: l2) 0 []
    refine ⟨_, _, hs, by simp [szs], ?_, ?_⟩
    · intro h0
      have := congrArg List.length h0
      rw [szs_length] at this
      simp at this
      subst this
      simp at h1
      omega
    · rw [hv, szs_sum, pushes_b]
      show _ = ([] ++ tl R 0 [] l1).length
      simp
theorem vOf_p {b : List Nat} (h2 : 2 ≤ nOf b) (h4 : 4 * nOf b ≤ b.length - 8) : val ((((b.drop (pOf b)).take (b.length - 8 - pOf b)).drop 4).take 4) = vOf b := by
  unfold vOf
  congr 1
  rw [List.drop_take, List.drop_drop, List.take_take]
  congr 1
  unfold pOf
  omega
/-- The document's answer of bytes that were read to their end. -/
theorem doc_end {b : List Nat} {z : List (En × Nat)} {s : Nat} (h8 : 8 ≤ b.length) (hl : b.length < 4294967296) (h4 : 4 * nOf b ≤ b.length - 8) (hz : wk (eOf b) [] = z) (hc : chain ⟨#[]⟩ (z.map Prod.fst)) (hp : ∀ x ∈ z, 0 < x.2) (hs : 2 ≤ nOf b → Sec (vOf b) z s) (hzl : z.length ≤ 1000000) :
    (z ≠ [] → rDoc b s z.length < 1 → opn b = none) ∧ ((z = [] ∨ 1 ≤ rDoc b s z.length) → (opn b).map Prod.snd = open Classical in if blk (pushes (max (rDoc b s z.length) 1) st0 (z.map Prod.fst)) = b then some (z.map Prod.fst) else none) := by
  have hpb : ((b.drop (pOf b)).take (b.length - 8 - pOf b)).length / 4 = nOf b := by
    simp only [List.length_take, List.length_drop]
    unfold pOf
    omega
  have hO := opn_un h8 h4
  have key : ∀ R, 1 ≤ R → pushes (max (rst (eOf b) ((b.drop (pOf b)).take (b.length - 8 - pOf b))) 1) st0 (z.map Prod.fst) = pushes R st0 (z.map Prod.fst) → (opn b).map Prod.snd = open Classical in if blk (pushes R st0 (z.map Prod.fst)) = b then some (z.map Prod.fst) else none := fun R hR he => by
    rw [hO]
    unfold opn.opn3
    rw [hz, he]
    by_cases hb : blk (pushes R st0 (z.map Prod.fst)) = b
    · rw [if_pos ⟨hc, hb⟩, if_pos hb]; rfl
    · rw [if_neg (fun h => hb h.2), if_neg hb]; rfl
  by_cases h2 : 2 ≤ nOf b
  · have hr : rst (eOf b) ((b.drop (pOf b)).take (b.length - 8 - pOf b)) = cnt z 0 (vOf b) := by
      unfold rst
      rw [if_neg (by rw [hpb]; omega), hz, vOf_p h2 h4]
    have hd : rDoc b s z.length = s := by unfold rDoc; rw [if_pos h2]
    rw [hd]
    rcases hs h2 with ⟨pre, suf, g1, g2, g3, g4, g5⟩ | ⟨g1, g2⟩
    · have hpre : 0 < pre.length := List.length_pos_iff.2 g3
      have hct : cnt z 0 (vOf b) = s := by
        rw [g1, cnt_at pre suf (fun x hx => hp x (by rw [g1]; exact List.mem_append_left _ hx)) g2 0 _ (by omega), g5]
      refine ⟨fun _ h => by omega, fun _ => ?_⟩
      exact key _ (by omega) (by rw [hr, hct])
    · subst g1
      refine ⟨fun hz0 _ => ?_, fun hz0 => ?_⟩
      · cases ho : opn b with
        | none => rfl
        | some y =>
          exfalso
          obtain ⟨R, l⟩ := y
          obtain ⟨k1, k2, k3, k4, k5, k6, k7, k8, k9⟩ := opn_some hl ho
          obtain ⟨q1, q2, q3, q4⟩ := blk_parts (pushes_len4 R l) k3 hl
          have hbl : (pushes R st0 l).b.length < 4294967296 := by rw [← q2]; unfold pOf; omega
          obtain ⟨pre, suf, e1, e2, e3, e4⟩ := second_at k1 hbl (by rw [← q1]; exact h2)
          refine g2 pre suf (by rw [← hz, k7, e1]) e2 e3 ?_
          rw [e4, ← q4, vOf_p h2 h4]
      · rcases hz0 with rfl | h
        · exact key _ (by omega) rfl
        · omega
  · have hr : rst (eOf b) ((b.drop (pOf b)).take (b.length - 8 - pOf b)) = 9223372036854775807 := by
      unfold rst
      rw [if_pos (by rw [hpb]; omega)]
    have hd : rDoc b s z.length = z.length := by unfold rDoc; rw [if_neg h2]
    rw [hd]
    refine ⟨fun h0 h1 => absurd (List.eq_nil_of_length_eq_zero (by omega)) h0, fun _ => ?_⟩
    refine key _ (by omega) ?_
    rw [hr]
    exact pushes_big (by simp; omega) (by simp; omega)
/-- Bytes whose reading stops. -/
theorem doc_stop {b : List Nat} {z : List (En × Nat)} {ah : List Nat} (hl : b.length < 4294967296) (hz : wk (eOf b) [] = z ++ wk ((eOf b).drop (sumS z)) ah) (hq : sumS z < pOf b) (hn : rdE ((eOf b).drop (sumS z)) ah = none) : opn b = none := by
  rw [wk_none hn, List.append_nil] at hz
  cases ho : opn b with
  | none => rfl
  | some y =>
    obtain ⟨R, l⟩ := y
    have := (opn_some hl ho).2.2.2.2.2.2.2.1
    rw [hz] at this
    omega
theorem doc_bad {b : List Nat} {z : List (En × Nat)} {ah : List Nat} {x : En × Nat} (hl : b.length < 4294967296) (hz : wk (eOf b) [] = z ++ x :: wk ((eOf b).drop (sumS z + x.2)) ah) (hn : adds (lastE ⟨#[]⟩ (z.map Prod.fst)) x.1 ≠ 0) : opn b = none := by
  cases ho : opn b with
  | none => rfl
  | some y =>
    exfalso
    obtain ⟨R, l⟩ := y
    obtain ⟨_, k2, _, _, _, _, k7, _⟩ := opn_some hl ho
    have hl2 : l = (wk (eOf b) []).map Prod.fst := by rw [k7, szs_map]
    refine no_chain (l := z.map Prod.fst) (m := l) (e := x.1) ?_ hn k2
    rw [hl2, hz, List.map_append, List.map_cons]
    exact ⟨_, by rw [List.append_assoc]; rfl⟩
end Qb
end Go.Proofs.YtkebbmdghnplmaaDoor
