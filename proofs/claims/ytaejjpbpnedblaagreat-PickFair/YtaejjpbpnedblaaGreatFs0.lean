import Derived.Test.YtaejjpbpnedblaaGreatFpm
import Derived.Test.YtaejjpbpnedblaaGreatFo
import Derived.OrdersHeld
import Derived.Deep.CutRange
import Derived.Deep.CutBlock
import Derived.Deep.DeepCutAuto
import Derived.Deep.RegionHeld3
import Derived.BigQuiet
namespace Go.Proofs.YtaejjpbpnedblaaGreat
namespace Vr
open Go.Shelf Go.RowKit Go.Lib Go.Sort Go.Maps Go.ChangeMaps Go.MapKept Laws Irw Crw
set_option linter.unusedVariables false
set_option linter.unusedSimpArgs false
set_option maxRecDepth 20000
theorem tin_mem {l : List Tb} {t : Tb} (h : t ∈ l) : tin l t.no = true := by
  unfold tin
  exact decide_eq_true (List.mem_map.2 ⟨t, h, rfl⟩)
theorem over_ovT (h x : Tb) : over h.le h.gr x = ovT x h := rfl
theorem minS_self (x : ByteArray) : minS x x = x := by unfold minS; split <;> rfl
theorem maxS_self (x : ByteArray) : maxS x x = x := by unfold maxS; split <;> rfl
theorem hLe_one (t : Tb) : hLe [t] = t.le := minS_self t.le
theorem hGr_one (t : Tb) : hGr [t] = t.gr := maxS_self t.gr
/-- of a level from 1 on: where its tables overlap a table's hull, they stand in order, apart -/
theorem apart_filter {V : Lv} (hg : Good V) {i : Nat} (hi : i + 1 < V.length) (p : Tb → Bool) : Apart ((lev V ((i + 1 : Nat) : Int)).filter p) ∧ Rise ((lev V ((i + 1 : Nat) : Int)).filter p) := by
  have hA := hg.apart (i + 1) _ (by omega) (lev_some hi)
  have hH := hg.hull _ (List.mem_of_getElem? (lev_some hi))
  exact ⟨List.Pairwise.filter p hA, List.Pairwise.filter p (hA.rise hH)⟩
theorem pair_get {α : Type} {R : α → α → Prop} {l : List α} (h : l.Pairwise R) {i j : Nat} {x y : α} (hi : l[i]? = some x) (hj : l[j]? = some y) (hij : i < j) : R x y := by
  obtain ⟨h1, rfl⟩ := List.getElem?_eq_some_iff.1 hi
  obtain ⟨h2, rfl⟩ := List.getElem?_eq_some_iff.1 hj
  exact List.pairwise_iff_getElem.1 h i j h1 h2 hij
theorem jobL_fair {c : Cf} {V : Lv} {ps : List ByteArray} {f i : Nat} (hg : Good V) (hfit : Fits V) (hf : c 12 = f) (hc : Cr c V.length) (hi : i + 1 < V.length) (hpos : 0 < (lev V (i : Int)).length) : FairJ c V (jobL f V ps i) i := by
  have hf1 : 1 ≤ f := by have := hc.fa.1; omega
  have hlen := jobL_len (f := f) (ps := ps) (i := i) hfit
  by_cases h0 : i = 0
  · subst h0
    have e : jobL f V ps 0 = whl V (lev V ((0 : Nat) : Int)) := jobL_zero (lev_some (by omega))
    rw [e] at hlen ⊢
    refine ⟨rfl, hi, hpos, hlen, fun u hu => tin_mem hu, fun x hx => ?_, fun t ht ho => Or.inl ?_, fun _ => ⟨rfl, rfl, rfl⟩, fun h => absurd rfl h⟩
    · obtain ⟨h1, h2⟩ := List.mem_filter.1 hx
      exact ⟨tin_mem h1, h2⟩
    · exact tin_mem (List.mem_filter.2 ⟨ht, ho⟩)
  · obtain ⟨t, ht⟩ : ∃ t, (lev V (i : Int))[beh (lev V (i : Int)) (ptr ps i)]? = some t := ⟨_, List.getElem?_eq_getElem (beh_lt _ hpos)⟩
    have e : jobL f V ps i = inp f V.length V i t := by
      unfold jobL
      rw [if_neg h0, List.getD_eq_getElem?_getD, ht]
      rfl
    rw [e] at hlen ⊢
    obtain ⟨lo, hlo⟩ : ∃ lo, (lev V ((i : Int) + 1)).filter (over t.le t.gr) = lo := ⟨_, rfl⟩
    have hlv : lev V ((i + 1 : Nat) : Int) = lev V ((i : Int) + 1) := by rw [show ((i + 1 : Nat) : Int) = (i : Int) + 1 by omega]
    have hAR := apart_filter hg hi (over t.le t.gr)
    rw [hlv, hlo] at hAR
    have ej : inp f V.length V i t = ⟨(i : Int), [t], lo.take f, if f < lo.length then (lo.getD f noT).le else ⟨#[]⟩, (lo.take f).isEmpty && decide (i + 1 < V.length - 1)⟩ := by
      unfold inp dn
      rw [hlo]
    rw [ej] at hlen ⊢
    have hle : hulT ⟨(i : Int), [t], lo.take f, if f < lo.length then (lo.getD f noT).le else ⟨#[]⟩, (lo.take f).isEmpty && decide (i + 1 < V.length - 1)⟩ = t := by
      show ({ t with le := hLe [t], gr := hGr [t] } : Tb) = t
      rw [hLe_one, hGr_one]
    refine ⟨rfl, hi, Nat.lt_succ_self 0, hlen, fun u hu => ?_, fun x hx => ?_, fun x hx ho => ?_, fun h => absurd h h0, fun _ => ⟨?_, ?_, rfl, ?_⟩⟩
    · rw [List.mem_singleton.1 hu]
      exact tin_mem (List.mem_of_getElem? ht)
    · have := List.mem_of_mem_take hx
      rw [← hlo] at this
      obtain ⟨h1, h2⟩ := List.mem_filter.1 this
      rw [hle, hlv]
      exact ⟨tin_mem h1, h2⟩
    · rw [hle] at ho
      rw [hlv] at hx
      have hm : x ∈ lo := by rw [← hlo]; exact List.mem_filter.2 ⟨hx, ho⟩
      obtain ⟨k, hk⟩ := List.getElem?_of_mem hm
      by_cases hkf : k < f
      · left
        refine tin_mem (List.mem_of_getElem? (i := k) ?_)
        rw [List.getElem?_take, if_pos hkf]
        exact hk
      · right
        have hkl := (List.getElem?_eq_some_iff.1 hk).1
        have hfl : f < lo.length := by omega
        obtain ⟨y, hy⟩ : ∃ y, lo[f]? = some y := ⟨_, List.getElem?_eq_getElem hfl⟩
        obtain ⟨z, hz⟩ : ∃ z, lo[0]? = some z := ⟨_, List.getElem?_eq_getElem (by omega)⟩
        have hcut : (if f < lo.length then (lo.getD f noT).le else ⟨#[]⟩) = y.le := by
          rw [if_pos hfl, List.getD_eq_getElem?_getD, hy]
          rfl
        show (if f < lo.length then (lo.getD f noT).le else ⟨#[]⟩) ≠ ⟨#[]⟩ ∧ ltS x.le (if f < lo.length then (lo.getD f noT).le else ⟨#[]⟩) = false
        rw [hcut]
        refine ⟨fun e => ?_, ?_⟩
        · have := pair_get hAR.2 hz hy (by omega)
          rw [e, ltS_nilR] at this
          cases this
        · by_cases hkk : k = f
          · rw [hkk, hy] at hk
            injection hk with hk
            rw [← hk]
            exact ltS_irrefl _
          · exact ltS_asymm (pair_get hAR.2 hy hk (by omega))
    · show ((lo.take f).isEmpty && decide (i + 1 < V.length - 1)) = (decide ((lo.take f).length = 0) && decide (i + 2 < V.length))
      have e1 : (lo.take f).isEmpty = decide ((lo.take f).length = 0) := by
        cases lo.take f with
        | nil => rfl
        | cons a l => rfl
      have e2 : decide (i + 1 < V.length - 1) = decide (i + 2 < V.length) := by
        by_cases h : i + 2 < V.length
        · rw [decide_eq_true h, decide_eq_true (by omega)]
        · rw [decide_eq_false h, decide_eq_false (by omega)]
      rw [e1, e2]
    · rw [hle]
      by_cases hfl : f < lo.length
      · right
        obtain ⟨y, hy⟩ : ∃ y, lo[f]? = some y := ⟨_, List.getElem?_eq_getElem hfl⟩
        obtain ⟨z, hz⟩ : ∃ z, lo[0]? = some z := ⟨_, List.getElem?_eq_getElem (by omega)⟩
        have hcut : (if f < lo.length then (lo.getD f noT).le else ⟨#[]⟩) = y.le := by
          rw [if_pos hfl, List.getD_eq_getElem?_getD, hy]
          rfl
        show ltS t.le (if f < lo.length then (lo.getD f noT).le else ⟨#[]⟩) = true ∧ ltS t.gr (if f < lo.length then (lo.getD f noT).le else ⟨#[]⟩) = false ∧ ((lo.take f).length : Int) = c 12
        rw [hcut]
        have hmem : ∀ q, q ∈ lo → over t.le t.gr q = true := fun q hq => by
          rw [← hlo] at hq
          exact (List.mem_filter.1 hq).2
        have hoz := hmem z (List.mem_of_getElem? hz)
        have hoy := hmem y (List.mem_of_getElem? hy)
        unfold over at hoz hoy
        rw [Bool.and_eq_true, Bool.not_eq_true', Bool.not_eq_true'] at hoz hoy
        refine ⟨ltS_le hoz.1 (pair_get hAR.1 hz hy (by omega)), hoy.2, ?_⟩
        rw [List.length_take, hf]
        omega
      · left
        show (if f < lo.length then (lo.getD f noT).le else ⟨#[]⟩) = ⟨#[]⟩
        rw [if_neg hfl]
    · show ((lo.take f).length : Int) ≤ c 12
      rw [List.length_take, hf]
      omega
end Vr
end Go.Proofs.YtaejjpbpnedblaaGreat
namespace Go.Proofs.YtaejjpbpnedblaaGreat
namespace Vr
open Go.Shelf Go.RowKit Go.Lib Go.Sort Go.Maps Go.ChangeMaps Go.MapKept Laws Irw Crw
set_option linter.unusedVariables false
set_option linter.unusedSimpArgs false
set_option maxRecDepth 20000
/-- stops the level 0? -/
def stp (c : Cf) (V : Lv) : Prop := c 7 ≤ ((lev V 0).length : Int)
theorem rk_asymm {ss : List Int} {a b : Nat} (h1 : rk ss a b) (h2 : rk ss b a) : a = b := by
  unfold rk at *
  omega
theorem rk_irrefl {ss : List Int} {a : Nat} (h : rk ss a a) : False := by
  unfold rk at h
  omega
/-- an order by rk is unique -/
theorem rk_uniq {ss : List Int} : ∀ {l d : List Nat}, l.Perm d → l.Pairwise (rk ss) → d.Pairwise (rk ss) → l = d
  | [], d, hp, _, _ => (List.Perm.nil_eq hp)
  | a :: l, d, hp, h1, h2 => by
    cases d with
    | nil => exact absurd hp.length_eq (by simp)
    | cons b d =>
      have e : a = b := by
        have ha : a ∈ b :: d := hp.mem_iff.1 List.mem_cons_self
        have hb : b ∈ a :: l := hp.mem_iff.2 List.mem_cons_self
        rcases List.mem_cons.1 ha with e | ha
        · exact e
        · rcases List.mem_cons.1 hb with e | hb
          · exact e.symm
          · exact rk_asymm ((List.pairwise_cons.1 h1).1 b hb) ((List.pairwise_cons.1 h2).1 a ha)
      subst e
      rw [rk_uniq ((List.perm_cons a).1 hp) (List.pairwise_cons.1 h1).2 (List.pairwise_cons.1 h2).2]
theorem ord_uniq {ss : List Int} {zs ys : List Nat} (h1 : zs.Perm (dueL ss)) (h2 : zs.Pairwise (rk ss)) (h3 : ys.Perm (dueL ss)) (h4 : ys.Pairwise (rk ss)) : zs = ys := rk_uniq (h1.trans h3.symm) h2 h4
theorem due_mem {ss : List Int} {z : Nat} : z ∈ dueL ss ↔ z < ss.length ∧ 1000 ≤ scA ss z := by
  unfold dueL dueK
  rw [List.mem_filter, List.mem_range, decide_eq_true_eq]
theorem zs_nodup {ss : List Int} {zs : List Nat} (h : zs.Pairwise (rk ss)) : zs.Nodup := h.imp fun {a b} hab e => by
  subst e
  exact rk_irrefl hab
theorem ordL_nodup {c : Cf} {V : Lv} {zs : List Nat} (h : zs.Pairwise (rk (scs c V))) : (ordL c V zs).Nodup := by
  have hn := zs_nodup h
  unfold ordL
  split
  · rw [List.nodup_cons]
    refine ⟨fun hm => ?_, hn.filter _⟩
    have := (List.mem_filter.1 hm).2
    simp at this
  · exact hn
/-- which levels are asked -/
theorem ordL_mem {c : Cf} {V : Lv} {zs : List Nat} (hc : Cr c V.length) (hp : zs.Perm (dueL (scs c V))) {n : Nat} (hn : n + 1 < V.length) : n ∈ ordL c V zs ↔ (1000 ≤ scA (scs c V) n ∨ (n = 0 ∧ stp c V)) := by
  have hl : n < (scs c V).length := by rw [scs_len]; omega
  have hz : n ∈ zs ↔ 1000 ≤ scA (scs c V) n := by rw [hp.mem_iff, due_mem]; exact ⟨fun h => h.2, fun h => ⟨hl, h⟩⟩
  unfold ordL
  by_cases hs : c 7 ≤ ((lev V 0).length : Int)
  · rw [if_pos hs, List.mem_cons, List.mem_filter, hz]
    constructor
    · rintro (rfl | ⟨h, _⟩)
      · exact .inr ⟨rfl, hs⟩
      · exact .inl h
    · rintro (h | ⟨rfl, _⟩)
      · by_cases h0 : n = 0
        · exact .inl h0
        · exact .inr ⟨h, by simp [h0]⟩
      · exact .inl rfl
  · rw [if_neg hs, hz]
    exact ⟨fun h => .inl h, fun h => h.elim id fun h => absurd h.2 hs⟩
theorem lvl_mem {od : List Nat} {n : Nat} : (0 ≤ lvl od n) ↔ n ∈ od := by
  unfold lvl
  cases h : od.findIdx? (fun z => z == n) with
  | none =>
    rw [List.findIdx?_eq_none_iff] at h
    refine ⟨fun h' => absurd h' (by show ¬ (0 : Int) ≤ -1; decide), fun hm => ?_⟩
    have := h n hm
    simp at this
  | some i =>
    rw [List.findIdx?_eq_some_iff_getElem] at h
    obtain ⟨hi, he, _⟩ := h
    refine ⟨fun _ => ?_, fun _ => by show (0 : Int) ≤ (i : Int); omega⟩
    have e : od[i] = n := by simpa using he
    rw [← e]
    exact List.getElem_mem hi
theorem lvl_pos {od : List Nat} {p z : Nat} (hn : od.Nodup) (h : od[p]? = some z) : lvl od z = (p : Int) := by
  refine lvl_at h rfl fun j hj e => ?_
  obtain ⟨h1, e1⟩ := List.getElem?_eq_some_iff.1 h
  obtain ⟨h2, e2⟩ := List.getElem?_eq_some_iff.1 e
  exact absurd (List.pairwise_iff_getElem.1 hn j p h2 h1 hj) (by rw [e1, e2]; simp)
/-- in which order -/
theorem ordL_rk {c : Cf} {V : Lv} {zs : List Nat} (h : zs.Pairwise (rk (scs c V))) {i a b : Nat} (ha : (ordL c V zs)[i]? = some a) (hb : (ordL c V zs)[i + 1]? = some b) (hno : ¬ (stp c V ∧ a = 0 ∧ i = 0)) : rk (scs c V) a b := by
  unfold ordL at ha hb
  by_cases hs : c 7 ≤ ((lev V 0).length : Int)
  · rw [if_pos hs] at ha hb
    cases i with
    | zero =>
      rw [List.getElem?_cons_zero] at ha
      injection ha with ha
      exact absurd ⟨hs, ha.symm, rfl⟩ hno
    | succ i =>
      rw [List.getElem?_cons_succ] at ha hb
      exact pair_get (h.filter _) ha hb (by omega)
  · rw [if_neg hs] at ha hb
    exact pair_get h ha hb (by omega)
theorem ordL_stop {c : Cf} {V : Lv} {zs : List Nat} (hs : stp c V) : (ordL c V zs)[0]? = some 0 := by
  have hs' : c 7 ≤ ((lev V 0).length : Int) := hs
  unfold ordL
  rw [if_pos hs']
  rfl
/-- what stands behind a job that was found -/
theorem ffJ_spec {xs : List Int} : ∀ {js : List Jb} {r : Nat → Bool} {j : Jb}, ffJ xs r js = some j → ∃ k, js[k]? = some j ∧ hitsL xs j = false ∧ r j.lv.toNat = false ∧ r (j.lv.toNat + 1) = false ∧ ∀ (m : Nat) (y : Jb), m < k → js[m]? = some y → y.lv.toNat ≠ j.lv.toNat ∧ y.lv.toNat ≠ j.lv.toNat + 1 ∧ y.lv.toNat + 1 ≠ j.lv.toNat
  | [], r, j, h => by cases h
  | x :: js, r, j, h => by
    unfold ffJ at h
    split at h
    · obtain ⟨k, h1, h2, h3, h4, h5⟩ := ffJ_spec h
      unfold mkR at h3 h4
      have g3 : ¬ (j.lv.toNat = x.lv.toNat ∨ j.lv.toNat = x.lv.toNat + 1) := fun e => by rw [if_pos e] at h3; cases h3
      have g4 : ¬ (j.lv.toNat + 1 = x.lv.toNat ∨ j.lv.toNat + 1 = x.lv.toNat + 1) := fun e => by rw [if_pos e] at h4; cases h4
      rw [if_neg g3] at h3
      rw [if_neg g4] at h4
      refine ⟨k + 1, h1, h2, h3, h4, fun m y hm hy => ?_⟩
      cases m with
      | zero =>
        rw [List.getElem?_cons_zero] at hy
        injection hy with hy
        subst hy
        omega
      | succ m =>
        rw [List.getElem?_cons_succ] at hy
        exact h5 m y (by omega) hy
    · rename_i hn
      injection h with h
      subst h
      simp only [Bool.or_eq_true, not_or, Bool.not_eq_true] at hn
      exact ⟨0, rfl, hn.2, hn.1.1, hn.1.2, fun m y hm hy => absurd hm (Nat.not_lt_zero _)⟩
/-- what 'found' asks of what Next tells -/
structure FoX (f : Nat) (V : Lv) (ps : List ByteArray) (xs : List Int) (od : List Nat) : Prop where
  k : (nxt f V ps xs od).2 = 0 ∨ (nxt f V ps xs od).2 = 1 ∨ (nxt f V ps xs od).2 = 2
  fst : ∀ z : Nat, od[0]? = some z → (hitsL xs (jobL f V ps z) = false ↔ ((nxt f V ps xs od).2 = 2 ∧ (nxt f V ps xs od).1.lv = (z : Int)))
  non : (nxt f V ps xs od).2 ≠ 2 → (nxt f V ps xs od).1 = noJ ∧ ((nxt f V ps xs od).2 = 0 ↔ od.length = 0)
  fnd : (nxt f V ps xs od).2 = 2 → ∃ (p z : Nat), od[p]? = some z ∧ (nxt f V ps xs od).1 = jobL f V ps z ∧ lvl od z = (p : Int) ∧ hitsL xs (jobL f V ps z) = false ∧ ∀ (m y : Nat), m < p → od[m]? = some y → y ≠ z ∧ y ≠ z + 1 ∧ y + 1 ≠ z
theorem nxt_fox {f : Nat} {V : Lv} {ps : List ByteArray} {xs : List Int} {od : List Nat} (hn : od.Nodup) : FoX f V ps xs od := by
  cases od with
  | nil => exact ⟨.inl rfl, fun z h => (by cases h), fun _ => ⟨rfl, (by simp [nxt])⟩, fun h => (by simp [nxt] at h)⟩
  | cons z0 od =>
    have hne : ¬ (z0 :: od) = [] := by simp
    have e : nxt f V ps xs (z0 :: od) = match ffJ xs (fun _ => false) ((z0 :: od).map (jobL f V ps)) with | none => (noJ, 1) | some j => (j, 2) := by
      unfold nxt
      rw [if_neg hne]
      rfl
    have hz : (z0 :: od)[0]? = some z0 := rfl
    cases hf : ffJ xs (fun _ => false) ((z0 :: od).map (jobL f V ps)) with
    | none =>
      rw [hf] at e
      have e' : nxt f V ps xs (z0 :: od) = (noJ, 1) := e
      refine ⟨by rw [e']; exact .inr (.inl rfl), fun z h => ?_, fun _ => by rw [e']; exact ⟨rfl, by simp⟩, fun h => (by rw [e'] at h; cases h)⟩
      rw [hz] at h
      injection h with h
      subst h
      rw [e']
      refine ⟨fun hh => ?_, fun h => (by cases h.1)⟩
      rw [List.map_cons] at hf
      unfold ffJ at hf
      rw [hh] at hf
      simp at hf
    | some j =>
      rw [hf] at e
      have e' : nxt f V ps xs (z0 :: od) = (j, 2) := e
      obtain ⟨k, h1, h2, h3, h4, h5⟩ := ffJ_spec hf
      rw [List.getElem?_map] at h1
      obtain ⟨z, hk, hj⟩ : ∃ z, (z0 :: od)[k]? = some z ∧ jobL f V ps z = j := by
        cases hq : (z0 :: od)[k]? with
        | none => rw [hq] at h1; cases h1
        | some z =>
          rw [hq] at h1
          injection h1 with h1
          exact ⟨z, rfl, h1⟩
      have hlv : j.lv = (z : Int) := by rw [← hj]; exact jobL_lv
      have hlt : j.lv.toNat = z := by rw [hlv]; rfl
      refine ⟨by rw [e']; exact .inr (.inr rfl), fun y h => ?_, fun h => absurd (by rw [e']) h, fun _ => ⟨k, z, hk, by rw [e']; exact hj.symm, lvl_pos hn hk, by rw [hj]; exact h2, fun m y hm hy => ?_⟩⟩
      · rw [hz] at h
        injection h with h
        subst h
        rw [e']
        constructor
        · intro hh
          rw [List.map_cons] at hf
          unfold ffJ at hf
          rw [hh] at hf
          simp at hf
          rw [← hf]
          exact ⟨rfl, jobL_lv⟩
        · rintro ⟨_, hy⟩
          have hy' : (z : Int) = (z0 : Int) := hlv.symm.trans hy
          have : z = z0 := by omega
          rw [← this, hj]
          exact h2
      · have := h5 m (jobL f V ps y) hm (by rw [List.getElem?_map, hy]; rfl)
        rw [hlt, show (jobL f V ps y).lv.toNat = y by rw [jobL_lv]; rfl] at this
        exact this
end Vr
end Go.Proofs.YtaejjpbpnedblaaGreat
namespace Go.Proofs.YtaejjpbpnedblaaGreat
namespace Vr
open Go.Shelf Go.RowKit Go.Lib Go.Sort Go.Maps Go.ChangeMaps Go.MapKept Laws Irw Crw
set_option linter.unusedVariables false
set_option linter.unusedSimpArgs false
set_option maxRecDepth 20000
/-- within the law's found -/
structure FoS (w : World) (c : Cf) (V : Lv) (J : Jb) (us ls : Sv) (B : Nat) (W : World) : Prop where
  b : RowKit.Below w.heap.size w W
  cf : Lc W w.heap.size c
  cl : w.heap.size < W.heap.size
  jz : Zb W B (jbC J.lv us ls J.cut J.mv)
  ja : JAt W us ls J
theorem FoS.below {w : World} {c : Cf} {V : Lv} {J : Jb} {us ls : Sv} {B : Nat} {W W' : World} (s : FoS w c V J us ls B W) (hb : RowKit.Below W.heap.size W W') : FoS w c V J us ls B W' :=
  ⟨s.b.trans (hb.mono s.b.size), s.cf.keep s.cl hb, Nat.lt_of_lt_of_le s.cl hb.size, s.jz.below hb, s.ja.below hb⟩
/-- what the law's found asks ahead -/
structure FoH (c : Cf) (vb : Nat) (V : Lv) (pa : Option Addr) (pc : Nat) (ps : List ByteArray) (f : Nat) (la : Option Addr) (ln lc : Nat) (xs : List Int) (sa : Option Addr) (sn sc : Nat) (od : List Nat) (w : World) : Prop where
  v : VAt w vb V
  we : WeV V
  cr : Cr c V.length
  no : NumOk V
  p : Ls kT w (pa, ps.length, pc) ps
  pl : ps.length ≤ 1000000000
  f_ : c 12 = f
  x : Ls kU w (la, ln, lc) xs
  xl : ln ≤ 17592186044416
  xo : XsOk xs
  s : Ls kI w (sa, sn, sc) (zI od)
  ol : od.length ≤ 20
  og : ∀ z ∈ od, z + 1 < V.length ∧ V[z]? = some (lev V (z : Int)) ∧ 0 < (lev V (z : Int)).length
  nx : Calls Tryz.prog 36 #[.agg (cfgA c), .pointer (some ⟨vb, 0, none⟩), .slice pa ps.length pc, .slice la ln lc] (w.alloc (Obj.cells (cfgA c) 23)) fun e w' => ∃ us ls : Sv, e = .returned (.tuple #[jbV (nxt f V ps xs od).1.lv us ls (nxt f V ps xs od).1.cut (nxt f V ps xs od).1.mv, .int .i64 (nxt f V ps xs od).2]) ∧ JAt w' us ls (nxt f V ps xs od).1 ∧ RowKit.Below (w.alloc (Obj.cells (cfgA c) 23)).heap.size (w.alloc (Obj.cells (cfgA c) 23)) w'
  fx : FoX f V ps xs od
theorem foH_of (c : Cf) (vb : Nat) (V : Lv) (pa : Option Addr) (pc : Nat) (ps : List ByteArray) (f : Nat) (la : Option Addr) (ln lc : Nat) (xs : List Int) (sa : Option Addr) (sn sc : Nat) (zs : List Nat) (w : World) (h : VAt w vb V) (hw : WeV V) (hc : Cr c V.length) (hno : NumOk V) (hp : Ls kT w (pa, ps.length, pc) ps) (hps : ps.length ≤ 1000000000) (hf : c 12 = f) (hlo : Ls kU w (la, ln, lc) xs) (hbig : ln ≤ 17592186044416) (hxs : XsOk xs) (hs : Ls kI w (sa, sn, sc) (zI (ordL c V zs))) (hz1 : zs.Perm (dueL (scs c V))) (hz2 : zs.Pairwise (rk (scs c V))) : FoH c vb V pa pc ps f la ln lc xs sa sn sc (ordL c V zs) w := by
  have hb : RowKit.Below w.heap.size w (w.alloc (Obj.cells (cfgA c) 23)) := (Below.refl _ _).alloc (Nat.le_refl _) _
  refine ⟨h, hw, hc, hno, hp, hps, hf, hlo, hbig, hxs, hs, ord_len hc hz1, ord_good hc hz1, ?_, nxt_fox (ordL_nodup hz2)⟩
  refine (next_any c vb V pa pc ps f la ln lc xs _ (h.below hb) hw hc hno (hp.below hb) hps hf (hlo.below hb) hbig).mono ?_
  rintro e w' ⟨ys, us, ls, h1, h2, h3, h4, h5⟩
  rw [ord_uniq h1 h2 hz1 hz2] at h3 h4
  exact ⟨us, ls, h3, h4, h5⟩
/-- a job's box that lies anew -/
def JBy (w0 W8 : World) (v : Value) (j : Jb) : Prop := ∃ (B : Nat) (us ls : Sv), v = .pointer (some ⟨B, 0, none⟩) ∧ Zb W8 B (jbC j.lv us ls j.cut j.mv) ∧ JAt W8 us ls j ∧ RowKit.Below w0.heap.size w0 W8
theorem jby_set {W0 wD : World} {B : Nat} {us ls : Sv} {j : Jb} (hB : W0.heap.size ≤ B) (hz : Zb wD B (jbC 0 nS nS ⟨#[]⟩ false)) (hj : JAt wD us ls j) (hb : RowKit.Below W0.heap.size W0 wD) (hu : ∀ b off, us.1 = some ⟨b, off, none⟩ → B < b) (hl : ∀ b off, ls.1 = some ⟨b, off, none⟩ → B < b) :
    JBy W0 (sets wD B 0 (jbC j.lv us ls j.cut j.mv)) (.pointer (some ⟨B, 0, none⟩)) j := by
  have hk : ∀ b, b ≠ B → (sets wD B 0 (jbC j.lv us ls j.cut j.mv)).heap[b]? = wD.heap[b]? := fun b h => sets_block wD B b h _ 0
  exact ⟨B, us, ls, rfl, hz.sets (by simp [jbC]), ⟨hj.1.keep (fun b off e _ => hk b (by have := hu b off e; omega)) (by rw [sets_size]; exact Nat.le_refl _), hj.2.keep (fun b off e _ => hk b (by have := hl b off e; omega)) (by rw [sets_size]; exact Nat.le_refl _)⟩, sets_below B hB _ 0 hb⟩
theorem jby_alloc {W0 wD : World} {us ls : Sv} {j : Jb} (hb : RowKit.Below W0.heap.size W0 wD) (hj : JAt wD us ls j) (ty : TypeId) :
    JBy W0 (wD.alloc (Obj.cells #[.int .i64 j.lv, .slice us.1 us.2.1 us.2.2, .slice ls.1 ls.2.1 ls.2.2, .string j.cut, .bool j.mv] ty)) (.pointer (some ⟨wD.heap.size, 0, none⟩)) j := by
  have hb1 : RowKit.Below wD.heap.size wD (wD.alloc (Obj.cells #[.int .i64 j.lv, .slice us.1 us.2.1 us.2.2, .slice ls.1 ls.2.1 ls.2.2, .string j.cut, .bool j.mv] ty)) := (Below.refl _ _).alloc (Nat.le_refl _) _
  exact ⟨wD.heap.size, us, ls, rfl, Zb.new wD _ _, hj.below hb1, hb.trans (hb1.mono hb.size)⟩
end Vr
end Go.Proofs.YtaejjpbpnedblaaGreat
