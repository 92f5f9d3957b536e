import Derived.Test.YtbloifnibgdeoaaDUn2
import Derived.Deep.QuietTactic
import Derived.BigQuiet
import Derived.Deep.RegionLaw
namespace Go.Proofs.Ytbloifnibgdeoaa
namespace Dsk
open Go.RowKit Go.Shelf Go.Maps Go.Sort Byt Laws
set_option linter.unusedVariables false
set_option maxRecDepth 100000

theorem exists_ps {n : Nat} (cs : List Chg) (h : ∀ c ∈ cs, okCh n c) : ∃ ps : List (Nat × OkC n), ps.map (fun x => x.2.1) = cs ∧ ps.length = cs.length ∧ ∀ (j : Nat) (x : Nat × OkC n), ps[j]? = some x → x.1 = j := by
  refine ⟨List.ofFn (fun i : Fin cs.length => (i.1, (⟨cs[i.1], h _ (List.getElem_mem i.2)⟩ : OkC n))), ?_, by simp, ?_⟩
  · rw [List.map_ofFn]
    refine List.ext_getElem (by simp) (fun i h1 h2 => ?_)
    simp
  · intro j x hx
    rw [List.getElem?_ofFn] at hx
    split at hx
    · cases hx; rfl
    · cases hx
theorem undoAll_map {n : Nat} (l : List (Key × Nat)) (ps : List (Nat × OkC n)) : undoAll l ps = (ps.map (fun x => x.2.1)).foldl undo1 l := by
  induction ps generalizing l with
  | nil => rfl
  | cons x r ih => exact ih (undo1 l x.2.1)
/-- How many changes a fall keeps. -/
def keptN (dir : Int) (n : Nat) : Nat := min dir.toNat n

theorem chg_cells {w : World} {fb : Nat → Nat} {v : Value} {l : List Chg} (h : w.ownsRow 0 112 4 v l.length (chgRow fb l)) {j : Nat} {c : Chg} (hj : l[j]? = some c) :
    ∃ g cap, v = .slice (some ⟨g, 0, none⟩) l.length cap ∧ l.length ≤ cap ∧ cap ≤ 9223372036854775807 ∧ w.cell? ⟨g, j * 4, none⟩ = some (.string c.name) ∧ w.cell? ⟨g, j * 4 + 1, none⟩ = some (pv fb c.was) ∧ w.cell? ⟨g, j * 4 + 2, none⟩ = some (.string c.to) ∧ w.cell? ⟨g, j * 4 + 3, none⟩ = some (pv fb c.over) := by
  have key : ∀ {l : List Chg} {j : Nat} {c : Chg}, l[j]? = some c → ∀ t, t < 4 → (chgRow fb l)[j * 4 + t]? = (chgCells fb c)[t]? := by
    intro l
    induction l with
    | nil => intro j c hj; simp at hj
    | cons x r ih =>
      intro j c hj t ht
      have hlen : (chgCells fb x).length = 4 := rfl
      unfold chgRow at ih ⊢
      rw [List.flatMap_cons]
      cases j with
      | zero =>
        simp at hj; subst hj
        rw [List.getElem?_append_left (by rw [hlen]; omega)]
        congr 1; omega
      | succ j =>
        simp at hj
        rw [List.getElem?_append_right (by rw [hlen]; omega), hlen]
        have := ih hj t ht
        rw [← this]; congr 1; omega
  have hlt : j < l.length := (List.getElem?_eq_some_iff.1 hj).1
  rcases h.2 with ⟨_, h0⟩ | ⟨g, cap, cur, rfl, h1, h2, h3, h4, h5, h6⟩
  · omega
  · have hc : ∀ t, t < 4 → w.cell? ⟨g, j * 4 + t, none⟩ = (chgCells fb c)[t]? := by
      intro t ht
      rw [Go.Joins.cell_of_block h2, ← key hj t ht, ← h6, List.getElem?_take, if_pos (by omega)]
      simp
    exact ⟨g, cap, rfl, h3, h4, hc 0 (by omega), hc 1 (by omega), hc 2 (by omega), hc 3 (by omega)⟩

/-- The changes that a fall doesn't keep, as a slice. -/
theorem Pdi.tail {T : Nat → Nat} {w : World} {d mb : Nat} {fb : Nat → Nat} {m : Dm} {a : Option Addr} {ca : Nat} {D : DataW (Option Addr)} (h : Pdi T w d mb fb m (.slice a m.ch.length ca) D) {k : Nat} (hk : k ≤ m.ch.length) :
    ∃ (b : Nat) (ps : List (Nat × OkC m.fl.length)), ps.map (fun x => x.2.1) = m.ch.drop k ∧ ps.length = m.ch.length - k ∧ (∀ (j : Nat) (x : Nat × OkC m.fl.length), ps[j]? = some x → x.1 = j) ∧ (b = d ∨ (Value.slice a m.ch.length ca).ownBlock = some b) ∧
      ChgS fb w (.slice (if ca = k then a else Option.map (fun x => x.add (k * 4)) a) (m.ch.length - k) (ca - k)) ps b := by
  have hok : ∀ c ∈ m.ch.drop k, okCh m.fl.length c := fun c hc => by
    have hc' := List.mem_of_mem_drop hc
    exact ⟨(h.csz c hc').1, (h.csz c hc').2, (h.cids c hc').1, (h.cids c hc').2⟩
  obtain ⟨ps, hp1, hp2, hp3⟩ := exists_ps _ hok
  have hpl : ps.length = m.ch.length - k := by rw [hp2, List.length_drop]
  have hdm : d ≠ mb := by rintro rfl; have h1 := h.td; have h2 := h.tm; omega
  rcases h.chg.2 with ⟨h1, h2⟩ | ⟨g, cap, cur, h1, _, _, h3, _, _⟩
  · obtain ⟨rfl, _, rfl⟩ := Value.slice.inj h1
    have hk0 : k = 0 := by omega
    subst hk0
    refine ⟨d, ps, hp1, hpl, hp3, .inl rfl, .inl ⟨by simp [h2], List.eq_nil_of_length_eq_zero (by omega)⟩⟩
  · obtain ⟨rfl, _, rfl⟩ := Value.slice.inj h1
    have hlt := h.chg.lt g rfl
    have hgm : g ≠ mb := by rintro rfl; have h1 := h.tc g rfl; have h2 := h.tm; omega
    refine ⟨g, ps, hp1, hpl, hp3, .inr rfl, .inr ?_⟩
    by_cases e : ca = k
    · have hz : ps = [] := List.eq_nil_of_length_eq_zero (by omega)
      subst hz
      refine ⟨0, ca - k, ?_, Nat.zero_le _, fun j x hx => by simp at hx⟩
      rw [if_pos e]
      have : m.ch.length - k = 0 := by omega
      rw [this]; rfl
    · refine ⟨k * 4, ca - k, ?_, by omega, fun j x hx => ?_⟩
      · rw [if_neg e, hpl]
        simp [Addr.add]
        try omega
      · have hxc : m.ch[k + j]? = some x.2.1 := by
          have : (m.ch.drop k)[j]? = some x.2.1 := by rw [← hp1, List.getElem?_map, hx]; rfl
          rwa [List.getElem?_drop] at this
        obtain ⟨g', cap', e1, _, _, z0, z1, z2, z3⟩ := chg_cells h.chg hxc
        obtain ⟨e2, _, _⟩ := Value.slice.inj e1
        cases e2
        have e4 : (k + j) * 4 = k * 4 + j * 4 := by omega
        rw [e4] at z0 z1 z2 z3
        exact ⟨z0, z1, z2, z3⟩

/-- v is the changes that a fall doesn't keep. -/
def LostIs (fb : Nat → Nat) (m : Dm) (w : World) (d : Nat) (cv : Value) (dir : Int) (v : Value) : Prop := ∃ (b : Nat) (ps : List (Nat × OkC m.fl.length)), ps.map (fun x => x.2.1) = m.ch.drop (keptN dir m.ch.length) ∧ ps.length ≤ m.ch.length ∧ (∀ (j : Nat) (x : Nat × OkC m.fl.length), ps[j]? = some x → x.1 = j) ∧ (b = d ∨ cv.ownBlock = some b) ∧ ChgS fb w v ps b

set_option maxHeartbeats 1000000 in
theorem lost_any {T : Nat → Nat} {w : World} {d mb : Nat} {fb : Nat → Nat} {m : Dm} {cv : Value} {D : DataW (Option Addr)} (h : Pdi T w d mb fb m cv D) (dir : Int) :
    Calls Try.prog 53 #[.pointer (some ⟨d, 0, none⟩), .int .i64 dir] w fun e w' => ∃ v, e = .returned v ∧ w' = w.drew ∧ LostIs fb m w d cv dir v := by
  obtain ⟨a, ca, rfl⟩ := own_slice h.chg
  have c7 := (h.top.1.2 7 (by omega)).1
  simp only [Top.cell] at c7
  have hcap : m.ch.length ≤ ca ∧ ca ≤ 9223372036854775807 := by
    rcases h.chg.2 with ⟨h1, h2⟩ | ⟨g, cap, cur, h1, _, _, h3, h4, _⟩
    · simp at h1; omega
    · cases h1; exact ⟨h3, h4⟩
  obtain ⟨hc1, hc2⟩ := hcap
  have HK : Hid ((min (max dir 0) (m.ch.length : Int)).toNat = keptN dir m.ch.length) := by show _ = _; unfold keptN; omega
  have HT : Hid (LostIs fb m w d (.slice a m.ch.length ca) dir (.slice (if ca = (min (max dir 0) (m.ch.length : Int)).toNat then a else Option.map (fun x => x.add ((min (max dir 0) (m.ch.length : Int)).toNat * 4)) a) (m.ch.length - (min (max dir 0) (m.ch.length : Int)).toNat) (ca - (min (max dir 0) (m.ch.length : Int)).toNat))) := by
    obtain ⟨b, ps, h1, h2, h3, h4, h6⟩ := h.tail (k := keptN dir m.ch.length) (Nat.min_le_right _ _)
    rw [← HK.out] at h6
    exact ⟨b, ps, h1, by omega, h3, h4, h6⟩
  clear h
  go_enter Try.func53, Try.ntmps53
  go_wp2
  go_region
  generalize Value.slice (if ca = (min (max dir 0) (m.ch.length : Int)).toNat then a else Option.map (fun x => x.add ((min (max dir 0) (m.ch.length : Int)).toNat * 4)) a) (m.ch.length - (min (max dir 0) (m.ch.length : Int)).toNat) (ca - (min (max dir 0) (m.ch.length : Int)).toNat) = v at HT ⊢
  go_wp2
  go_ret
  exact ⟨v, rfl, rfl, HT.out⟩
end Dsk
end Go.Proofs.Ytbloifnibgdeoaa
