import Derived.Test.YtaejjpbpnedblaaGreatVx
import Derived.Test.YtaejjpbpnedblaaGreatUsC
namespace Go.Proofs.YtaejjpbpnedblaaGreat
namespace Vr
open Go.Shelf Go.RowKit Go.Lib Go.Sort Go.Maps Go.ChangeMaps Go.MapKept Laws Irw Crw
set_option linter.unusedVariables false
set_option linter.unusedSimpArgs false
set_option maxRecDepth 20000
def kU : Knd Int := ⟨55, 1, 8, .int .u64 0, fun x => [.int .u64 x], fun _ => rfl, fun x u hu => by simp at hu; subst hu; rfl, by omega, rfl, by omega⟩
theorem infoU : (Tryz.prog.info? 55).map (fun i => (i.zero, i.size, i.bytes)) = some (some kU.zero, 1, 8) := by kernel_rfl
theorem kU_cells : ∀ (l : List Int), kU.cells l = l.map (Value.int .u64)
  | [] => rfl
  | x :: l => by
    show kU.cs x ++ kU.cells l = _
    rw [kU_cells l]
    rfl
theorem own_sortedU {t : Nat} {T : Nat → Nat} {w W : World} {G c : Nat} {l : List Int} {d : Array Int} (h : OwnK kU t T w (.slice (some ⟨G, 0, none⟩) l.length c) l) (hd : d.size = l.length) (hW : Us.At w G 0 d W) :
    OwnK kU t T W (.slice (some ⟨G, 0, none⟩) l.length c) d.toList ∧ Goes (· = t) T w T W := by
  have hG := h.2 G rfl
  obtain ⟨m, os, rfl⟩ := hW
  rcases h.1.2 with ⟨h1, _⟩ | ⟨g, cap, cur, hv, hb, hh, hc, hmx, hs, ht⟩
  · cases h1
  cases hv
  have hlt : G < w.heap.size := (Array.getElem?_eq_some_iff.1 hh).1
  have hblk : ∀ b, b < w.heap.size → (grow (putRow Us.eU (Sort.ahead w m) G 0 d) os).heap[b]? = (w.heap.modify G (onCells (putCells Us.eU 0 d)))[b]? := fun b hb => by
    show (w.heap.modify G (onCells (putCells Us.eU 0 d)) ++ os)[b]? = _
    rw [Array.getElem?_append_left (by simpa using hb)]
  have hs1 : cur.size = c := by have : cur.size = c * 1 := hs; omega
  refine ⟨⟨⟨by rw [kU.cells_length], .inr ⟨G, c, putCells Us.eU 0 d cur, by simp [hd], Nat.zero_le _, ?_, by simpa [hd] using hc, hmx, by simp [putCells, hs], ?_⟩⟩, h.2⟩, rfl, rfl, rfl, ?_, fun b hb' hne => ?_, fun _ _ _ => rfl, fun _ _ h => h⟩
  · rw [hblk G hlt, Array.getElem?_modify, if_pos rfl, hh]
    rfl
  · rw [kU_cells]
    have hdl : d.toList.length = l.length := by simpa using hd
    rw [hdl]
    apply List.ext_getElem?
    intro j
    change (List.take (l.length * 1) _)[j]? = _
    by_cases hj : j < l.length
    · rw [List.getElem?_take_of_lt (by omega)]
      have hjc : j < cur.size := by omega
      simp only [putCells, Array.toList_mapIdx, List.getElem?_mapIdx]
      rw [show cur.toList[j]? = some (cur.toList[j]'(by simpa using hjc)) from List.getElem?_eq_getElem (by simpa using hjc), Option.map_some, if_pos ⟨Nat.zero_le _, by omega⟩, Nat.sub_zero, List.getElem?_map, List.getElem?_eq_getElem (by omega), Option.map_some, getElem!_pos d j (by omega)]
      simp
    · rw [List.getElem?_eq_none (by rw [List.length_take]; exact Nat.le_trans (Nat.min_le_left _ _) (by omega)), List.getElem?_eq_none (by rw [List.length_map, hdl]; omega)]
  · show w.heap.size ≤ (w.heap.modify G _ ++ os).size
    simp
  · rw [hblk b hb', Array.getElem?_modify, if_neg (fun e => hne (by subst e; exact hG))]
/-- slices.Sort of numbers -/
theorem sortU_any {t : Nat} {T : Nat → Nat} {w : World} {s : Sv} {l : List Int} (h : OwnK kU t T w (svV s) l) (hl : l.length ≤ 17592186044416) :
    Calls Tryz.prog 95 #[svV s] w fun e w' => e = .returned (.tuple #[]) ∧ OwnK kU t T w' (svV s) (l.mergeSort fun x y => decide (x ≤ y)) ∧ Goes (· = t) T w T w' := by
  obtain ⟨a, n, c⟩ := s
  have hn := (OwnK.sk h).1
  change n = l.length at hn
  subst hn
  cases a with
  | none =>
    have h0 : l = [] := by
      rcases h.1.2 with ⟨h1, h2⟩ | ⟨g, cap, cur, hv, _⟩
      · exact List.eq_nil_of_length_eq_zero h2
      · cases hv
    subst h0
    have hc : c = 0 := (OwnK.sk h).2.2.2.1 rfl
    subst hc
    exact (sort64_nil w).mono fun e w' hp => ⟨hp.1, by rw [hp.2, show ([] : List Int).mergeSort (fun x y => decide (x ≤ y)) = [] by simp]; exact h, by rw [hp.2]; exact Goes.refl _ _ _⟩
  | some a =>
    obtain ⟨G, hG⟩ : ∃ G, a = ⟨G, 0, none⟩ := by
      rcases h.1.2 with ⟨h1, h2⟩ | ⟨g, cap, cur, hv, _⟩
      · cases h1
      · cases hv; exact ⟨g, rfl⟩
    subst hG
    have hrow : Us.Row w G 0 l.toArray := by
      refine ⟨fun j hj => ?_, (h.1.lt G rfl).2, by simp; omega⟩
      have hj' : j < l.length := by simpa using hj
      obtain ⟨b, off, e, _, hc⟩ := (Ls.own (s := (some ⟨G, 0, none⟩, l.length, c)) h).cell (List.getElem?_eq_getElem hj')
      cases e
      have := hc 0 _ rfl
      rw [show 0 + j * kU.size + 0 = 0 + j by show 0 + j * 1 + 0 = 0 + j; omega] at this
      refine ⟨?_, World.ownsRow.frozenAt (show w.ownsRow 0 kU.ty kU.size (.slice (some ⟨G, 0, none⟩) l.length c) l.length (kU.cells l) from h.1) _⟩
      rw [this]
      simp [Us.eU, hj']
    refine (Us.sort_any G 0 l.length c l.toArray w hrow (by simp)).mono fun e w' hp => ?_
    have hsz : (Sort.sort ltInt l.toArray).size = l.length := by
      have := congrArg List.length (Us.sort_list l)
      simpa [List.length_mergeSort] using this
    have := own_sortedU h hsz hp.2
    rw [Us.sort_list] at this
    exact ⟨hp.1, this⟩
end Vr
end Go.Proofs.YtaejjpbpnedblaaGreat
