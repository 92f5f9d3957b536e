import Derived.Test.YtaejjpbpnedblaaGreatVo
import Derived.Shelf.SlSortCmp.WholeK
import Derived.Shelf.Small.Strs
import Derived.Shelf.Small.Bits
import Derived.Ground.SlsfProg
import Derived.Ground.NamesProg
namespace Go.Proofs
open Go.Shelf Go.RowKit Go.Lib Go.Sort
shelf_lay_g SlLaysF0.n6 Slsf 6 at Tryz 107 as Tryz.sortT
shelf_lay Lays.n106 Nm 106 at Tryz as Tryz.strCmp
shelf_lay Lays.n125 Nm 125 at Tryz as Tryz.bitsLen
namespace YtaejjpbpnedblaaGreat
namespace Vr
open Go.Maps Go.ChangeMaps Go.MapKept Laws Irw Crw
set_option linter.unusedVariables false
set_option linter.unusedSimpArgs false
set_option maxRecDepth 20000
theorem cmp_lt : ∀ (a b : List UInt8), decide (Lib.compareBytes a b < 0) = Op.bytesLess a b
  | [], [] => rfl
  | [], b :: bs => rfl
  | a :: r, [] => rfl
  | a :: r, b :: bs => by
    unfold Lib.compareBytes Op.bytesLess
    by_cases h1 : a < b
    · simp [h1]
    · by_cases h2 : b < a
      · have hne : a ≠ b := by rintro rfl; exact h1 h2
        simp [h1, h2, hne]
      · have he : a = b := by
          rw [UInt8.lt_iff_toNat_lt] at h1 h2
          exact UInt8.toNat_inj.1 (by omega)
        subst he
        simp [h1, cmp_lt r bs]
def cfT (x y : Tb) : Int := Lib.compareBytes x.le.data.toList y.le.data.toList
theorem ltT (x y : Tb) : ltOf cfT x y = ltS x.le y.le := cmp_lt _ _
theorem swoT : SWO (ltOf cfT) where
  irrefl x := by rw [ltT]; exact ltS_irrefl _
  trans x y z h1 h2 := by rw [ltT] at *; exact ltS_trans h1 h2
  ntrans x y z h1 h2 := by rw [ltT] at *; exact ltS_le2 h2 h1
set_option maxHeartbeats 1000000 in
theorem order1_any (x y : Tb) (W : World) : Calls Tryz.prog 108 #[tbV x, tbV y] W fun e w' => e = .returned (.int .i64 (cfT x y)) ∧ ∃ q os', w' = grow (W.drewN q) os' := by
  have hcon := fun W' => Any.strings_Compare Tryz.strCmp x.le y.le W'
  change ∀ W', Calls Tryz.prog 109 _ _ _ at hcon
  unfold cfT tbV
  generalize Lib.compareBytes x.le.data.toList y.le.data.toList = r at hcon ⊢
  go_enter Tryz.func108, Tryz.ntmps108
  go_wp2_with (go_at_call 109; refine (hcon _).mono ?_; rintro e w' ⟨rfl, rfl⟩)
  go_ret
  exact ⟨rfl, 0, _, by rw [alloc_eq_grow, alloc_eq_grow, grow_grow]; rfl⟩
theorem cmpLaysT (blk off size : Nat) (w : World) : CmpLays Tryz.prog 108 #[] tbC 6 cfT blk off size w := fun _ _ _ _ x y => order1_any x y _
/-- the row behind a sort -/
theorem own_sorted {t : Nat} {T : Nat → Nat} {w : World} {G c m : Nat} {l : List Tb} {d : Array Tb} {os : Array Obj} (h : OwnK kTb t T w (.slice (some ⟨G, 0, none⟩) l.length c) l) (hd : d.size = l.length) :
    OwnK kTb t T (sortWorldK tbC 6 w G 0 m d os) (.slice (some ⟨G, 0, none⟩) l.length c) d.toList ∧ Goes (· = t) T w T (sortWorldK tbC 6 w G 0 m d os) := by
  have hG := h.2 G rfl
  have hblk : ∀ b, b < w.heap.size → (sortWorldK tbC 6 w G 0 m d os).heap[b]? = (w.heap.modify G (onCells (putCells id 0 (flatK tbC 6 d))))[b]? := fun b hb => by
    show (w.heap.modify G (onCells (putCells id 0 (flatK tbC 6 d))) ++ os)[b]? = _
    rw [Array.getElem?_append_left (by simpa using hb)]
  rcases h.1.2 with ⟨h1, _⟩ | ⟨g, cap, cur, hv, hb, hh, hc, hmx, hs, ht⟩
  · cases h1
  cases hv
  have hlt : G < w.heap.size := (Array.getElem?_eq_some_iff.1 hh).1
  have hl6 : l.length * 6 ≤ cur.size := by rw [hs]; exact Nat.mul_le_mul_right _ hc
  refine ⟨⟨⟨by rw [kTb.cells_length], .inr ⟨G, c, putCells id 0 (flatK tbC 6 d) cur, by simp [hd], Nat.zero_le _, ?_, by simpa [hd] using hc, hmx, by simp [putCells, hs], ?_⟩⟩, h.2⟩, rfl, rfl, rfl, ?_, fun b hb' hne => ?_, fun _ _ _ => rfl, fun _ _ h => h⟩
  · rw [hblk G hlt, Array.getElem?_modify, if_pos rfl, hh]
    rfl
  · apply List.ext_getElem?
    intro j
    have hdl : d.toList.length = l.length := by simpa using hd
    by_cases hj : j < l.length * 6
    · have h6 : j < (kTb.cells d.toList).length := by rw [kTb.cells_length, hdl]; exact hj
      rw [hdl]
      change (List.take (l.length * 6) _)[j]? = _
      rw [List.getElem?_take_of_lt hj]
      have hi : j / 6 < d.toList.length := by rw [hdl]; omega
      have hg := kTb.cells_get d.toList (j / 6) _ (List.getElem?_eq_getElem hi) (j % 6) (Nat.mod_lt _ (by decide))
      rw [show j / 6 * kTb.size + j % 6 = j by show j / 6 * 6 + j % 6 = j; omega] at hg
      rw [hg]
      have hjc : j < cur.size := by omega
      simp only [putCells, Array.toList_mapIdx, List.getElem?_mapIdx]
      rw [show cur.toList[j]? = some (cur.toList[j]'(by simpa using hjc)) from List.getElem?_eq_getElem (by simpa using hjc)]
      rw [Option.map_some, if_pos ⟨Nat.zero_le _, by rw [size_flatK, hd]; omega⟩, Nat.sub_zero, get_flatK _ _ _ _ (by rw [hd]; exact hj)]
      have hi2 : j / 6 < d.size := by rw [hd]; omega
      have e1 : d[j / 6]! = d.toList[j / 6] := by rw [getElem!_pos d _ hi2]; simp
      have hm : j % 6 < (tbC d.toList[j / 6]).length := Nat.mod_lt _ (by decide)
      rw [e1]
      show some (id (tbC d.toList[j / 6])[j % 6]!) = (tbC d.toList[j / 6])[j % 6]?
      rw [getElem!_pos (tbC d.toList[j / 6]) (j % 6) hm, List.getElem?_eq_getElem hm]
      rfl
    · rw [List.getElem?_eq_none (by rw [List.length_take]; show _ ≤ j; rw [hdl]; exact Nat.le_trans (Nat.min_le_left _ _) (by show l.length * 6 ≤ j; omega)), List.getElem?_eq_none (by rw [kTb.cells_length, hdl]; show l.length * 6 ≤ j; omega)]
  · show w.heap.size ≤ (w.heap.modify G _ ++ os).size
    simp
  · rw [hblk b hb', Array.getElem?_modify, if_neg (fun e => hne (by subst e; exact hG))]
end Vr
end YtaejjpbpnedblaaGreat
end Go.Proofs
