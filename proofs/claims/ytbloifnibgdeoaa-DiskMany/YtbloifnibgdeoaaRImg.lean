import Derived.Test.YtbloifnibgdeoaaRFil
import Derived.Test.YtbloifnibgdeoaaRRst
namespace Go.Proofs.Ytbloifnibgdeoaa
namespace Dsk
open Go.RowKit Go.Shelf Go.Maps Go.Sort Byt Laws
set_option linter.unusedVariables false
set_option maxRecDepth 100000
set_option linter.unusedSimpArgs false

/-- P3.7 where nothing has changed and nothing is kept, of the reference. -/
def Rm.image0 (m : Rm) : List Fi := m.su.map fun p => ⟨ofK p.1, (dataOf m.fl p.2).take (sureOf m.fl p.2), sureOf m.fl p.2⟩

set_option maxHeartbeats 4000000 in
theorem rimage_none {T : Nat → Nat} {w : World} {d : Nat} {fb : Nat → Nat} {m : Rm} {vf vn vs vc : Value} (h : Rd T w d fb m vf vn vs vc) (hch : m.ch = []) (dir : Int) :
    Calls Try.prog 18 #[.pointer (some ⟨d, 0, none⟩), .int .i64 dir, .slice none 0 0] w fun e w' => ∃ v ds, e = .returned v ∧ FilesAt w.heap.size w' v m.image0 ds ∧ Below w.heap.size w w' := by
  obtain ⟨i3, hi3, hz0, hz1, hz2⟩ := info_parts infoF
  obtain ⟨i8, hi8, hy0, hy1, hy2⟩ := info_parts infoB
  have hmost := h.mostS
  have hmf := h.mostF
  obtain ⟨L, hL⟩ : ∃ L : Nat, m.su.length = L := ⟨_, rfl⟩
  obtain ⟨F, hF⟩ : ∃ F : Nat, m.fl.length = F := ⟨_, rfl⟩
  obtain ⟨af, cf, rfl⟩ := own_slice h.fls
  have HR0 : Hid (Calls Try.prog 56 #[.pointer (some ⟨d, 0, none⟩), .int .i64 dir] w fun e w' => ∃ v', e = .returned v' ∧ w'.ownsRow w.heap.size 98 2 v' m.su.length (enRow m.su) ∧ Below w.heap.size w w') := rest_none h hch dir
  have HH : Hid (Rd T w d fb m (.slice af m.fl.length cf) vn vs vc) := h
  have HL : Hid (m.su.length = L) := hL
  have HFL : Hid (m.fl.length = F) := hF
  rw [hL] at hmost
  rw [hF] at hmf
  clear h hL hF hch
  go_enter Try.func18, Try.ntmps18
  go_wp2_with (go_at_call 56; refine HR0.out.mono ?_; rintro e w0 ⟨v0, rfl, h1, h2⟩; rw [HL.out] at h1; obtain ⟨an, cn, rfl⟩ := own_slice h1; have H0 : Hid (w0.ownsRow w.heap.size 98 2 (.slice an L cn) L (enRow m.su) ∧ Below w.heap.size w w0) := ⟨h1, h2⟩; clear h1 h2)
  go_loopw [8, 9, 10, 11, 12] (fun told i _ _ _ wr => ∃ (k : Nat) (ds : List (Option Addr × Nat)), i = .int .i64 k ∧ k ≤ L ∧ Hid (FilesAt w0.heap.size wr told (m.image0.take k) ds) ∧ Hid (Below w0.heap.size w0 wr)) (fun _ i _ _ _ _ => L - (intOf i).toNat)
  case atStart => exact ⟨0, [], rfl, Nat.zero_le _, ⟨rfl, World.ownsRow_nil _ _ _ _, by simp⟩, Below.refl _ _⟩
  case round =>
    rename World => W
    obtain ⟨k, ds, rfl, hk, HFA, HBW⟩ := hrel
    have HW0 : Hid (Rd T w0 d fb m (.slice af m.fl.length cf) vn vs vc) := HH.out.below H0.out.2
    have HW : Hid (Rd T W d fb m (.slice af m.fl.length cf) vn vs vc) := HW0.out.below HBW.out
    have HOE : Hid (W.ownsRow w.heap.size 98 2 (.slice an L cn) L (enRow m.su)) := (Keep.below (bs := []) HBW.out).own H0.out.1 (by simp)
    have t1 := (HW.out.top.2 1 (by omega)).1
    simp only [rcell] at t1
    rw [HFL.out] at t1
    by_cases hlt : k < L
    · have hlt' : (k : Int) < (L : Int) := by omega
      obtain ⟨p, hp⟩ : ∃ p, m.su[k]? = some p := ⟨_, List.getElem?_eq_getElem (by rw [HL.out]; exact hlt)⟩
      have hpm : p ∈ m.su := List.mem_of_getElem? hp
      have hid := HW.out.idsS p hpm
      obtain ⟨f, hf⟩ : ∃ f, m.fl[p.2]? = some f := ⟨_, List.getElem?_eq_getElem hid⟩
      obtain ⟨a, cc, hfi⟩ := HW.out.file p.2 f hf
      obtain ⟨hxx, hcn, hE⟩ := enR_own HOE.out
      clear hxx
      obtain ⟨gn, rfl, hcell⟩ := hE (by intro e; rw [e] at hp; simp at hp)
      obtain ⟨e0, e1⟩ := hcell k p hp
      obtain ⟨gf, hgf, q0, hcf⟩ : ∃ gf, af = some ⟨gf, 0, none⟩ ∧ W.cell? ⟨gf, p.2, none⟩ = some (.pointer (some ⟨fb p.2, 0, none⟩)) ∧ F ≤ cf := by
        rcases HW.out.fls.2 with ⟨e, e0⟩ | ⟨g, cap, cur, e, q1, q2, q3, q4, q5, q6⟩
        · omega
        · obtain ⟨e1, _, e3⟩ := Value.slice.inj e
          refine ⟨g, e1, ?_, by rw [← HFL.out, e3]; exact q3⟩
          rw [Go.Joins.cell_of_block q2]
          have := ptrRow_get (fb := fb) hid
          rw [← q6, List.getElem?_take] at this
          split at this
          · simpa using this
          · cases this
      subst hgf
      have cf0 := (hfi.fld.2 0 (by omega)).1
      have cf1 := (hfi.fld.2 1 (by omega)).1
      simp only [fcell, if_true, Nat.one_ne_zero, if_false] at cf0 cf1
      have hbig := hfi.big
      have HFI : Hid (FileAt T W (fb p.2) p.2 f a cc) := hfi
      have HTK : Hid ((m.image0.take k).length = k) := by
        show _ = _
        rw [List.length_take]; simp [Rm.image0]; rw [HL.out]; omega
      have HNX : Hid (m.image0.take (k + 1) = m.image0.take k ++ [⟨ofK p.1, f.data.take f.sure, f.sure⟩]) := by
        show _ = _
        rw [List.take_add_one]
        congr 1
        simp [Rm.image0, hp, dataOf, sureOf, hf]
      rw [HFL.out] at hid
      have hid' : (p.2 : Int) < (F : Int) := by omega
      have hWs := HBW.out.size
      obtain ⟨au, cu, hu⟩ := own_slice HFA.out.row
      rw [HTK.out] at hu
      subst hu
      have HO : Hid (W.ownsRow w0.heap.size 67 3 (.slice au k cu) k (fiRow (m.image0.take k) ds)) := by
        have z := HFA.out.row
        rw [HTK.out] at z
        exact z
      obtain ⟨nm, hnm⟩ : ∃ nm, nm = ofK p.1 := ⟨_, rfl⟩
      obtain ⟨pi, hpi⟩ : ∃ pi, pi = p.2 := ⟨_, rfl⟩
      rw [← hnm] at e0 HNX
      rw [← hpi] at e1 q0 cf0 cf1 hid hid' HFI
      clear hcell hE hf hp hpm hfi hnm hpi
      have hsr := HFI.out.sure
      have hwr : IntKind.i64.wrap ((f.sure : Int) + 0) = (f.sure : Int) := by rw [Int.add_zero]; exact IntWalk.i64_in _ (by omega)
      have hwr' : IntKind.i64.wrap (f.sure : Int) = (f.sure : Int) := IntWalk.i64_in _ (by omega)
      go_wp2
      go_quiet (fail)
      go_wp2
      have HBN : Hid (Below W.heap.size W (W.drewN nq).drew) := (below_drewN (Below.refl _ _) nq).drew
      have hgl : gn < W.heap.size := World.block_lt_of_cell? W _ e0
      have hfl := HFI.out.fld.1
      have hlc : f.data.length ≤ cc := HFI.out.own.le
      have hsc : (f.sure : Int) ≤ (cc : Int) := by omega
      have HTL : Hid ((f.data.take f.sure).length = f.sure) := by
        show _ = _
        rw [List.length_take]; omega
      go_region_law (refine step_cloneB _ (by rfl) (.const (.slice none 0 0)) (.tmp 65) 30 (by rfl) 5 i8 Try.underlying30 hi8 hy0 hy1 hy2 (by rfl) a f.sure cc (f.data.take f.sure) (by simp [Act.eval, Act.put]) HTL.out.symm HFI.out.own.cap (HFI.out.own.isB.take _) (by omega) ?_; intro a1 c1' W1 hn1 hb1; have hb1' : Below W.heap.size W W1 := HBN.out.trans hb1; have HC : Hid (New 5 W.heap.size W1 a1 c1' (f.data.take f.sure) ∧ Below W.heap.size W W1 ∧ W1.ownsRow w0.heap.size 67 3 (.slice au k cu) k (fiRow (m.image0.take k) ds)) := ⟨hn1, hb1', (Keep.below (bs := []) hb1').own HO.out (by simp)⟩; have d0 : W1.cell? ⟨gn, k * 2, none⟩ = some (.string nm) := (hb1'.cell (p := ⟨gn, k * 2, none⟩) hgl).trans e0; rw [HTL.out]; clear hn1 hb1 hb1')
      all_goals
        go_wp2_with (at_builtin; refine wpList_app _ (by rfl) (.tmp 67) (.tmp 77) 22 (by rfl) w0.heap.size 67 i3 _ 3 48 Try.underlying22 hi3 hz0 hz1 hz2 rfl (by omega) (.slice au k cu) k (fiRow (m.image0.take k) ds) (by rfl) (HC.out.2.2.alloc _) ⟨W1.heap.size, 0, none⟩ 1 1 [.string nm, .slice a1 f.sure c1', .int .i64 f.sure] (by rfl) (by rfl) (World.news_of_block (heap_alloc_new W1 _)) (by intro u hu; simp at hu; rcases hu with rfl | rfl | rfl <;> rfl) (by intro _; omega) (by unfold maxLen; omega) (by omega) (Nat.le_trans (Nat.le_trans hWs HC.out.2.1.size) (Keep.alloc [] _ _).size) (W1.heap.size + 1) (by simp) ?_; intro g7 c7 w7 hown7 hgr7 hat7 hlt7; have HR : Hid (FilesAt w0.heap.size w7 (.slice (some ⟨g7, 0, none⟩) (k + 1) c7) (m.image0.take k ++ [⟨nm, f.data.take f.sure, f.sure⟩]) (ds ++ [(a1, c1')]) ∧ Keep (Value.slice au k cu).ownBlock.toList W w7) := ⟨(by have z := HFA.out.push HC.out.2.1 hWs (f := ⟨nm, f.data.take f.sure, f.sure⟩) HC.out.1 (Keep.alloc [] _ _) hgr7 (c' := c7) (by rw [HTK.out]; show w7.ownsRow _ _ _ _ _ (_ ++ [.string nm, .slice a1 (f.data.take f.sure).length c1', .int .i64 f.sure]); rw [HTL.out]; exact hown7) (hat7.imp id (by intro e; omega)); rw [HTK.out] at z; exact z), (Keep.below HC.out.2.1).trans ((Keep.alloc _ _ _).trans (Keep.grown hgr7))⟩; clear hown7 hgr7 hat7 hlt7)
        go_roundw
        case rel =>
          refine ⟨k + 1, ds ++ [(a1, c1')], by go_num, hlt, ?_, ?_⟩
          · show FilesAt _ _ _ _ _
            rw [HNX.out]; exact HR.out.1
          · refine HBW.out.trans ⟨HR.out.2.os, HR.out.2.tape, HR.out.2.output, HR.out.2.size, fun b hb => HR.out.2.block b (by omega) (fun hm => ?_)⟩
            have := (HO.out.lt b (by simpa using hm)).1
            omega
        case measure => simp [intOf]; omega
    · have hk' : k = L := by omega
      subst hk'
      go_wp2
      go_ret
      refine ⟨_, ds, rfl, ?_, ?_⟩
      rotate_left
      · exact H0.out.2.trans (HBW.out.mono H0.out.2.size)
      have e : m.image0.take k = m.image0 := List.take_of_length_le (by simp [Rm.image0]; rw [HL.out]; exact Nat.le_refl _)
      have := HFA.out
      rw [e] at this
      exact this.lower H0.out.2.size
end Dsk
end Go.Proofs.Ytbloifnibgdeoaa
