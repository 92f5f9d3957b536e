import Derived.Test.YtebfokjgeknciabGreatDoorPcG
import Derived.Test.YtebfokjgeknciabGreatDoorPc9
import Derived.Test.YtebfokjgeknciabGreatDoorPcL
namespace Go.Proofs.YtebfokjgeknciabGreatDoor
namespace Pcm
open Go.RowKit Laws Irw
set_option linter.unusedVariables false
set_option linter.unusedSimpArgs false
set_option maxRecDepth 20000

theorem fbad_at {l : List Fd} {k : Nat} {t : Fd} (ht : l[k]? = some t) (hb : badF t = true) (h : ∀ (j : Nat) (u : Fd), j < k → l[j]? = some u → badF u = false) : fbad l = some k := by
  unfold fbad
  rw [List.findIdx?_eq_some_iff_getElem]
  obtain ⟨hk, rfl⟩ := List.getElem?_eq_some_iff.1 ht
  exact ⟨hk, hb, fun j hj => by
    have hj' : j < l.length := by omega
    have := h j _ hj (List.getElem?_eq_getElem hj')
    simp [this]⟩
theorem fbad_none {l : List Fd} (h : ∀ (j : Nat) (u : Fd), l[j]? = some u → badF u = false) : fbad l = none := by
  unfold fbad
  rw [List.findIdx?_eq_none_iff]
  intro x hx
  obtain ⟨j, hj, rfl⟩ := List.mem_iff_getElem.1 hx
  exact h j _ (List.getElem?_eq_getElem hj)
theorem ck_some {c : Cf} {k : Nat} (h : bad c = some k) : ckN c = k ∧ ckE c = 150 := by unfold ckN ckE; rw [h]; exact ⟨rfl, rfl⟩
theorem ck_none {c : Cf} (h : bad c = none) : ckN c = 0 ∧ ckE c = 0 := by unfold ckN ckE; rw [h]; exact ⟨rfl, rfl⟩
set_option maxHeartbeats 4000000 in
theorem check_any (c : Cf) (hc : RC c) (w : World) :
    Calls Tryz.prog 15 #[.agg (cfgA c)] w fun e w' => e = .returned (.tuple #[.int .i64 (ckN c), .int .i64 (ckE c)]) ∧ Below w.heap.size w w' := by
  have HC := hid hc
  clear hc
  have hL0 := lc_new w c 65
  have HB0 : Hid (Below w.heap.size w (w.alloc (.cells (cfgA c) 65))) := (Below.refl _ _).alloc (Nat.le_refl _) _
  have HL : Hid ((flds c (pX c)).length = 27) := flds_len c _
  go_enter Tryz.func15, Tryz.ntmps15
  go_wp2_with (first | (refine wpList_cfg (by rfl) _ (by rfl) (by rfl) hL0 ?_) | (go_at_call 53; go_loud (refine (fields_any c HC.out _).mono ?_; rintro e w1 ⟨b, rfl, hr, hb1⟩; have HB1 : Hid (Below w.heap.size w w1) := HB0.out.trans (hb1.mono HB0.out.size); have HR := hid hr; clear hb1 hr)))
  clear hL0
  have HBAD : Hid (bad c = fbad (flds c (pX c))) := hid rfl
  generalize flds c (pX c) = l at *
  go_loopw [9] (fun i V => ∃ k : Nat, k ≤ 27 ∧ i = .int .i64 k ∧ (∀ (j : Nat) (u : Fd), j < k → l[j]? = some u → badF u = false) ∧ Below w1.heap.size w1 V) (fun i _ => 27 - (intOf i).toNat)
  case atStart => exact ⟨0, by omega, rfl, fun j u hj => by omega, Below.refl _ _⟩
  case round =>
    obtain ⟨k, hk, rfl, hgood, hbe⟩ := hrel
    have HGD := hid hgood
    have HBV : Hid (Below w.heap.size w wr) := HB1.out.trans (hbe.mono HB1.out.size)
    have HB := hid hbe
    clear hgood
    by_cases hlt : k < 27
    · obtain ⟨tt, ht⟩ : ∃ x, l[k]? = some x := ⟨_, List.getElem?_eq_getElem (by rw [HL.out]; exact hlt)⟩
      obtain ⟨x, lo, hi⟩ := tt
      have hrow := HR.out.below hbe
      have hbz := hrow.1
      obtain ⟨c0, c1, c2⟩ := hrow.2 k _ ht
      dsimp only at c0 c1 c2
      have HT := hid ht
      have q1 : (k : Int) < 27 := by omega
      clear ht hbe hrow
      by_cases h1 : x < lo
      · have HE : Hid (bad c = some k) := HBAD.out.trans (fbad_at HT.out (by simp [badF, h1]) HGD.out)
        go_wp2
        go_ret2
        obtain ⟨e1, e2⟩ := ck_some HE.out
        exact ⟨by rw [e1, e2]; rfl, HBV.out.alloc HBV.out.size _⟩
      · have h1' : decide (x < lo) = false := by simpa using h1
        by_cases h2 : hi < x
        · have HE : Hid (bad c = some k) := HBAD.out.trans (fbad_at HT.out (by simp [badF, h2]) HGD.out)
          go_wp2
          go_ret2
          obtain ⟨e1, e2⟩ := ck_some HE.out
          exact ⟨by rw [e1, e2]; rfl, HBV.out.alloc HBV.out.size _⟩
        · have HE : Hid (badF (x, lo, hi) = false) := hid (by simp [badF]; omega)
          go_wp2
          go_roundw
          case rel =>
            refine ⟨k + 1, by omega, by go_num, fun j u hj hu => ?_, HB.out.alloc HB.out.size _⟩
            by_cases e : j = k
            · subst e
              rw [HT.out] at hu
              cases hu
              exact HE.out
            · exact HGD.out j u (by omega) hu
          case measure => simp [intOf]; omega
    · have HE : Hid (bad c = none) := HBAD.out.trans (fbad_none fun j u hu => HGD.out j u (by have := (List.getElem?_eq_some_iff.1 hu).1; rw [HL.out] at this; omega) hu)
      go_wp2
      go_ret2
      obtain ⟨e1, e2⟩ := ck_none HE.out
      exact ⟨by rw [e1, e2]; rfl, HBV.out⟩

end Pcm
end Go.Proofs.YtebfokjgeknciabGreatDoor
namespace Go.Proofs.YtebfokjgeknciabGreatDoor
namespace Pcm
open Go.RowKit Laws Irw
set_option linter.unusedVariables false
set_option linter.unusedSimpArgs false
set_option maxRecDepth 20000

/-- what a formula comes to: 0 where the configuration isn't right -/
def rk (c : Cf) (x : Int) : Int := if bad c = none then x else 0
set_option maxHeartbeats 2000000 in
theorem reckoned_no (c : Cf) (hc : RC c) (fv : Value) (h : bad c ≠ none) (w : World) :
    Calls Tryz.prog 54 #[.agg (cfgA c), fv] w fun e w' => e = .returned (.int .i64 0) ∧ Below w.heap.size w w' := by
  have HC := hid hc
  clear hc
  have hL0 := lc_new w c 65
  have HB0 : Hid (Below w.heap.size w (w.alloc (.cells (cfgA c) 65))) := (Below.refl _ _).alloc (Nat.le_refl _) _
  have he : ckE c = 150 := by
    cases hb : bad c with
    | none => exact absurd hb h
    | some k => exact (ck_some hb).2
  have HK : ∀ W, Calls Tryz.prog 15 #[.agg (cfgA c)] W fun e w' => e = .returned (.tuple #[.int .i64 (ckN c), .int .i64 150]) ∧ Below W.heap.size W w' := fun W => by have := check_any c HC.out W; rwa [he] at this
  clear h he
  go_enter Tryz.func54, Tryz.ntmps54
  go_wp2_with (first | (refine wpList_cfg (by rfl) _ (by rfl) (by rfl) hL0 ?_) | (go_at_call 15; go_loud (refine (HK _).mono ?_; rintro e w1 ⟨rfl, hb1⟩; have HB1 : Hid (Below w.heap.size w w1) := HB0.out.trans (hb1.mono HB0.out.size); clear hb1)))
  go_ret
  exact ⟨rfl, HB1.out⟩

set_option maxHeartbeats 2000000 in
theorem reckoned_limitSum (c : Cf) (hc : RC c) (hb : bad c = none) (w : World) :
    Calls Tryz.prog 54 #[.agg (cfgA c), .func (.func 56) #[] #[]] w fun e w' => e = .returned (.int .i64 (plsum c)) ∧ Below w.heap.size w w' := by
  have HC := hid hc
  have HR := hid (right_of hb)
  clear hc
  have hL0 := lc_new w c 65
  have hz0 : w.heap.size < (w.alloc (.cells (cfgA c) 65)).heap.size := by simp
  have HB0 : Hid (Below w.heap.size w (w.alloc (.cells (cfgA c) 65))) := (Below.refl _ _).alloc (Nat.le_refl _) _
  have he : ckE c = 0 := (ck_none hb).2
  have HK : ∀ W, Calls Tryz.prog 15 #[.agg (cfgA c)] W fun e w' => e = .returned (.tuple #[.int .i64 (ckN c), .int .i64 0]) ∧ Below W.heap.size W w' := fun W => by have := check_any c HC.out W; rwa [he] at this
  clear hb he
  go_enter Tryz.func54, Tryz.ntmps54
  go_wp2_with (first | (refine wpList_cfg (by rfl) _ (by rfl) (by rfl) hL0 ?_) | (revert HB1; intro HB1; refine wpList_cfg (by rfl) _ (by rfl) (by rfl) hL1 ?_) | (go_at_call 15; go_loud (refine (HK _).mono ?_; rintro e w1 ⟨rfl, hb1⟩; have HB1 : Hid (Below w.heap.size w w1) := HB0.out.trans (hb1.mono HB0.out.size); have hL1 := hL0.keep hz0 hb1; clear hb1)) | (go_at_call 85; go_loud (refine (figuresOf_any c _).mono ?_; rintro e w2 ⟨rfl, hb2⟩; have HB2 : Hid (Below w.heap.size w w2) := HB1.out.trans (hb2.mono HB1.out.size); clear hb2)) | (go_at_call 56; go_loud (refine (limitSum_any c HC.out HR.out _).mono ?_; rintro e w3 ⟨rfl, hb3⟩; have HB3 : Hid (Below w.heap.size w w3) := HB2.out.trans (hb3.mono HB2.out.size); clear hb3)))
  go_ret
  exact ⟨rfl, HB3.out⟩

set_option maxHeartbeats 2000000 in
theorem reckoned_fileCap (c : Cf) (hc : RC c) (hb : bad c = none) (w : World) :
    Calls Tryz.prog 54 #[.agg (cfgA c), .func (.func 57) #[] #[]] w fun e w' => e = .returned (.int .i64 (pfile c)) ∧ Below w.heap.size w w' := by
  have HC := hid hc
  have HR := hid (right_of hb)
  clear hc
  have hL0 := lc_new w c 65
  have hz0 : w.heap.size < (w.alloc (.cells (cfgA c) 65)).heap.size := by simp
  have HB0 : Hid (Below w.heap.size w (w.alloc (.cells (cfgA c) 65))) := (Below.refl _ _).alloc (Nat.le_refl _) _
  have he : ckE c = 0 := (ck_none hb).2
  have HK : ∀ W, Calls Tryz.prog 15 #[.agg (cfgA c)] W fun e w' => e = .returned (.tuple #[.int .i64 (ckN c), .int .i64 0]) ∧ Below W.heap.size W w' := fun W => by have := check_any c HC.out W; rwa [he] at this
  clear hb he
  go_enter Tryz.func54, Tryz.ntmps54
  go_wp2_with (first | (refine wpList_cfg (by rfl) _ (by rfl) (by rfl) hL0 ?_) | (revert HB1; intro HB1; refine wpList_cfg (by rfl) _ (by rfl) (by rfl) hL1 ?_) | (go_at_call 15; go_loud (refine (HK _).mono ?_; rintro e w1 ⟨rfl, hb1⟩; have HB1 : Hid (Below w.heap.size w w1) := HB0.out.trans (hb1.mono HB0.out.size); have hL1 := hL0.keep hz0 hb1; clear hb1)) | (go_at_call 85; go_loud (refine (figuresOf_any c _).mono ?_; rintro e w2 ⟨rfl, hb2⟩; have HB2 : Hid (Below w.heap.size w w2) := HB1.out.trans (hb2.mono HB1.out.size); clear hb2)) | (go_at_call 57; go_loud (refine (fileCap_any c HC.out HR.out _).mono ?_; rintro e w3 ⟨rfl, hb3⟩; have HB3 : Hid (Below w.heap.size w w3) := HB2.out.trans (hb3.mono HB2.out.size); clear hb3)))
  go_ret
  exact ⟨rfl, HB3.out⟩

set_option maxHeartbeats 2000000 in
theorem reckoned_debtCap (c : Cf) (hc : RC c) (hb : bad c = none) (w : World) :
    Calls Tryz.prog 54 #[.agg (cfgA c), .func (.func 58) #[] #[]] w fun e w' => e = .returned (.int .i64 (pdebt c)) ∧ Below w.heap.size w w' := by
  have HC := hid hc
  have HR := hid (right_of hb)
  clear hc
  have hL0 := lc_new w c 65
  have hz0 : w.heap.size < (w.alloc (.cells (cfgA c) 65)).heap.size := by simp
  have HB0 : Hid (Below w.heap.size w (w.alloc (.cells (cfgA c) 65))) := (Below.refl _ _).alloc (Nat.le_refl _) _
  have he : ckE c = 0 := (ck_none hb).2
  have HK : ∀ W, Calls Tryz.prog 15 #[.agg (cfgA c)] W fun e w' => e = .returned (.tuple #[.int .i64 (ckN c), .int .i64 0]) ∧ Below W.heap.size W w' := fun W => by have := check_any c HC.out W; rwa [he] at this
  clear hb he
  go_enter Tryz.func54, Tryz.ntmps54
  go_wp2_with (first | (refine wpList_cfg (by rfl) _ (by rfl) (by rfl) hL0 ?_) | (revert HB1; intro HB1; refine wpList_cfg (by rfl) _ (by rfl) (by rfl) hL1 ?_) | (go_at_call 15; go_loud (refine (HK _).mono ?_; rintro e w1 ⟨rfl, hb1⟩; have HB1 : Hid (Below w.heap.size w w1) := HB0.out.trans (hb1.mono HB0.out.size); have hL1 := hL0.keep hz0 hb1; clear hb1)) | (go_at_call 85; go_loud (refine (figuresOf_any c _).mono ?_; rintro e w2 ⟨rfl, hb2⟩; have HB2 : Hid (Below w.heap.size w w2) := HB1.out.trans (hb2.mono HB1.out.size); clear hb2)) | (go_at_call 58; go_loud (refine (debtCap_any c HC.out HR.out _).mono ?_; rintro e w3 ⟨rfl, hb3⟩; have HB3 : Hid (Below w.heap.size w w3) := HB2.out.trans (hb3.mono HB2.out.size); clear hb3)))
  go_ret
  exact ⟨rfl, HB3.out⟩

set_option maxHeartbeats 2000000 in
theorem reckoned_memCap (c : Cf) (hc : RC c) (hb : bad c = none) (w : World) :
    Calls Tryz.prog 54 #[.agg (cfgA c), .func (.func 55) #[] #[]] w fun e w' => e = .returned (.int .i64 (pmem c)) ∧ Below w.heap.size w w' := by
  have HC := hid hc
  have HR := hid (right_of hb)
  clear hc
  have hL0 := lc_new w c 65
  have hz0 : w.heap.size < (w.alloc (.cells (cfgA c) 65)).heap.size := by simp
  have HB0 : Hid (Below w.heap.size w (w.alloc (.cells (cfgA c) 65))) := (Below.refl _ _).alloc (Nat.le_refl _) _
  have he : ckE c = 0 := (ck_none hb).2
  have HK : ∀ W, Calls Tryz.prog 15 #[.agg (cfgA c)] W fun e w' => e = .returned (.tuple #[.int .i64 (ckN c), .int .i64 0]) ∧ Below W.heap.size W w' := fun W => by have := check_any c HC.out W; rwa [he] at this
  clear hb he
  go_enter Tryz.func54, Tryz.ntmps54
  go_wp2_with (first | (refine wpList_cfg (by rfl) _ (by rfl) (by rfl) hL0 ?_) | (revert HB1; intro HB1; refine wpList_cfg (by rfl) _ (by rfl) (by rfl) hL1 ?_) | (go_at_call 15; go_loud (refine (HK _).mono ?_; rintro e w1 ⟨rfl, hb1⟩; have HB1 : Hid (Below w.heap.size w w1) := HB0.out.trans (hb1.mono HB0.out.size); have hL1 := hL0.keep hz0 hb1; clear hb1)) | (go_at_call 85; go_loud (refine (figuresOf_any c _).mono ?_; rintro e w2 ⟨rfl, hb2⟩; have HB2 : Hid (Below w.heap.size w w2) := HB1.out.trans (hb2.mono HB1.out.size); clear hb2)) | (go_at_call 55; go_loud (refine (memCap_any c HC.out _).mono ?_; rintro e w3 ⟨rfl, hb3⟩; have HB3 : Hid (Below w.heap.size w w3) := HB2.out.trans (hb3.mono HB2.out.size); clear hb3)))
  go_ret
  exact ⟨rfl, HB3.out⟩

end Pcm
end Go.Proofs.YtebfokjgeknciabGreatDoor
namespace Go.Proofs.YtebfokjgeknciabGreatDoor
namespace Pcm
open Go.RowKit Laws Irw
set_option linter.unusedVariables false
set_option linter.unusedSimpArgs false
set_option maxRecDepth 20000

theorem max_r {x : Int} (h : R64 x) : R64 (max x 0) := by unfold R64 at *; omega
theorem max_nn (x : Int) : 0 ≤ max x 0 := by omega
theorem countedB (a : Int) (w : World) : Calls Tryz.prog 23 #[.int .i64 a] w fun e w' => e = .returned (.int .i64 (max a 0)) ∧ Below w.heap.size w w' := (counted_any a w).mono fun e w' ⟨he, hw⟩ => ⟨he, by rw [hw]; exact Below.refl _ _⟩
def Sx (W : World) (B b : Nat) (c : Cf) (x : Int) (V : World) : Prop := Lf V B c ∧ V.cell? ⟨b, 0, none⟩ = some (.int .i64 x) ∧ Below W.heap.size W V
theorem Sx.mk {W V : World} {B b : Nat} {c : Cf} {x : Int} (h : Lf W B c) (hz : B < W.heap.size) (hx : W.cell? ⟨b, 0, none⟩ = some (.int .i64 x)) (hb : Below W.heap.size W V) : Sx W B b c x V :=
  ⟨h.keep hz hb, (hb.cell (p := ⟨b, 0, none⟩) (World.block_lt_of_cell? W _ hx)).trans hx, hb⟩
theorem Sx.below {W V : World} {B b : Nat} {c : Cf} {x : Int} (h : Sx W B b c x V) : Below W.heap.size W V := h.2.2

end Pcm
end Go.Proofs.YtebfokjgeknciabGreatDoor
namespace Go.Proofs.YtebfokjgeknciabGreatDoor
namespace Pcm
open Go.RowKit Laws Irw
set_option linter.unusedVariables false
set_option linter.unusedSimpArgs false
set_option maxRecDepth 20000

def Sy (W : World) (B b d : Nat) (c : Cf) (x y : Int) (V : World) : Prop := Lf V B c ∧ V.cell? ⟨b, 0, none⟩ = some (.int .i64 x) ∧ V.cell? ⟨d, 0, none⟩ = some (.int .i64 y) ∧ Below W.heap.size W V
theorem Sy.mk {W V : World} {B b d : Nat} {c : Cf} {x y : Int} (h : Lf W B c) (hz : B < W.heap.size) (hx : W.cell? ⟨b, 0, none⟩ = some (.int .i64 x)) (hy : W.cell? ⟨d, 0, none⟩ = some (.int .i64 y)) (hb : Below W.heap.size W V) : Sy W B b d c x y V :=
  ⟨h.keep hz hb, (hb.cell (p := ⟨b, 0, none⟩) (World.block_lt_of_cell? W _ hx)).trans hx, (hb.cell (p := ⟨d, 0, none⟩) (World.block_lt_of_cell? W _ hy)).trans hy, hb⟩
theorem Sy.below {W V : World} {B b d : Nat} {c : Cf} {x y : Int} (h : Sy W B b d c x y V) : Below W.heap.size W V := h.2.2.2
theorem rk_yes {c : Cf} {x : Int} (h : bad c = none) : rk c x = x := by unfold rk; rw [if_pos h]
theorem rk_no {c : Cf} {x : Int} (h : bad c ≠ none) : rk c x = 0 := by unfold rk; rw [if_neg h]
set_option maxHeartbeats 2000000 in
theorem limitSumF_any (c : Cf) (hc : RC c) (w : World) :
    Calls Tryz.prog 17 #[.agg (cfgA c)] w fun e w' => e = .returned (.int .i64 (rk c (plsum c))) ∧ Below w.heap.size w w' := by
  have HC := hid hc
  clear hc
  have hL0 : Lc (w.alloc (.cells (cfgA c) 65)) w.heap.size c := (lc_new w c 65)
  have HB0 : Hid (Below w.heap.size w (w.alloc (.cells (cfgA c) 65))) := (Below.refl _ _).alloc (Nat.le_refl _) _
  by_cases hb : bad c = none
  · rw [rk_yes hb]
    have HK : ∀ W, Below w.heap.size w W → True := fun _ _ => trivial
    clear HK
    go_enter Tryz.func17, Tryz.ntmps17
    go_wp2_with (first | (refine wpList_cfg (by rfl) _ (by rfl) (by rfl) hL0 ?_) | (go_at_call 54; go_loud (refine (reckoned_limitSum c HC.out hb _).mono ?_; rintro e w1 ⟨rfl, hb1⟩; have HB1 : Hid (Below w.heap.size w w1) := HB0.out.trans (hb1.mono HB0.out.size); clear hb1)))
    go_ret
    exact ⟨rfl, HB1.out⟩
  · rw [rk_no hb]
    go_enter Tryz.func17, Tryz.ntmps17
    go_wp2_with (first | (refine wpList_cfg (by rfl) _ (by rfl) (by rfl) hL0 ?_) | (go_at_call 54; go_loud (refine (reckoned_no c HC.out _ hb _).mono ?_; rintro e w1 ⟨rfl, hb1⟩; have HB1 : Hid (Below w.heap.size w w1) := HB0.out.trans (hb1.mono HB0.out.size); clear hb1)))
    go_ret
    exact ⟨rfl, HB1.out⟩

set_option maxHeartbeats 2000000 in
theorem memCapF_any (c : Cf) (hc : RC c) (w : World) :
    Calls Tryz.prog 16 #[.agg (cfgA c)] w fun e w' => e = .returned (.int .i64 (rk c (pmem c))) ∧ Below w.heap.size w w' := by
  have HC := hid hc
  clear hc
  have hL0 : Lc (w.alloc (.cells (cfgA c) 65)) w.heap.size c := (lc_new w c 65)
  have HB0 : Hid (Below w.heap.size w (w.alloc (.cells (cfgA c) 65))) := (Below.refl _ _).alloc (Nat.le_refl _) _
  by_cases hb : bad c = none
  · rw [rk_yes hb]
    have HK : ∀ W, Below w.heap.size w W → True := fun _ _ => trivial
    clear HK
    go_enter Tryz.func16, Tryz.ntmps16
    go_wp2_with (first | (refine wpList_cfg (by rfl) _ (by rfl) (by rfl) hL0 ?_) | (go_at_call 54; go_loud (refine (reckoned_memCap c HC.out hb _).mono ?_; rintro e w1 ⟨rfl, hb1⟩; have HB1 : Hid (Below w.heap.size w w1) := HB0.out.trans (hb1.mono HB0.out.size); clear hb1)))
    go_ret
    exact ⟨rfl, HB1.out⟩
  · rw [rk_no hb]
    go_enter Tryz.func16, Tryz.ntmps16
    go_wp2_with (first | (refine wpList_cfg (by rfl) _ (by rfl) (by rfl) hL0 ?_) | (go_at_call 54; go_loud (refine (reckoned_no c HC.out _ hb _).mono ?_; rintro e w1 ⟨rfl, hb1⟩; have HB1 : Hid (Below w.heap.size w w1) := HB0.out.trans (hb1.mono HB0.out.size); clear hb1)))
    go_ret
    exact ⟨rfl, HB1.out⟩

set_option maxHeartbeats 2000000 in
theorem fileCapF_any (c : Cf) (hc : RC c) (w : World) :
    Calls Tryz.prog 18 #[.agg (cfgA c)] w fun e w' => e = .returned (.int .i64 (rk c (pfile c))) ∧ Below w.heap.size w w' := by
  have HC := hid hc
  clear hc
  have hL0 : Lc (w.alloc (.cells (cfgA c) 65)) w.heap.size c := (lc_new w c 65)
  have HB0 : Hid (Below w.heap.size w (w.alloc (.cells (cfgA c) 65))) := (Below.refl _ _).alloc (Nat.le_refl _) _
  by_cases hb : bad c = none
  · rw [rk_yes hb]
    have HK : ∀ W, Below w.heap.size w W → True := fun _ _ => trivial
    clear HK
    go_enter Tryz.func18, Tryz.ntmps18
    go_wp2_with (first | (refine wpList_cfg (by rfl) _ (by rfl) (by rfl) hL0 ?_) | (go_at_call 54; go_loud (refine (reckoned_fileCap c HC.out hb _).mono ?_; rintro e w1 ⟨rfl, hb1⟩; have HB1 : Hid (Below w.heap.size w w1) := HB0.out.trans (hb1.mono HB0.out.size); clear hb1)))
    go_ret
    exact ⟨rfl, HB1.out⟩
  · rw [rk_no hb]
    go_enter Tryz.func18, Tryz.ntmps18
    go_wp2_with (first | (refine wpList_cfg (by rfl) _ (by rfl) (by rfl) hL0 ?_) | (go_at_call 54; go_loud (refine (reckoned_no c HC.out _ hb _).mono ?_; rintro e w1 ⟨rfl, hb1⟩; have HB1 : Hid (Below w.heap.size w w1) := HB0.out.trans (hb1.mono HB0.out.size); clear hb1)))
    go_ret
    exact ⟨rfl, HB1.out⟩

set_option maxHeartbeats 2000000 in
theorem debtCapF_any (c : Cf) (hc : RC c) (w : World) :
    Calls Tryz.prog 19 #[.agg (cfgA c)] w fun e w' => e = .returned (.int .i64 (rk c (pdebt c))) ∧ Below w.heap.size w w' := by
  have HC := hid hc
  clear hc
  have hL0 : Lc (w.alloc (.cells (cfgA c) 65)) w.heap.size c := (lc_new w c 65)
  have HB0 : Hid (Below w.heap.size w (w.alloc (.cells (cfgA c) 65))) := (Below.refl _ _).alloc (Nat.le_refl _) _
  by_cases hb : bad c = none
  · rw [rk_yes hb]
    have HK : ∀ W, Below w.heap.size w W → True := fun _ _ => trivial
    clear HK
    go_enter Tryz.func19, Tryz.ntmps19
    go_wp2_with (first | (refine wpList_cfg (by rfl) _ (by rfl) (by rfl) hL0 ?_) | (go_at_call 54; go_loud (refine (reckoned_debtCap c HC.out hb _).mono ?_; rintro e w1 ⟨rfl, hb1⟩; have HB1 : Hid (Below w.heap.size w w1) := HB0.out.trans (hb1.mono HB0.out.size); clear hb1)))
    go_ret
    exact ⟨rfl, HB1.out⟩
  · rw [rk_no hb]
    go_enter Tryz.func19, Tryz.ntmps19
    go_wp2_with (first | (refine wpList_cfg (by rfl) _ (by rfl) (by rfl) hL0 ?_) | (go_at_call 54; go_loud (refine (reckoned_no c HC.out _ hb _).mono ?_; rintro e w1 ⟨rfl, hb1⟩; have HB1 : Hid (Below w.heap.size w w1) := HB0.out.trans (hb1.mono HB0.out.size); clear hb1)))
    go_ret
    exact ⟨rfl, HB1.out⟩

end Pcm
end Go.Proofs.YtebfokjgeknciabGreatDoor
