import Derived.Test.YtebfokjgeknciabPcH
import Derived.Test.YtebfokjgeknciabPc9
import Derived.Test.YtebfokjgeknciabPcL
namespace Go.Proofs.Ytebfokjgeknciab
namespace Pcm
open Go.RowKit Laws Irw
set_option linter.unusedVariables false
set_option linter.unusedSimpArgs false
set_option maxRecDepth 20000

/-- what a formula comes to: 0 where the configuration isn't right -/
def rk (c : Cf) (x : Int) : Int := if bad c = none then x else 0
set_option maxHeartbeats 2000000 in
theorem reckoned_no (c : Cf) (hc : RC c) (fv : Value) (h : bad c ≠ none) (w : World) :
    Calls Try.prog 28 #[.agg (cfgA c), fv] w fun e w' => e = .returned (.int .i64 0) ∧ Below w.heap.size w w' := by
  have HC := hid hc
  clear hc
  have hL0 := lc_new w c 38
  have HB0 : Hid (Below w.heap.size w (w.alloc (.cells (cfgA c) 38))) := (Below.refl _ _).alloc (Nat.le_refl _) _
  have he : ckE c = 150 := by
    cases hb : bad c with
    | none => exact absurd hb h
    | some k => exact (ck_some hb).2
  have HK : ∀ W, Calls Try.prog 15 #[.agg (cfgA c)] W fun e w' => e = .returned (.tuple #[.int .i64 (ckN c), .int .i64 150]) ∧ Below W.heap.size W w' := fun W => by have := check_any c HC.out W; rwa [he] at this
  clear h he
  go_enter Try.func28, Try.ntmps28
  go_wp2_with (first | (refine wpList_cfg (by rfl) _ (by rfl) (by rfl) hL0 ?_) | (go_at_call 15; go_loud (refine (HK _).mono ?_; rintro e w1 ⟨rfl, hb1⟩; have HB1 : Hid (Below w.heap.size w w1) := HB0.out.trans (hb1.mono HB0.out.size); clear hb1)))
  go_ret
  exact ⟨rfl, HB1.out⟩

set_option maxHeartbeats 2000000 in
theorem reckoned_limitSum (c : Cf) (hc : RC c) (hb : bad c = none) (w : World) :
    Calls Try.prog 28 #[.agg (cfgA c), .func (.func 30) #[] #[]] w fun e w' => e = .returned (.int .i64 (plsum c)) ∧ Below w.heap.size w w' := by
  have HC := hid hc
  have HR := hid (right_of hb)
  clear hc
  have hL0 := lc_new w c 38
  have hz0 : w.heap.size < (w.alloc (.cells (cfgA c) 38)).heap.size := by simp
  have HB0 : Hid (Below w.heap.size w (w.alloc (.cells (cfgA c) 38))) := (Below.refl _ _).alloc (Nat.le_refl _) _
  have he : ckE c = 0 := (ck_none hb).2
  have HK : ∀ W, Calls Try.prog 15 #[.agg (cfgA c)] W fun e w' => e = .returned (.tuple #[.int .i64 (ckN c), .int .i64 0]) ∧ Below W.heap.size W w' := fun W => by have := check_any c HC.out W; rwa [he] at this
  clear hb he
  go_enter Try.func28, Try.ntmps28
  go_wp2_with (first | (refine wpList_cfg (by rfl) _ (by rfl) (by rfl) hL0 ?_) | (revert HB1; intro HB1; refine wpList_cfg (by rfl) _ (by rfl) (by rfl) hL1 ?_) | (go_at_call 15; go_loud (refine (HK _).mono ?_; rintro e w1 ⟨rfl, hb1⟩; have HB1 : Hid (Below w.heap.size w w1) := HB0.out.trans (hb1.mono HB0.out.size); have hL1 := hL0.keep hz0 hb1; clear hb1)) | (go_at_call 38; go_loud (refine (figuresOf_any c _).mono ?_; rintro e w2 ⟨rfl, hb2⟩; have HB2 : Hid (Below w.heap.size w w2) := HB1.out.trans (hb2.mono HB1.out.size); clear hb2)) | (go_at_call 30; go_loud (refine (limitSum_any c HC.out HR.out _).mono ?_; rintro e w3 ⟨rfl, hb3⟩; have HB3 : Hid (Below w.heap.size w w3) := HB2.out.trans (hb3.mono HB2.out.size); clear hb3)))
  go_ret
  exact ⟨rfl, HB3.out⟩

set_option maxHeartbeats 2000000 in
theorem reckoned_fileCap (c : Cf) (hc : RC c) (hb : bad c = none) (w : World) :
    Calls Try.prog 28 #[.agg (cfgA c), .func (.func 31) #[] #[]] w fun e w' => e = .returned (.int .i64 (pfile c)) ∧ Below w.heap.size w w' := by
  have HC := hid hc
  have HR := hid (right_of hb)
  clear hc
  have hL0 := lc_new w c 38
  have hz0 : w.heap.size < (w.alloc (.cells (cfgA c) 38)).heap.size := by simp
  have HB0 : Hid (Below w.heap.size w (w.alloc (.cells (cfgA c) 38))) := (Below.refl _ _).alloc (Nat.le_refl _) _
  have he : ckE c = 0 := (ck_none hb).2
  have HK : ∀ W, Calls Try.prog 15 #[.agg (cfgA c)] W fun e w' => e = .returned (.tuple #[.int .i64 (ckN c), .int .i64 0]) ∧ Below W.heap.size W w' := fun W => by have := check_any c HC.out W; rwa [he] at this
  clear hb he
  go_enter Try.func28, Try.ntmps28
  go_wp2_with (first | (refine wpList_cfg (by rfl) _ (by rfl) (by rfl) hL0 ?_) | (revert HB1; intro HB1; refine wpList_cfg (by rfl) _ (by rfl) (by rfl) hL1 ?_) | (go_at_call 15; go_loud (refine (HK _).mono ?_; rintro e w1 ⟨rfl, hb1⟩; have HB1 : Hid (Below w.heap.size w w1) := HB0.out.trans (hb1.mono HB0.out.size); have hL1 := hL0.keep hz0 hb1; clear hb1)) | (go_at_call 38; go_loud (refine (figuresOf_any c _).mono ?_; rintro e w2 ⟨rfl, hb2⟩; have HB2 : Hid (Below w.heap.size w w2) := HB1.out.trans (hb2.mono HB1.out.size); clear hb2)) | (go_at_call 31; go_loud (refine (fileCap_any c HC.out HR.out _).mono ?_; rintro e w3 ⟨rfl, hb3⟩; have HB3 : Hid (Below w.heap.size w w3) := HB2.out.trans (hb3.mono HB2.out.size); clear hb3)))
  go_ret
  exact ⟨rfl, HB3.out⟩

set_option maxHeartbeats 2000000 in
theorem reckoned_debtCap (c : Cf) (hc : RC c) (hb : bad c = none) (w : World) :
    Calls Try.prog 28 #[.agg (cfgA c), .func (.func 32) #[] #[]] w fun e w' => e = .returned (.int .i64 (pdebt c)) ∧ Below w.heap.size w w' := by
  have HC := hid hc
  have HR := hid (right_of hb)
  clear hc
  have hL0 := lc_new w c 38
  have hz0 : w.heap.size < (w.alloc (.cells (cfgA c) 38)).heap.size := by simp
  have HB0 : Hid (Below w.heap.size w (w.alloc (.cells (cfgA c) 38))) := (Below.refl _ _).alloc (Nat.le_refl _) _
  have he : ckE c = 0 := (ck_none hb).2
  have HK : ∀ W, Calls Try.prog 15 #[.agg (cfgA c)] W fun e w' => e = .returned (.tuple #[.int .i64 (ckN c), .int .i64 0]) ∧ Below W.heap.size W w' := fun W => by have := check_any c HC.out W; rwa [he] at this
  clear hb he
  go_enter Try.func28, Try.ntmps28
  go_wp2_with (first | (refine wpList_cfg (by rfl) _ (by rfl) (by rfl) hL0 ?_) | (revert HB1; intro HB1; refine wpList_cfg (by rfl) _ (by rfl) (by rfl) hL1 ?_) | (go_at_call 15; go_loud (refine (HK _).mono ?_; rintro e w1 ⟨rfl, hb1⟩; have HB1 : Hid (Below w.heap.size w w1) := HB0.out.trans (hb1.mono HB0.out.size); have hL1 := hL0.keep hz0 hb1; clear hb1)) | (go_at_call 38; go_loud (refine (figuresOf_any c _).mono ?_; rintro e w2 ⟨rfl, hb2⟩; have HB2 : Hid (Below w.heap.size w w2) := HB1.out.trans (hb2.mono HB1.out.size); clear hb2)) | (go_at_call 32; go_loud (refine (debtCap_any c HC.out HR.out _).mono ?_; rintro e w3 ⟨rfl, hb3⟩; have HB3 : Hid (Below w.heap.size w w3) := HB2.out.trans (hb3.mono HB2.out.size); clear hb3)))
  go_ret
  exact ⟨rfl, HB3.out⟩

set_option maxHeartbeats 2000000 in
theorem reckoned_memCap (c : Cf) (hc : RC c) (hb : bad c = none) (w : World) :
    Calls Try.prog 28 #[.agg (cfgA c), .func (.func 29) #[] #[]] w fun e w' => e = .returned (.int .i64 (pmem c)) ∧ Below w.heap.size w w' := by
  have HC := hid hc
  have HR := hid (right_of hb)
  clear hc
  have hL0 := lc_new w c 38
  have hz0 : w.heap.size < (w.alloc (.cells (cfgA c) 38)).heap.size := by simp
  have HB0 : Hid (Below w.heap.size w (w.alloc (.cells (cfgA c) 38))) := (Below.refl _ _).alloc (Nat.le_refl _) _
  have he : ckE c = 0 := (ck_none hb).2
  have HK : ∀ W, Calls Try.prog 15 #[.agg (cfgA c)] W fun e w' => e = .returned (.tuple #[.int .i64 (ckN c), .int .i64 0]) ∧ Below W.heap.size W w' := fun W => by have := check_any c HC.out W; rwa [he] at this
  clear hb he
  go_enter Try.func28, Try.ntmps28
  go_wp2_with (first | (refine wpList_cfg (by rfl) _ (by rfl) (by rfl) hL0 ?_) | (revert HB1; intro HB1; refine wpList_cfg (by rfl) _ (by rfl) (by rfl) hL1 ?_) | (go_at_call 15; go_loud (refine (HK _).mono ?_; rintro e w1 ⟨rfl, hb1⟩; have HB1 : Hid (Below w.heap.size w w1) := HB0.out.trans (hb1.mono HB0.out.size); have hL1 := hL0.keep hz0 hb1; clear hb1)) | (go_at_call 38; go_loud (refine (figuresOf_any c _).mono ?_; rintro e w2 ⟨rfl, hb2⟩; have HB2 : Hid (Below w.heap.size w w2) := HB1.out.trans (hb2.mono HB1.out.size); clear hb2)) | (go_at_call 29; go_loud (refine (memCap_any c HC.out _).mono ?_; rintro e w3 ⟨rfl, hb3⟩; have HB3 : Hid (Below w.heap.size w w3) := HB2.out.trans (hb3.mono HB2.out.size); clear hb3)))
  go_ret
  exact ⟨rfl, HB3.out⟩

end Pcm
end Go.Proofs.Ytebfokjgeknciab
