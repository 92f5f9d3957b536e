import Derived.Test.YtebfokjgeknciaaPr3
import Derived.Test.YtebfokjgeknciaaPc9
import Derived.Test.YtebfokjgeknciaaPcI
namespace Go.Proofs.Ytebfokjgeknciaa
namespace Pcm
open Go.RowKit Laws Irw
set_option linter.unusedVariables false
set_option linter.unusedSimpArgs false
set_option maxRecDepth 20000

def okB (c : Cf) : Bool := decide (bad c = none)
theorem ck_ok (c : Cf) : (ckE c == 0) = okB c := by
  unfold ckE okB
  cases h : bad c with
  | none => simp
  | some k => simp
set_option maxHeartbeats 2000000 in
theorem right_any (c : Cf) (hc : RC c) (w : World) :
    Calls Try.prog 54 #[.agg (cfgA c)] w fun e w' => e = .returned (.bool (okB c)) ∧ Below w.heap.size w w' := by
  have HC := hid hc
  clear hc
  have hL0 := lc_new w c 23
  have HB0 : Hid (Below w.heap.size w (w.alloc (.cells (cfgA c) 23))) := (Below.refl _ _).alloc (Nat.le_refl _) _
  have HK := hid (ck_ok c)
  go_enter Try.func54, Try.ntmps54
  go_wp2_with (first | (refine wpList_cfg (by rfl) _ (by rfl) (by rfl) hL0 ?_) | (go_at_call 11; go_loud (refine (rcheck_any c HC.out _).mono ?_; rintro e w1 ⟨rfl, hb1⟩; have HB1 : Hid (Below w.heap.size w w1) := HB0.out.trans (hb1.mono HB0.out.size); clear hb1)))
  go_ret
  exact ⟨by rw [← HK.out]; rfl, HB1.out⟩
set_option maxHeartbeats 1000000 in
theorem rsum_any (b off n c : Nat) (l : List Int) (w : World) (h : IRow w b off l) (hn : n = l.length) (hlen : l.length ≤ 1000) (hr : ∀ x ∈ l, R64 x) :
    Calls Try.prog 65 #[.slice (some ⟨b, off, none⟩) n c] w fun e w' => e = .returned (.int .i64 (ssum l)) ∧ w' = w := by
  subst hn
  have HR : Hid (IRow w b off l) := h
  have HL : Hid (∀ x ∈ l, R64 x) := hr
  clear h hr
  go_enter Try.func65, Try.ntmps65
  go_wp2
  go_loop [3, 4] (fun s i => ∃ k : Nat, k ≤ l.length ∧ i = .int .i64 k ∧ s = .int .i64 (ssum (l.take k))) (fun _ i => l.length - (intOf i).toNat)
  case atStart => exact ⟨0, Nat.zero_le _, rfl, rfl⟩
  case round =>
    obtain ⟨k, hk, rfl, rfl⟩ := hrel
    by_cases hlt : k < l.length
    · obtain ⟨x, hx⟩ : ∃ x, l[k]? = some x := ⟨_, List.getElem?_eq_getElem hlt⟩
      have c0 := HR.out.2 k x hx
      have HS : Hid (ssum (l.take (k + 1)) = sadd (ssum (l.take k)) x) := ssum_take hx
      have HX : Hid (R64 x) := HL.out x (List.mem_of_getElem? hx)
      have HT : Hid (R64 (ssum (l.take k))) := ssum_r _
      clear hx
      generalize ssum (l.take k) = S at *
      have q1 : (k : Int) < (l.length : Int) := by omega
      go_wp2_with (go_at_call 13; refine (radd_any S x HT.out HX.out w).mono ?_; rintro e w' ⟨rfl, rfl⟩)
      go_round
      case rel => exact ⟨k + 1, by omega, by go_num, by rw [HS.out]⟩
      case measure => simp [intOf]; omega
    · go_wp2
      go_ret
      exact ⟨ret_int (by rw [List.take_of_length_le (by omega)]), rfl⟩
theorem rsumD_any (W : World) (T : TypeId) (vs : Array Value) (n : Nat) (hv : vs.toList = cellsI (ints vs)) (hn : n = (ints vs).length) (hr : ∀ x ∈ ints vs, R64 x) (hl : n ≤ 1000 := by decide) :
    Calls Try.prog 65 #[.slice (some ⟨W.heap.size, 0, none⟩) n n] (W.alloc (.cells vs T)).drew fun e w' => e = .returned (.int .i64 (ssum (ints vs))) ∧ Below (W.alloc (.cells vs T)).drew.heap.size (W.alloc (.cells vs T)).drew w' :=
  (rsum_any W.heap.size 0 n n (ints vs) _ (row_newD W _ T vs hv) hn (by omega) hr).mono fun e w' ⟨he, hw⟩ => ⟨he, by rw [hw]; exact Below.refl _ _⟩
theorem rsumN_any (W : World) (T : TypeId) (vs : Array Value) (n : Nat) (hv : vs.toList = cellsI (ints vs)) (hn : n = (ints vs).length) (hr : ∀ x ∈ ints vs, R64 x) (hl : n ≤ 1000 := by decide) :
    Calls Try.prog 65 #[.slice (some ⟨W.heap.size, 0, none⟩) n n] (W.alloc (.cells vs T)) fun e w' => e = .returned (.int .i64 (ssum (ints vs))) ∧ Below (W.alloc (.cells vs T)).heap.size (W.alloc (.cells vs T)) w' :=
  (rsum_any W.heap.size 0 n n (ints vs) _ (row_new W _ T vs hv) hn (by omega) hr).mono fun e w' ⟨he, hw⟩ => ⟨he, by rw [hw]; exact Below.refl _ _⟩
theorem raddB (a b : Int) (ha : R64 a) (hb : R64 b) (w : World) : Calls Try.prog 13 #[.int .i64 a, .int .i64 b] w fun e w' => e = .returned (.int .i64 (sadd a b)) ∧ Below w.heap.size w w' := (radd_any a b ha hb w).mono fun e w' ⟨he, hw⟩ => ⟨he, by rw [hw]; exact Below.refl _ _⟩
theorem rmulB (a b : Int) (ha : R64 a) (hb : R64 b) (w : World) : Calls Try.prog 15 #[.int .i64 a, .int .i64 b] w fun e w' => e = .returned (.int .i64 (smul a b)) ∧ Below w.heap.size w w' := (rmul_any a b ha hb w).mono fun e w' ⟨he, hw⟩ => ⟨he, by rw [hw]; exact Below.refl _ _⟩
theorem aboveB (a : Int) (w : World) : Calls Try.prog 62 #[.int .i64 a] w fun e w' => e = .returned (.int .i64 (max a 0)) ∧ Below w.heap.size w w' := (above_any a w).mono fun e w' ⟨he, hw⟩ => ⟨he, by rw [hw]; exact Below.refl _ _⟩
theorem okB_yes {c : Cf} (h : bad c = none) : okB c = true := by unfold okB; simp [h]
theorem okB_no {c : Cf} (h : bad c ≠ none) : okB c = false := by unfold okB; simp [h]
theorem rkY {c : Cf} {x : Int} (h : bad c = none) : rk c x = x := by unfold rk; rw [if_pos h]
theorem rkN {c : Cf} {x : Int} (h : bad c ≠ none) : rk c x = 0 := by unfold rk; rw [if_neg h]
set_option maxHeartbeats 8000000 in
theorem rmemCap_any (c : Cf) (hc : RC c) (w : World) :
    Calls Try.prog 21 #[.agg (cfgA c)] w fun e w' => e = .returned (.int .i64 (rk c (pmem c))) ∧ Below w.heap.size w w' := by
  have HC := hid hc
  clear hc
  have hL0 := lc_new w c 23
  have hz0 : w.heap.size < (w.alloc (.cells (cfgA c) 23)).heap.size := by simp
  have HB0 : Hid (Below w.heap.size w (w.alloc (.cells (cfgA c) 23))) := (Below.refl _ _).alloc (Nat.le_refl _) _
  by_cases hb : bad c = none
  · rw [rkY hb]
    have HR := hid (right_of hb)
    have HK : ∀ V, Calls Try.prog 54 #[.agg (cfgA c)] V fun e w' => e = .returned (.bool true) ∧ Below V.heap.size V w' := fun V => by rw [← okB_yes hb]; exact right_any c HC.out V
    have HE : Hid (rmem c = pmem c) := (rmem_ok HR.out.o).trans (pmem_ok HR.out.o).symm
    go_enter Try.func21, Try.ntmps21
    go_wp2_with (first | (refine wpList_cfg (by rfl) _ (by rfl) (by rfl) hL1 ?_) | (refine wpList_cfg (by rfl) _ (by rfl) (by rfl) hL0 ?_) | (go_at_call 54; go_loud (refine (HK _).mono ?_; rintro e w1 ⟨rfl, hb1⟩; have HB1 : Hid (Below w.heap.size w w1) := HB0.out.trans (hb1.mono HB0.out.size); have hL1 := hL0.keep hz0 hb1; have hz1 : w.heap.size < w1.heap.size := Nat.lt_of_lt_of_le hz0 hb1.size; clear hb1)) | (go_at_call 46; go_loud (refine (rmem_any c HC.out _).mono ?_; rintro e w2 ⟨rfl, hb2⟩; have HB2 : Hid (Below w.heap.size w w2) := HB1.out.trans (hb2.mono HB1.out.size); clear hb2)))
    go_ret
    exact ⟨ret_int HE.out, HB2.out⟩
  · rw [rkN hb]
    have HK : ∀ V, Calls Try.prog 54 #[.agg (cfgA c)] V fun e w' => e = .returned (.bool false) ∧ Below V.heap.size V w' := fun V => by rw [← okB_no hb]; exact right_any c HC.out V
    go_enter Try.func21, Try.ntmps21
    go_wp2_with (first | (refine wpList_cfg (by rfl) _ (by rfl) (by rfl) hL0 ?_) | (go_at_call 54; go_loud (refine (HK _).mono ?_; rintro e w1 ⟨rfl, hb1⟩; have HB1 : Hid (Below w.heap.size w w1) := HB0.out.trans (hb1.mono HB0.out.size); clear hb1)))
    go_ret
    exact ⟨rfl, HB1.out⟩
set_option maxHeartbeats 8000000 in
theorem rfileCap_any (c : Cf) (hc : RC c) (w : World) :
    Calls Try.prog 23 #[.agg (cfgA c)] w fun e w' => e = .returned (.int .i64 (rk c (pfile c))) ∧ Below w.heap.size w w' := by
  have HC := hid hc
  clear hc
  have hL0 := lc_new w c 23
  have hz0 : w.heap.size < (w.alloc (.cells (cfgA c) 23)).heap.size := by simp
  have HB0 : Hid (Below w.heap.size w (w.alloc (.cells (cfgA c) 23))) := (Below.refl _ _).alloc (Nat.le_refl _) _
  by_cases hb : bad c = none
  · rw [rkY hb]
    have HR := hid (right_of hb)
    have HK : ∀ V, Calls Try.prog 54 #[.agg (cfgA c)] V fun e w' => e = .returned (.bool true) ∧ Below V.heap.size V w' := fun V => by rw [← okB_yes hb]; exact right_any c HC.out V
    have q1 := HR.out.o.h11
    have HE := hid (file_ref HR.out)
    go_enter Try.func23, Try.ntmps23
    go_wp2_with (first | (refine wpList_cfg (by rfl) _ (by rfl) (by rfl) hL0 ?_) | (go_at_call 54; go_loud (refine (HK _).mono ?_; rintro e w1 ⟨rfl, hb1⟩; have HB1 : Hid (Below w.heap.size w w1) := HB0.out.trans (hb1.mono HB0.out.size); have hL1 := hL0.keep hz0 hb1; have hz1 : w.heap.size < w1.heap.size := Nat.lt_of_lt_of_le hz0 hb1.size; have k11 := hL1.cell 11 (v := .int .i64 (c 11)) rfl; clear hb1)))
    go_ret
    exact ⟨ret_int HE.out.symm, HB1.out⟩
  · rw [rkN hb]
    have HK : ∀ V, Calls Try.prog 54 #[.agg (cfgA c)] V fun e w' => e = .returned (.bool false) ∧ Below V.heap.size V w' := fun V => by rw [← okB_no hb]; exact right_any c HC.out V
    go_enter Try.func23, Try.ntmps23
    go_wp2_with (first | (refine wpList_cfg (by rfl) _ (by rfl) (by rfl) hL0 ?_) | (go_at_call 54; go_loud (refine (HK _).mono ?_; rintro e w1 ⟨rfl, hb1⟩; have HB1 : Hid (Below w.heap.size w w1) := HB0.out.trans (hb1.mono HB0.out.size); clear hb1)))
    go_ret
    exact ⟨rfl, HB1.out⟩
set_option maxHeartbeats 8000000 in
theorem rdebtCap_any (c : Cf) (hc : RC c) (w : World) :
    Calls Try.prog 25 #[.agg (cfgA c)] w fun e w' => e = .returned (.int .i64 (rk c (pdebt c))) ∧ Below w.heap.size w w' := by
  have HC := hid hc
  clear hc
  have hL0 := lc_new w c 23
  have hz0 : w.heap.size < (w.alloc (.cells (cfgA c) 23)).heap.size := by simp
  have HB0 : Hid (Below w.heap.size w (w.alloc (.cells (cfgA c) 23))) := (Below.refl _ _).alloc (Nat.le_refl _) _
  by_cases hb : bad c = none
  · rw [rkY hb]
    have HR := hid (right_of hb)
    have HK : ∀ V, Calls Try.prog 54 #[.agg (cfgA c)] V fun e w' => e = .returned (.bool true) ∧ Below V.heap.size V w' := fun V => by rw [← okB_yes hb]; exact right_any c HC.out V
    have q1 := HR.out.h23
    have q2 := HR.out.o.h22
    have HE := hid (debt_ref HR.out)
    go_enter Try.func25, Try.ntmps25
    go_wp2_with (first | (refine wpList_cfg (by rfl) _ (by rfl) (by rfl) hL0 ?_) | (go_at_call 54; go_loud (refine (HK _).mono ?_; rintro e w1 ⟨rfl, hb1⟩; have HB1 : Hid (Below w.heap.size w w1) := HB0.out.trans (hb1.mono HB0.out.size); have hL1 := hL0.keep hz0 hb1; have hz1 : w.heap.size < w1.heap.size := Nat.lt_of_lt_of_le hz0 hb1.size; have k23 := hL1.cell 23 (v := .int .i64 (c 23)) rfl; have k22 := hL1.cell 22 (v := .int .i64 (c 22)) rfl; clear hb1)))
    go_ret
    exact ⟨ret_int HE.out.symm, HB1.out⟩
  · rw [rkN hb]
    have HK : ∀ V, Calls Try.prog 54 #[.agg (cfgA c)] V fun e w' => e = .returned (.bool false) ∧ Below V.heap.size V w' := fun V => by rw [← okB_no hb]; exact right_any c HC.out V
    go_enter Try.func25, Try.ntmps25
    go_wp2_with (first | (refine wpList_cfg (by rfl) _ (by rfl) (by rfl) hL0 ?_) | (go_at_call 54; go_loud (refine (HK _).mono ?_; rintro e w1 ⟨rfl, hb1⟩; have HB1 : Hid (Below w.heap.size w w1) := HB0.out.trans (hb1.mono HB0.out.size); clear hb1)))
    go_ret
    exact ⟨rfl, HB1.out⟩
set_option maxHeartbeats 8000000 in
theorem rlimit_any (c : Cf) (hc : RC c) (l : Int) (hl : R64 l) (w : World) :
    Calls Try.prog 17 #[.agg (cfgA c), .int .i64 l] w fun e w' => e = .returned (.int .i64 (rk c (plim c l))) ∧ Below w.heap.size w w' := by
  have HC := hid hc
  clear hc
  have hL0 := lc_new w c 23
  have hz0 : w.heap.size < (w.alloc (.cells (cfgA c) 23)).heap.size := by simp
  have HB0 : Hid (Below w.heap.size w (w.alloc (.cells (cfgA c) 23))) := (Below.refl _ _).alloc (Nat.le_refl _) _
  by_cases hb : bad c = none
  · rw [rkY hb]
    have HR := hid (right_of hb)
    have HK : ∀ V, Calls Try.prog 54 #[.agg (cfgA c)] V fun e w' => e = .returned (.bool true) ∧ Below V.heap.size V w' := fun V => by rw [← okB_yes hb]; exact right_any c HC.out V
    have q1 := HR.out.o.h8
    unfold R64 at hl
    by_cases h1 : l < 1
    · rw [plim_out (.inl h1)]
      go_enter Try.func17, Try.ntmps17
      go_wp2_with (first | (refine wpList_cfg (by rfl) _ (by rfl) (by rfl) hL0 ?_) | (go_at_call 54; go_loud (refine (HK _).mono ?_; rintro e w1 ⟨rfl, hb1⟩; have HB1 : Hid (Below w.heap.size w w1) := HB0.out.trans (hb1.mono HB0.out.size); have hL1 := hL0.keep hz0 hb1; have hz1 : w.heap.size < w1.heap.size := Nat.lt_of_lt_of_le hz0 hb1.size; have k8 := hL1.cell 8 (v := .int .i64 (c 8)) rfl; clear hb1)))
      go_ret
      exact ⟨rfl, HB1.out⟩
    · by_cases h2 : c 8 - 2 < l
      · rw [plim_out (.inr h2)]
        go_enter Try.func17, Try.ntmps17
        go_wp2_with (first | (refine wpList_cfg (by rfl) _ (by rfl) (by rfl) hL0 ?_) | (go_at_call 54; go_loud (refine (HK _).mono ?_; rintro e w1 ⟨rfl, hb1⟩; have HB1 : Hid (Below w.heap.size w w1) := HB0.out.trans (hb1.mono HB0.out.size); have hL1 := hL0.keep hz0 hb1; have hz1 : w.heap.size < w1.heap.size := Nat.lt_of_lt_of_le hz0 hb1.size; have k8 := hL1.cell 8 (v := .int .i64 (c 8)) rfl; clear hb1)))
        go_ret
        exact ⟨rfl, HB1.out⟩
      · have HP : Hid (plim c l = pw (c 9) (c 10) (l - 1).toNat) := by unfold plim; rw [if_neg (by omega)]; exact hid rfl
        go_enter Try.func17, Try.ntmps17
        go_upto_region 4 with (first | (refine wpList_cfg (by rfl) _ (by rfl) (by rfl) hL0 ?_) | (go_at_call 54; go_loud (refine (HK _).mono ?_; rintro e w1 ⟨rfl, hb1⟩; have HB1 : Hid (Below w.heap.size w w1) := HB0.out.trans (hb1.mono HB0.out.size); have hL1 := hL0.keep hz0 hb1; have hz1 : w.heap.size < w1.heap.size := Nat.lt_of_lt_of_le hz0 hb1.size; have k8 := hL1.cell 8 (v := .int .i64 (c 8)) rfl; have k9 := hL1.cell 9 (v := .int .i64 (c 9)) rfl; have k10 := hL1.cell 10 (v := .int .i64 (c 10)) rfl; clear hb1)))
        go_wp2_with fail
        go_loop [5, 6] (fun s i => ∃ k : Nat, (k : Int) ≤ l - 1 ∧ i = .int .i64 ((k : Int) + 1) ∧ s = .int .i64 (pw (c 9) (c 10) k)) (fun _ i => (l - intOf i).toNat)
        case atStart => exact ⟨0, by omega, rfl, rfl⟩
        case round =>
          obtain ⟨k, hk, rfl, rfl⟩ := hrel
          by_cases hlt : (k : Int) + 1 < l
          · have HS : Hid (R64 (pw (c 9) (c 10) k)) := pw_r (HC.out 9) k
            have HN : Hid (pw (c 9) (c 10) (k + 1) = smul (pw (c 9) (c 10) k) (c 10)) := rfl
            generalize pw (c 9) (c 10) k = S at *
            go_wp2_with (go_at_call 15; go_loud (refine (rmul_any S (c 10) HS.out (HC.out 10) _).mono ?_; rintro e w' ⟨rfl, hw9⟩; have hw8 := hw9.symm; clear hw9; subst hw8))
            go_round
            case rel => exact ⟨k + 1, by omega, by go_num, by rw [HN.out]⟩
            case measure => simp [intOf]; omega
          · go_wp2
            go_ret
            refine ⟨ret_int ?_, HB1.out⟩
            rw [HP.out]
            congr 1
            omega
  · rw [rkN hb]
    have HK : ∀ V, Calls Try.prog 54 #[.agg (cfgA c)] V fun e w' => e = .returned (.bool false) ∧ Below V.heap.size V w' := fun V => by rw [← okB_no hb]; exact right_any c HC.out V
    go_enter Try.func17, Try.ntmps17
    go_wp2_with (first | (refine wpList_cfg (by rfl) _ (by rfl) (by rfl) hL0 ?_) | (go_at_call 54; go_loud (refine (HK _).mono ?_; rintro e w1 ⟨rfl, hb1⟩; have HB1 : Hid (Below w.heap.size w w1) := HB0.out.trans (hb1.mono HB0.out.size); clear hb1)))
    go_ret
    exact ⟨rfl, HB1.out⟩
end Pcm
end Go.Proofs.Ytebfokjgeknciaa
