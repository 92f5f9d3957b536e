import Derived.Test.YtffgngekhdceaaaDoorMr2
namespace Go.Proofs.YtffgngekhdceaaaDoor
namespace Mnf
open Go.RowKit CMath Byt Cod Crw Irw Laws
set_option linter.unusedVariables false
set_option linter.unusedSimpArgs false
set_option maxRecDepth 20000
theorem Zb.some {w : World} {B k : Nat} {vs : List Value} (h : Zb w B vs) (hk : k < vs.length) : ∃ u, w.cell? ⟨B, k, none⟩ = .some u := ⟨_, h.2.1 k _ (List.getElem?_eq_getElem hk)⟩
theorem Zb.other {w w' : World} {B g : Nat} {vs : List Value} (h : Zb w B vs) (k : Nat) (v : Value) (hg : B ≠ g) : Zb (w.setCell ⟨g, k, none⟩ v) B vs :=
  h.keep (Below.heap_setCell w _ v B (fun e => hg e)) (by simp)
set_option maxHeartbeats 1000000 in
theorem readRoots_any (a : Option Addr) (L : Nat) (l : List Nat) (w : World) (h : IsB w a l) (hL : l.length = L) (hm : L ≤ 9223372036854775807) :
    Calls Tryd.prog 38 #[.slice a L L] w fun e w' => RdIs a l roV (roV (0, 0, 0)) (rdRo l) w e w' := by
  subst hL
  have HI : Hid (IsB w a l) := h
  clear h
  go_enter Tryd.func38, Tryd.ntmps38
  go_wp2
  obtain ⟨W, hW⟩ : ∃ W, (w.alloc (.cells #[.int .u64 0, .int .u64 0, .int .u64 0, .slice none 0 0, .slice none 0 0, .slice none 0 0] 34)).alloc (.cells #[.int .u64 0, .int .u64 0, .int .u64 0] 110) = W := ⟨_, rfl⟩
  have HZ : Hid (Zb W w.heap.size zE ∧ Zb W (w.heap.size + 1) [.int .u64 0, .int .u64 0, .int .u64 0] ∧ Below w.heap.size w W) := by
    have h1 := Zb.new w #[.int .u64 0, .int .u64 0, .int .u64 0, .slice none 0 0, .slice none 0 0, .slice none 0 0] 34
    have h2 := Zb.new (w.alloc (.cells #[.int .u64 0, .int .u64 0, .int .u64 0, .slice none 0 0, .slice none 0 0, .slice none 0 0] 34)) #[.int .u64 0, .int .u64 0, .int .u64 0] 110
    rw [hW] at h2
    refine ⟨?_, by simpa using h2, ?_⟩
    · rw [← hW]; exact h1.below ((Below.refl _ _).alloc (Nat.le_refl _) _)
    · rw [← hW]; exact ((Below.refl _ _).alloc (Nat.le_refl _) _).alloc (by simp) _
  rw [hW]
  clear hW
  go_loopw [0, 8] (fun b i wr => ∃ (k : Nat) (ns : List Nat) (r : List Nat) (a1 : Option Addr), k ≤ 3 ∧ b = .slice a1 r.length r.length ∧ i = .int .i64 (k : Int) ∧ r.length ≤ l.length ∧ Hid (Rk (rdN M64) 3 l k ns r ∧ Sub a l a1 r ∧ Zb wr w.heap.size zE ∧ (∃ vs, vs.length = 3 ∧ vs.take k = u64s ns ∧ Zb wr (w.heap.size + 1) vs) ∧ Below w.heap.size w wr)) (fun _ i _ => 3 - (intOf i).toNat)
  case atStart => exact ⟨0, [], l, a, by omega, rfl, rfl, Nat.le_refl _, Rk.start _ _ _, Sub.of HI.out, HZ.out.1, ⟨_, rfl, rfl, HZ.out.2.1⟩, HZ.out.2.2⟩
  case round =>
    clear HZ
    obtain ⟨k, ns, r, a1, hk, rfl, rfl, hrl, HX⟩ := hrel
    rename World => wr
    by_cases hlt : k < 3
    · have q1 : (k : Int) < 3 := by omega
      have hB := (HX.out.2.1.isB HI.out).below HX.out.2.2.2.2
      cases hrd : rdN M64 r with
      | some y =>
        obtain ⟨y1, y2⟩ := y
        have hc := readNumber_ok a1 r.length r M64 y1 y2 wr hB rfl (by omega) (Nat.le_refl _) hrd
        have HC : Hid (Calls Tryd.prog 57 #[.slice a1 r.length r.length, .int .u64 18446744073709551615] wr fun e w' => RdOk a1 r (.int .u64 (y1 : Int)) y2 wr e w') := hc
        have HR : Hid (rdN M64 r = some (y1, y2)) := hrd
        clear hB hc hrd
        go_wp2_with (go_at_call 57; go_loud (refine HC.out.mono ?_; rintro e w1 ⟨a2, rfl, hs1, hb1⟩; obtain ⟨vs, hv1, hv2, hv3⟩ := HX.out.2.2.2.1; have HY : Hid (Sub a l a2 y2 ∧ Zb w1 w.heap.size zE ∧ Zb w1 (w.heap.size + 1) vs ∧ Below w.heap.size w w1 ∧ vs.take k = u64s ns ∧ vs.length = 3) := ⟨HX.out.2.1.trans hs1, HX.out.2.2.1.below hb1, hv3.below hb1, HX.out.2.2.2.2.trans (hb1.mono HX.out.2.2.2.2.size), hv2, hv1⟩; obtain ⟨u0, d0⟩ := HY.out.2.2.1.some (k := k) (by rw [hv1]; exact hlt); have f0 := HY.out.2.2.1.2.2 k; have hsl := hs1.len; clear hs1 hb1 hv1 hv2 hv3))
        go_roundw
        case rel =>
          refine ⟨k + 1, ns ++ [y1], y2, a2, by omega, rfl, by go_num, by omega, HX.out.1.step hlt HR.out, HY.out.1, HY.out.2.1.other (w' := w1) _ _ (by omega), ⟨vs.set k (.int .u64 (y1 : Int)), by rw [List.length_set]; exact HY.out.2.2.2.2.2, ?_, HY.out.2.2.1.set k _⟩, HY.out.2.2.2.1.setCell (p := ⟨w.heap.size + 1, k, none⟩) (by simp) _⟩
          rw [take_set HY.out.2.2.2.2.1 (by rw [HY.out.2.2.2.2.2]; exact hlt)]
          simp [u64s]
        case measure => simp [intOf]; omega
      | none =>
        have hc := readNumber_no a1 r.length r M64 wr hB rfl (by omega) (Nat.le_refl _) hrd
        have HC : Hid (Calls Tryd.prog 57 #[.slice a1 r.length r.length, .int .u64 18446744073709551615] wr fun e w' => RdNo (.int .u64 0) wr e w') := hc
        have HR : Hid (rdRo l = none) := by
          show _ = _
          rw [rdRo_L, HX.out.1.no hlt hrd]
          rfl
        clear hB hc hrd
        go_wp2_with (go_at_call 57; go_loud (refine HC.out.mono ?_; rintro e w1 ⟨rfl, hb1⟩; obtain ⟨vs, hv1, hv2, hv3⟩ := HX.out.2.2.2.1; have HY : Hid (Zb w1 w.heap.size zE ∧ Zb w1 (w.heap.size + 1) vs ∧ Below w.heap.size w w1) := ⟨HX.out.2.2.1.below hb1, hv3.below hb1, HX.out.2.2.2.2.trans (hb1.mono HX.out.2.2.2.2.size)⟩; obtain ⟨u0, d0⟩ := HY.out.2.1.some (k := k) (by rw [hv1]; exact hlt); have f0 := HY.out.2.1.2.2 k; have e0 := HY.out.1.2.1 0 _ rfl; have e1 := HY.out.1.2.1 1 _ rfl; have e2 := HY.out.1.2.1 2 _ rfl; have e3 := HY.out.1.2.1 3 _ rfl; have e4 := HY.out.1.2.1 4 _ rfl; have e5 := HY.out.1.2.1 5 _ rfl; have g0 := HY.out.1.2.2 0; have g1 := HY.out.1.2.2 1; have g2 := HY.out.1.2.2 2; have g3 := HY.out.1.2.2 3; have g4 := HY.out.1.2.2 4; have g5 := HY.out.1.2.2 5; clear hb1 hv1 hv2 hv3))
        (try simp only [Exit.inBlock, Exit.then])
        have hz0 : Zb (w1.setCell ⟨w.heap.size + 1, k, none⟩ (.int .u64 0)) w.heap.size zE := HY.out.1.other (w' := w1) _ _ (by omega)
        have hz := hz0.sets (vs := zE) (by simp)
        refine bodyPost_ret (res_ro rfl _ _ w.heap.size (0, 0, 0) (by rfl) hz) rfl ?_
        exact .inr ⟨HR.out, rfl, sets_below w.heap.size (Nat.le_refl _) zE 0 (HY.out.2.2.setCell (p := ⟨w.heap.size + 1, k, none⟩) (by simp) _)⟩
    · obtain rfl : k = 3 := by omega
      obtain ⟨vs, hv1, hv2, hv3⟩ := HX.out.2.2.2.1
      have hdone := HX.out.1.done
      obtain ⟨x, y, z, rfl⟩ : ∃ x y z, ns = [x, y, z] := by
        have := HX.out.1.1
        match ns, this with
        | [x, y, z], _ => exact ⟨x, y, z, rfl⟩
      rw [List.take_of_length_le (by omega)] at hv2
      subst hv2
      have d0 := hv3.2.1 0 _ rfl
      have d1 := hv3.2.1 1 _ rfl
      have d2 := hv3.2.1 2 _ rfl
      have e0 := HX.out.2.2.1.2.1 0 _ rfl
      have e1 := HX.out.2.2.1.2.1 1 _ rfl
      have e2 := HX.out.2.2.1.2.1 2 _ rfl
      have e3 := HX.out.2.2.1.2.1 3 _ rfl
      have e4 := HX.out.2.2.1.2.1 4 _ rfl
      have e5 := HX.out.2.2.1.2.1 5 _ rfl
      have g0 := HX.out.2.2.1.2.2 0
      have g1 := HX.out.2.2.1.2.2 1
      have g2 := HX.out.2.2.1.2.2 2
      have g3 := HX.out.2.2.1.2.2 3
      have g4 := HX.out.2.2.1.2.2 4
      have g5 := HX.out.2.2.1.2.2 5
      have HR : Hid (rdRo l = some ((x, y, z), r)) := by
        show _ = _
        rw [rdRo_L, hdone]
        rfl
      clear hv3 hdone hv1
      go_wp2
      have hz := HX.out.2.2.1.sets (vs := [.int .u64 (x : Int), .int .u64 (y : Int), .int .u64 (z : Int), .slice none 0 0, .slice none 0 0, .slice none 0 0]) (by simp [zE])
      refine bodyPost_ret (res_ro rfl _ _ w.heap.size (x, y, z) (by rfl) hz) rfl ?_
      have hbl := sets_below w.heap.size (Nat.le_refl _) [.int .u64 (x : Int), .int .u64 (y : Int), .int .u64 (z : Int), .slice none 0 0, .slice none 0 0, .slice none 0 0] 0 HX.out.2.2.2.2
      exact .inl ⟨(x, y, z), r, HR.out, a1, rfl, HX.out.2.1, hbl⟩
end Mnf
end Go.Proofs.YtffgngekhdceaaaDoor
