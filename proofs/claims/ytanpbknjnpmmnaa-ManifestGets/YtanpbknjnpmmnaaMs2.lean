import Derived.Test.YtanpbknjnpmmnaaMs1
namespace Go.Proofs.Ytanpbknjnpmmnaa
namespace Mnf
open Go.RowKit CMath Byt Cod Crw Irw Laws
set_option linter.unusedVariables false
set_option linter.unusedSimpArgs false
set_option maxRecDepth 20000
def folN (x y z ol il x' y' z' ol' il' : Nat) : Bool := decide (ol + il = 0) || ((decide (x' = x) && (decide (y' = y) && decide (z' = z))) && (decide (0 < ol' + il') && (decide (il = 0) || decide (ol' = 0))))
theorem follows_N (b r : Ed) : follows b r = folN b.log b.nxt b.seq b.out.length b.inn.length r.log r.nxt r.seq r.out.length r.inn.length := rfl
theorem tables_c (x y z : Nat) (oa : Option Addr) (ol oc : Nat) (ia : Option Addr) (il ic : Nat) (pa : Option Addr) (pl pc : Nat) (w : World) (ho : ol ≤ 1000000000000) (hi : il ≤ 1000000000000) :
    Calls Try.prog 50 #[.agg #[.int .u64 (x : Int), .int .u64 (y : Int), .int .u64 (z : Int), .slice oa ol oc, .slice ia il ic, .slice pa pl pc]] w fun e w' => e = .returned (.int .i64 ((ol + il : Nat) : Int)) ∧ Below w.heap.size w w' :=
  tables_any x y z (oa, ol, oc) (ia, il, ic) (pa, pl, pc) w ho hi
set_option maxHeartbeats 4000000 in
theorem follows_any (w : World) (x y z x' y' z' : Nat) (o i p o' i' p' : Sv) (last : Bool) (ho : o.2.1 ≤ 1000000000000) (hi : i.2.1 ≤ 1000000000000) (ho' : o'.2.1 ≤ 1000000000000) (hi' : i'.2.1 ≤ 1000000000000) :
    Calls Try.prog 17 #[evV x y z o i p, recV last x' y' z' o' i' p'] w fun e w' => e = .returned (.bool (folN x y z o.2.1 i.2.1 x' y' z' o'.2.1 i'.2.1)) ∧ Below w.heap.size w w' := by
  obtain ⟨oa, ol, oc⟩ := o
  obtain ⟨ia, il, ic⟩ := i
  obtain ⟨pa, pl, pc⟩ := p
  obtain ⟨oa', ol', oc'⟩ := o'
  obtain ⟨ia', il', ic'⟩ := i'
  obtain ⟨pa', pl', pc'⟩ := p'
  unfold evV recV
  dsimp only at ho hi ho' hi' ⊢
  have HW : Hid (∀ W, W = (w.alloc (.cells #[.int .u64 (x : Int), .int .u64 (y : Int), .int .u64 (z : Int), .slice oa ol oc, .slice ia il ic, .slice pa pl pc] 61)).alloc (.cells #[.bool last, .int .u64 (x' : Int), .int .u64 (y' : Int), .int .u64 (z' : Int), .slice oa' ol' oc', .slice ia' il' ic', .slice pa' pl' pc'] 65) →
      Below w.heap.size w W ∧ Zb W w.heap.size [.int .u64 (x : Int), .int .u64 (y : Int), .int .u64 (z : Int), .slice oa ol oc, .slice ia il ic, .slice pa pl pc] ∧ Zb W (w.heap.size + 1) [.bool last, .int .u64 (x' : Int), .int .u64 (y' : Int), .int .u64 (z' : Int), .slice oa' ol' oc', .slice ia' il' ic', .slice pa' pl' pc']) := by
    intro W hW
    subst hW
    have b1 := (Below.refl w.heap.size w).alloc (Nat.le_refl _) (.cells #[.int .u64 (x : Int), .int .u64 (y : Int), .int .u64 (z : Int), .slice oa ol oc, .slice ia il ic, .slice pa pl pc] 61)
    have z1 := Zb.new w #[.int .u64 (x : Int), .int .u64 (y : Int), .int .u64 (z : Int), .slice oa ol oc, .slice ia il ic, .slice pa pl pc] 61
    have z2 := Zb.new (w.alloc (.cells #[.int .u64 (x : Int), .int .u64 (y : Int), .int .u64 (z : Int), .slice oa ol oc, .slice ia il ic, .slice pa pl pc] 61)) #[.bool last, .int .u64 (x' : Int), .int .u64 (y' : Int), .int .u64 (z' : Int), .slice oa' ol' oc', .slice ia' il' ic', .slice pa' pl' pc'] 65
    generalize hw1 : w.alloc (.cells #[.int .u64 (x : Int), .int .u64 (y : Int), .int .u64 (z : Int), .slice oa ol oc, .slice ia il ic, .slice pa pl pc] 61) = w1 at *
    have s1 : w1.heap.size = w.heap.size + 1 := by rw [← hw1]; simp
    rw [s1] at z2
    clear hw1
    have b2 := (Below.refl w1.heap.size w1).alloc (Nat.le_refl _) (.cells #[.bool last, .int .u64 (x' : Int), .int .u64 (y' : Int), .int .u64 (z' : Int), .slice oa' ol' oc', .slice ia' il' ic', .slice pa' pl' pc'] 65)
    exact ⟨b1.trans (b2.mono (by omega)), z1.below b2, z2⟩
  unfold folN
  by_cases c0 : ol + il = 0
  · rw [decide_eq_true c0, Bool.true_or]
    obtain rfl : ol = 0 := by omega
    obtain rfl : il = 0 := by omega
    go_enter Try.func17, Try.ntmps17
    go_wp2_with (first
      | (go_at_call 50; (revert HB; intro HB); go_loud (refine Calls.mono (tables_c _ _ _ _ _ _ _ _ _ _ _ _ _ (by assumption) (by assumption)) ?_; rintro e w2 ⟨he2, hb2⟩; subst he2; have HB2 : Hid (Below w.heap.size w w2) := HB.out.trans (hb2.mono HB.out.size); have v4 := (Z1.out.below hb2).2.1 4 _ rfl; have v5 := (Z2.out.below hb2).2.1 4 _ rfl; clear hb2))
      | (go_at_call 50; go_loud (refine Calls.mono (tables_c _ _ _ _ _ _ _ _ _ _ _ _ _ (by assumption) (by assumption)) ?_; rintro e w1 ⟨he1, hb1⟩; subst he1; have HB : Hid (Below w.heap.size w w1) := (HW.out _ rfl).1.trans (hb1.mono (HW.out _ rfl).1.size); have Z1 : Hid (Zb w1 w.heap.size [.int .u64 (x : Int), .int .u64 (y : Int), .int .u64 (z : Int), .slice oa 0 oc, .slice ia 0 ic, .slice pa pl pc]) := (HW.out _ rfl).2.1.below hb1; have Z2 : Hid (Zb w1 (w.heap.size + 1) [.bool last, .int .u64 (x' : Int), .int .u64 (y' : Int), .int .u64 (z' : Int), .slice oa' ol' oc', .slice ia' il' ic', .slice pa' pl' pc']) := (HW.out _ rfl).2.2.below hb1; have a0 := Z1.out.2.1 0 _ rfl; have a1 := Z1.out.2.1 1 _ rfl; have a2 := Z1.out.2.1 2 _ rfl; have a3 := Z1.out.2.1 3 _ rfl; have a4 := Z1.out.2.1 4 _ rfl; have b1 := Z2.out.2.1 1 _ rfl; have b2 := Z2.out.2.1 2 _ rfl; have b3 := Z2.out.2.1 3 _ rfl; have b4 := Z2.out.2.1 4 _ rfl; have b5 := Z2.out.2.1 5 _ rfl; have b6 := Z2.out.2.1 6 _ rfl; clear hb1)))
    go_ret
    exact ⟨rfl, HB.out⟩
  · rw [decide_eq_false c0, Bool.false_or]
    have q0 : (((ol + il : Nat) : Int) == 0) = false := beq_eq_false_iff_ne.2 (by omega)
    have q0' : (((ol : Int) + (il : Int)) == 0) = false := beq_eq_false_iff_ne.2 (by omega)
    by_cases c1 : x' = x
    · subst c1
      by_cases c2 : y' = y
      · subst c2
        by_cases c3 : z' = z
        · subst c3
          rw [decide_eq_true rfl, decide_eq_true rfl, decide_eq_true rfl, Bool.true_and, Bool.true_and, Bool.true_and]
          by_cases c4 : 0 < ol' + il'
          · rw [decide_eq_true c4, Bool.true_and]
            have q4 : (0 : Int) < ((ol' + il' : Nat) : Int) := by omega
            have q4' : (0 : Int) < (ol' : Int) + (il' : Int) := by omega
            by_cases c5 : il = 0
            · subst c5
              rw [decide_eq_true rfl, Bool.true_or]
              go_enter Try.func17, Try.ntmps17
              go_wp2_with (first
                | (go_at_call 50; (revert HB; intro HB); go_loud (refine Calls.mono (tables_c _ _ _ _ _ _ _ _ _ _ _ _ _ (by assumption) (by assumption)) ?_; rintro e w2 ⟨he2, hb2⟩; subst he2; have HB2 : Hid (Below w.heap.size w w2) := HB.out.trans (hb2.mono HB.out.size); have v4 := (Z1.out.below hb2).2.1 4 _ rfl; have v5 := (Z2.out.below hb2).2.1 4 _ rfl; clear hb2))
                | (go_at_call 50; go_loud (refine Calls.mono (tables_c _ _ _ _ _ _ _ _ _ _ _ _ _ (by assumption) (by assumption)) ?_; rintro e w1 ⟨he1, hb1⟩; subst he1; have HB : Hid (Below w.heap.size w w1) := (HW.out _ rfl).1.trans (hb1.mono (HW.out _ rfl).1.size); have Z1 : Hid (Zb w1 w.heap.size [.int .u64 (x' : Int), .int .u64 (y' : Int), .int .u64 (z' : Int), .slice oa ol oc, .slice ia 0 ic, .slice pa pl pc]) := (HW.out _ rfl).2.1.below hb1; have Z2 : Hid (Zb w1 (w.heap.size + 1) [.bool last, .int .u64 (x' : Int), .int .u64 (y' : Int), .int .u64 (z' : Int), .slice oa' ol' oc', .slice ia' il' ic', .slice pa' pl' pc']) := (HW.out _ rfl).2.2.below hb1; have a0 := Z1.out.2.1 0 _ rfl; have a1 := Z1.out.2.1 1 _ rfl; have a2 := Z1.out.2.1 2 _ rfl; have a3 := Z1.out.2.1 3 _ rfl; have a4 := Z1.out.2.1 4 _ rfl; have b1 := Z2.out.2.1 1 _ rfl; have b2 := Z2.out.2.1 2 _ rfl; have b3 := Z2.out.2.1 3 _ rfl; have b4 := Z2.out.2.1 4 _ rfl; have b5 := Z2.out.2.1 5 _ rfl; have b6 := Z2.out.2.1 6 _ rfl; clear hb1)))
              go_ret
              exact ⟨rfl, HB2.out⟩
            · rw [decide_eq_false c5, Bool.false_or]
              have q5 : ((il : Int) == 0) = false := beq_eq_false_iff_ne.2 (by omega)
              go_enter Try.func17, Try.ntmps17
              go_wp2_with (first
                | (go_at_call 50; (revert HB; intro HB); go_loud (refine Calls.mono (tables_c _ _ _ _ _ _ _ _ _ _ _ _ _ (by assumption) (by assumption)) ?_; rintro e w2 ⟨he2, hb2⟩; subst he2; have HB2 : Hid (Below w.heap.size w w2) := HB.out.trans (hb2.mono HB.out.size); have v4 := (Z1.out.below hb2).2.1 4 _ rfl; have v5 := (Z2.out.below hb2).2.1 4 _ rfl; clear hb2))
                | (go_at_call 50; go_loud (refine Calls.mono (tables_c _ _ _ _ _ _ _ _ _ _ _ _ _ (by assumption) (by assumption)) ?_; rintro e w1 ⟨he1, hb1⟩; subst he1; have HB : Hid (Below w.heap.size w w1) := (HW.out _ rfl).1.trans (hb1.mono (HW.out _ rfl).1.size); have Z1 : Hid (Zb w1 w.heap.size [.int .u64 (x' : Int), .int .u64 (y' : Int), .int .u64 (z' : Int), .slice oa ol oc, .slice ia il ic, .slice pa pl pc]) := (HW.out _ rfl).2.1.below hb1; have Z2 : Hid (Zb w1 (w.heap.size + 1) [.bool last, .int .u64 (x' : Int), .int .u64 (y' : Int), .int .u64 (z' : Int), .slice oa' ol' oc', .slice ia' il' ic', .slice pa' pl' pc']) := (HW.out _ rfl).2.2.below hb1; have a0 := Z1.out.2.1 0 _ rfl; have a1 := Z1.out.2.1 1 _ rfl; have a2 := Z1.out.2.1 2 _ rfl; have a3 := Z1.out.2.1 3 _ rfl; have a4 := Z1.out.2.1 4 _ rfl; have b1 := Z2.out.2.1 1 _ rfl; have b2 := Z2.out.2.1 2 _ rfl; have b3 := Z2.out.2.1 3 _ rfl; have b4 := Z2.out.2.1 4 _ rfl; have b5 := Z2.out.2.1 5 _ rfl; have b6 := Z2.out.2.1 6 _ rfl; clear hb1)))
              go_ret
              refine ⟨?_, HB2.out⟩
              by_cases c6 : ol' = 0
              · subst c6; rfl
              · have : ¬ (ol' : Int) = 0 := by omega
                simp [c6]
          · obtain rfl : ol' = 0 := by omega
            obtain rfl : il' = 0 := by omega
            rw [decide_eq_false c4, Bool.false_and]
            go_enter Try.func17, Try.ntmps17
            go_wp2_with (first
              | (go_at_call 50; (revert HB; intro HB); go_loud (refine Calls.mono (tables_c _ _ _ _ _ _ _ _ _ _ _ _ _ (by assumption) (by assumption)) ?_; rintro e w2 ⟨he2, hb2⟩; subst he2; have HB2 : Hid (Below w.heap.size w w2) := HB.out.trans (hb2.mono HB.out.size); have v4 := (Z1.out.below hb2).2.1 4 _ rfl; have v5 := (Z2.out.below hb2).2.1 4 _ rfl; clear hb2))
              | (go_at_call 50; go_loud (refine Calls.mono (tables_c _ _ _ _ _ _ _ _ _ _ _ _ _ (by assumption) (by assumption)) ?_; rintro e w1 ⟨he1, hb1⟩; subst he1; have HB : Hid (Below w.heap.size w w1) := (HW.out _ rfl).1.trans (hb1.mono (HW.out _ rfl).1.size); have Z1 : Hid (Zb w1 w.heap.size [.int .u64 (x' : Int), .int .u64 (y' : Int), .int .u64 (z' : Int), .slice oa ol oc, .slice ia il ic, .slice pa pl pc]) := (HW.out _ rfl).2.1.below hb1; have Z2 : Hid (Zb w1 (w.heap.size + 1) [.bool last, .int .u64 (x' : Int), .int .u64 (y' : Int), .int .u64 (z' : Int), .slice oa' 0 oc', .slice ia' 0 ic', .slice pa' pl' pc']) := (HW.out _ rfl).2.2.below hb1; have a0 := Z1.out.2.1 0 _ rfl; have a1 := Z1.out.2.1 1 _ rfl; have a2 := Z1.out.2.1 2 _ rfl; have a3 := Z1.out.2.1 3 _ rfl; have a4 := Z1.out.2.1 4 _ rfl; have b1 := Z2.out.2.1 1 _ rfl; have b2 := Z2.out.2.1 2 _ rfl; have b3 := Z2.out.2.1 3 _ rfl; have b4 := Z2.out.2.1 4 _ rfl; have b5 := Z2.out.2.1 5 _ rfl; have b6 := Z2.out.2.1 6 _ rfl; clear hb1)))
            go_ret
            exact ⟨rfl, HB2.out⟩
        · rw [decide_eq_false c3, Bool.and_false, Bool.and_false, Bool.false_and]
          have q3 : ((z' : Int) != (z : Int)) = true := by simp; omega
          go_enter Try.func17, Try.ntmps17
          go_wp2_with (first
            | (go_at_call 50; (revert HB; intro HB); go_loud (refine Calls.mono (tables_c _ _ _ _ _ _ _ _ _ _ _ _ _ (by assumption) (by assumption)) ?_; rintro e w2 ⟨he2, hb2⟩; subst he2; have HB2 : Hid (Below w.heap.size w w2) := HB.out.trans (hb2.mono HB.out.size); have v4 := (Z1.out.below hb2).2.1 4 _ rfl; have v5 := (Z2.out.below hb2).2.1 4 _ rfl; clear hb2))
            | (go_at_call 50; go_loud (refine Calls.mono (tables_c _ _ _ _ _ _ _ _ _ _ _ _ _ (by assumption) (by assumption)) ?_; rintro e w1 ⟨he1, hb1⟩; subst he1; have HB : Hid (Below w.heap.size w w1) := (HW.out _ rfl).1.trans (hb1.mono (HW.out _ rfl).1.size); have Z1 : Hid (Zb w1 w.heap.size [.int .u64 (x' : Int), .int .u64 (y' : Int), .int .u64 (z : Int), .slice oa ol oc, .slice ia il ic, .slice pa pl pc]) := (HW.out _ rfl).2.1.below hb1; have Z2 : Hid (Zb w1 (w.heap.size + 1) [.bool last, .int .u64 (x' : Int), .int .u64 (y' : Int), .int .u64 (z' : Int), .slice oa' ol' oc', .slice ia' il' ic', .slice pa' pl' pc']) := (HW.out _ rfl).2.2.below hb1; have a0 := Z1.out.2.1 0 _ rfl; have a1 := Z1.out.2.1 1 _ rfl; have a2 := Z1.out.2.1 2 _ rfl; have a3 := Z1.out.2.1 3 _ rfl; have a4 := Z1.out.2.1 4 _ rfl; have b1 := Z2.out.2.1 1 _ rfl; have b2 := Z2.out.2.1 2 _ rfl; have b3 := Z2.out.2.1 3 _ rfl; have b4 := Z2.out.2.1 4 _ rfl; have b5 := Z2.out.2.1 5 _ rfl; have b6 := Z2.out.2.1 6 _ rfl; clear hb1)))
          go_ret
          exact ⟨rfl, HB.out⟩
      · rw [decide_eq_false c2, Bool.false_and, Bool.and_false, Bool.false_and]
        have q2 : ((y' : Int) != (y : Int)) = true := by simp; omega
        go_enter Try.func17, Try.ntmps17
        go_wp2_with (first
          | (go_at_call 50; (revert HB; intro HB); go_loud (refine Calls.mono (tables_c _ _ _ _ _ _ _ _ _ _ _ _ _ (by assumption) (by assumption)) ?_; rintro e w2 ⟨he2, hb2⟩; subst he2; have HB2 : Hid (Below w.heap.size w w2) := HB.out.trans (hb2.mono HB.out.size); have v4 := (Z1.out.below hb2).2.1 4 _ rfl; have v5 := (Z2.out.below hb2).2.1 4 _ rfl; clear hb2))
          | (go_at_call 50; go_loud (refine Calls.mono (tables_c _ _ _ _ _ _ _ _ _ _ _ _ _ (by assumption) (by assumption)) ?_; rintro e w1 ⟨he1, hb1⟩; subst he1; have HB : Hid (Below w.heap.size w w1) := (HW.out _ rfl).1.trans (hb1.mono (HW.out _ rfl).1.size); have Z1 : Hid (Zb w1 w.heap.size [.int .u64 (x' : Int), .int .u64 (y : Int), .int .u64 (z : Int), .slice oa ol oc, .slice ia il ic, .slice pa pl pc]) := (HW.out _ rfl).2.1.below hb1; have Z2 : Hid (Zb w1 (w.heap.size + 1) [.bool last, .int .u64 (x' : Int), .int .u64 (y' : Int), .int .u64 (z' : Int), .slice oa' ol' oc', .slice ia' il' ic', .slice pa' pl' pc']) := (HW.out _ rfl).2.2.below hb1; have a0 := Z1.out.2.1 0 _ rfl; have a1 := Z1.out.2.1 1 _ rfl; have a2 := Z1.out.2.1 2 _ rfl; have a3 := Z1.out.2.1 3 _ rfl; have a4 := Z1.out.2.1 4 _ rfl; have b1 := Z2.out.2.1 1 _ rfl; have b2 := Z2.out.2.1 2 _ rfl; have b3 := Z2.out.2.1 3 _ rfl; have b4 := Z2.out.2.1 4 _ rfl; have b5 := Z2.out.2.1 5 _ rfl; have b6 := Z2.out.2.1 6 _ rfl; clear hb1)))
        go_ret
        exact ⟨rfl, HB.out⟩
    · rw [decide_eq_false c1, Bool.false_and, Bool.false_and]
      have q1 : ((x' : Int) != (x : Int)) = true := by simp; omega
      go_enter Try.func17, Try.ntmps17
      go_wp2_with (first
        | (go_at_call 50; (revert HB; intro HB); go_loud (refine Calls.mono (tables_c _ _ _ _ _ _ _ _ _ _ _ _ _ (by assumption) (by assumption)) ?_; rintro e w2 ⟨he2, hb2⟩; subst he2; have HB2 : Hid (Below w.heap.size w w2) := HB.out.trans (hb2.mono HB.out.size); have v4 := (Z1.out.below hb2).2.1 4 _ rfl; have v5 := (Z2.out.below hb2).2.1 4 _ rfl; clear hb2))
        | (go_at_call 50; go_loud (refine Calls.mono (tables_c _ _ _ _ _ _ _ _ _ _ _ _ _ (by assumption) (by assumption)) ?_; rintro e w1 ⟨he1, hb1⟩; subst he1; have HB : Hid (Below w.heap.size w w1) := (HW.out _ rfl).1.trans (hb1.mono (HW.out _ rfl).1.size); have Z1 : Hid (Zb w1 w.heap.size [.int .u64 (x : Int), .int .u64 (y : Int), .int .u64 (z : Int), .slice oa ol oc, .slice ia il ic, .slice pa pl pc]) := (HW.out _ rfl).2.1.below hb1; have Z2 : Hid (Zb w1 (w.heap.size + 1) [.bool last, .int .u64 (x' : Int), .int .u64 (y' : Int), .int .u64 (z' : Int), .slice oa' ol' oc', .slice ia' il' ic', .slice pa' pl' pc']) := (HW.out _ rfl).2.2.below hb1; have a0 := Z1.out.2.1 0 _ rfl; have a1 := Z1.out.2.1 1 _ rfl; have a2 := Z1.out.2.1 2 _ rfl; have a3 := Z1.out.2.1 3 _ rfl; have a4 := Z1.out.2.1 4 _ rfl; have b1 := Z2.out.2.1 1 _ rfl; have b2 := Z2.out.2.1 2 _ rfl; have b3 := Z2.out.2.1 3 _ rfl; have b4 := Z2.out.2.1 4 _ rfl; have b5 := Z2.out.2.1 5 _ rfl; have b6 := Z2.out.2.1 6 _ rfl; clear hb1)))
      go_ret
      exact ⟨rfl, HB.out⟩
end Mnf
end Go.Proofs.Ytanpbknjnpmmnaa
