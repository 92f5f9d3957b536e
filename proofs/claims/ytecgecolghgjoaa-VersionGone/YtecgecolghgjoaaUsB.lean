import Derived.Test.YtecgecolghgjoaaUsA
import Derived.Sort.Walk13a
import Derived.Sort.AssemblyPlain
namespace Go.Proofs.Ytecgecolghgjoaa
namespace Us
open Go.RowKit Go.Sort
set_option linter.unusedVariables false
set_option linter.unusedSimpArgs false
set_option maxRecDepth 20000
/-- what a round of pdqsort does to the row x, the values under names of their own; Z is what comes out at last -/
structure Plan (x : Array Int) (a b lim : Nat) (wb wp : Bool) (Z : Array Int) (d1 : Array Int) (lm c : Nat) (h : Hint) (d2 : Array Int) (pv : Nat) (ht : Hint) (p : Array Int) (f : Bool) : Prop where
  no1 : wb = false → breakPatterns x a b = d1 ∧ lm = lim - 1
  yes1 : wb = true → x = d1 ∧ lm = lim
  s1 : d1.size = x.size
  lm_le : lm ≤ lim
  cp : choosePivot ltInt d1 a b = (c, h)
  c1 : a ≤ c
  c2 : c < b
  dec : h = .decreasing → reverseRange d1 a b = d2 ∧ pv = (b - 1) - (c - a) ∧ ht = .increasing
  ndec : h ≠ .decreasing → d1 = d2 ∧ pv = c ∧ ht = h
  s2 : d2.size = x.size
  p1 : a ≤ pv
  p2 : pv < b
  par : (wb && wp && decide (ht = .increasing)) = true → partialInsertionSort ltInt d2 a b = (p, f)
  npar : (wb && wp && decide (ht = .increasing)) = false → d2 = p ∧ f = false
  s3 : p.size = x.size
  done : f = true → p = Z
  eq : f = false → (decide (a > 0) && !ltInt p[a - 1]! p[pv]!) = true → ∃ m d4, partitionEqual ltInt p a b pv = (m, d4) ∧ a < m ∧ m ≤ b ∧ d4.size = x.size ∧ Below ltInt m b d4 ∧ pdq ltInt d4 m b lm wb wp = Z
  part : f = false → (decide (a > 0) && !ltInt p[a - 1]! p[pv]!) = false → ∃ m ap d4, partition ltInt p a b pv = (m, ap, d4) ∧ a ≤ m ∧ m < b ∧ d4.size = x.size ∧ Below ltInt a m d4 ∧ Below ltInt (m + 1) b d4 ∧
    (m - a < b - m → ∃ d5, pdq ltInt d4 a m lm true true = d5 ∧ d5.size = x.size ∧ Below ltInt (m + 1) b d5 ∧ pdq ltInt d5 (m + 1) b lm (decide (m - a ≥ (b - a) / 8)) ap = Z) ∧
    (¬ m - a < b - m → ∃ d5, pdq ltInt d4 (m + 1) b lm true true = d5 ∧ d5.size = x.size ∧ Below ltInt a m d5 ∧ pdq ltInt d5 a m lm (decide (b - m ≥ (b - a) / 8)) ap = Z)
theorem plan (x : Array Int) (a b lim : Nat) (wb wp : Bool) (h12 : ¬ b - a ≤ 12) (hl0 : ¬ lim = 0) (hb : b ≤ x.size) (hB : Below ltInt a b x) :
    ∃ d1 lm c h d2 pv ht p f, Plan x a b lim wb wp (pdq ltInt x a b lim wb wp) d1 lm c h d2 pv ht p f := by
  obtain ⟨s1, B1, hc1, s2, B2, hpv, s3, B3⟩ := rd_facts (limit := lim) (wb := wb) (wp := wp) swo_ltInt partialInsertionSort_holds reverseRange_holds (show a < b by omega) hb hB
  have key1 := pdq_done (lt := ltInt) (d := x) (wb := wb) (wp := wp) h12 hl0
  have key2 := pdq_eq (lt := ltInt) (d := x) (wb := wb) (wp := wp) h12 hl0
  have key3 := pdq_left (lt := ltInt) (d := x) (wb := wb) (wp := wp) h12 hl0
  have key4 := pdq_right (lt := ltInt) (d := x) (wb := wb) (wp := wp) h12 hl0
  have kd := rd_dec (lt := ltInt) (d := x) (a := a) (b := b) (limit := lim) (wb := wb) (wp := wp)
  have kn := rd_not (lt := ltInt) (d := x) (a := a) (b := b) (limit := lim) (wb := wb) (wp := wp)
  have ky := rd_pi_yes (lt := ltInt) (d := x) (a := a) (b := b) (limit := lim) (wb := wb) (wp := wp)
  have kz := rd_pi_no (lt := ltInt) (d := x) (a := a) (b := b) (limit := lim) (wb := wb) (wp := wp)
  have kc := rd_c (lt := ltInt) (d := x) (a := a) (b := b) (limit := lim) (wb := wb) (wp := wp)
  have kl := rd_lim_le (lt := ltInt) (d := x) (a := a) (b := b) (limit := lim) (wb := wb) (wp := wp)
  have k0 : wb = false → breakPatterns x a b = (rd ltInt x a b lim wb wp).d1 ∧ (rd ltInt x a b lim wb wp).lim = lim - 1 := by rintro rfl; exact ⟨rfl, rfl⟩
  have k1 : wb = true → x = (rd ltInt x a b lim wb wp).d1 ∧ (rd ltInt x a b lim wb wp).lim = lim := by rintro rfl; exact ⟨rfl, rfl⟩
  generalize rd ltInt x a b lim wb wp = R at *
  obtain ⟨d1, lm, ⟨c, h⟩, d2, pv, ht, ⟨p, f⟩⟩ := R
  simp only at *
  refine ⟨d1, lm, c, h, d2, pv, ht, p, f, ⟨k0, k1, s1, kl, kc.symm, hc1.1, hc1.2, fun e => ?_, fun e => ?_, s2, hpv.1, hpv.2, fun e => (ky e).symm, fun e => ?_, s3, fun e => (key1 e).symm, fun e1 e2 => ?_, fun e1 e2 => ?_⟩⟩
  · obtain ⟨z1, z2, z3⟩ := kd e; exact ⟨z1.symm, z2, z3⟩
  · obtain ⟨z1, z2, z3⟩ := kn e; exact ⟨z1.symm, z2, z3⟩
  · have := kz e
    injection this with z1 z2
    exact ⟨z1.symm, z2⟩
  · have e3 := e2
    simp only [Bool.and_eq_true, decide_eq_true_eq, Bool.not_eq_true'] at e3
    obtain ⟨m, d4, hx⟩ : ∃ m d4, partitionEqual ltInt p a b pv = (m, d4) := ⟨(partitionEqual ltInt p a b pv).1, (partitionEqual ltInt p a b pv).2, rfl⟩
    obtain ⟨r1, r2, r3, r4, _⟩ := round_eq swo_ltInt (partitionEqual_holds ltInt) e3.1 hpv.1 hpv.2 (by omega) B3 e3.2 hx
    have := key2 e1 e2 (by rw [hx]; exact ⟨r1, r2⟩)
    rw [hx] at this
    exact ⟨m, d4, hx, r1, r2, r3.trans s3, r4, this.symm⟩
  · obtain ⟨m, ap, d4, hx⟩ : ∃ m ap d4, partition ltInt p a b pv = (m, ap, d4) := ⟨(partition ltInt p a b pv).1, (partition ltInt p a b pv).2.1, (partition ltInt p a b pv).2.2, rfl⟩
    obtain ⟨r1, r2, r3, r4, r5, r6, r7⟩ := round_part swo_ltInt (partition_holds ltInt) hpv.1 hpv.2 (by omega) B3 hx
    refine ⟨m, ap, d4, hx, r1, r2, r3.trans s3, r4, r5, fun h4 => ?_, fun h4 => ?_⟩
    · obtain ⟨pL, sL⟩ := pdq_sorts ltInt swo_ltInt d4 a m lm true true (by omega) (by omega) r4
      have := key3 e1 e2 (by rw [hx]; exact ⟨r1, r2⟩) (by rw [hx]; exact h4)
      rw [hx] at this
      exact ⟨_, rfl, pL.1.trans (r3.trans s3), (r6 _ pL sL).1, this.symm⟩
    · obtain ⟨pL, sL⟩ := pdq_sorts ltInt swo_ltInt d4 (m + 1) b lm true true (by omega) (by omega) r5
      have := key4 e1 e2 (by rw [hx]; exact ⟨r1, r2⟩) (by rw [hx]; exact h4)
      rw [hx] at this
      exact ⟨_, rfl, pL.1.trans (r3.trans s3), (r7 _ pL sL).1, this.symm⟩
end Us
end Go.Proofs.Ytecgecolghgjoaa
