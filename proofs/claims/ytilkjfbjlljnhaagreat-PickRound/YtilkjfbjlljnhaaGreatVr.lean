import Derived.Test.YtilkjfbjlljnhaaGreatVq
namespace Go.Proofs.YtilkjfbjlljnhaaGreat
namespace Vr
open Go.Shelf Go.RowKit Go.Lib Go.Sort Go.Maps Go.ChangeMaps Go.MapKept Laws Irw Crw
set_option linter.unusedVariables false
set_option linter.unusedSimpArgs false
set_option maxRecDepth 20000
theorem ovl_false : ∀ {l : List Tb}, (∀ (i : Nat) a b, l[i]? = some a → l[i + 1]? = some b → ltS a.gr b.le = true) → ovl l = false
  | [], _ => rfl
  | [a], _ => rfl
  | a :: b :: r, h => by
    simp only [ovl, Bool.or_eq_false_iff, Bool.not_eq_false']
    exact ⟨h 0 a b rfl rfl, ovl_false fun i x y hx hy => h (i + 1) x y (by simpa using hx) (by simpa using hy)⟩
theorem ovl_true : ∀ {l : List Tb} {i : Nat} {a b : Tb}, l[i]? = some a → l[i + 1]? = some b → ltS a.gr b.le = false → ovl l = true
  | [], i, a, b, h, _, _ => by simp at h
  | [x], i, a, b, _, h, _ => by simp at h
  | x :: y :: r, 0, a, b, h1, h2, h3 => by
    simp at h1 h2
    subst h1; subst h2
    simp [ovl, h3]
  | x :: y :: r, i + 1, a, b, h1, h2, h3 => by
    have := ovl_true (l := y :: r) (i := i) (a := a) (b := b) (by simpa using h1) (by simpa using h2) h3
    simp only [ovl, this, Bool.or_true]
set_option maxHeartbeats 2000000 in
theorem overlapping_any (a : Option Addr) (c : Nat) (l : List Tb) (w : World) (h : Ls kTb w (a, l.length, c) l) (hlen : l.length ≤ 1000000) :
    Calls Tryz.prog 78 #[.slice a l.length c] w fun e w' => e = .returned (.bool (ovl l)) ∧ Below w.heap.size w w' := by
  have HL : Hid (Ls kTb w (a, l.length, c) l) := h
  have l1 := geqS
  clear h
  go_enter Tryz.func78, Tryz.ntmps78
  go_wp2
  go_loopw [3] (fun i wr => ∃ k : Nat, k ≤ l.length ∧ i = .int .i64 ((k : Int) + 1) ∧ Hid (Below w.heap.size w wr ∧ ∀ (j : Nat) x y, j < k → l[j]? = some x → l[j + 1]? = some y → ltS x.gr y.le = true)) (fun i _ => l.length + 1 - (intOf i).toNat)
  case atStart => exact ⟨0, Nat.zero_le _, rfl, Below.refl _ _, fun j x y hj => by omega⟩
  case round =>
    obtain ⟨k, hk, rfl, HX⟩ := hrel
    rename World => wr
    by_cases hlt : k + 1 < l.length
    · have q1 : (k : Int) + 1 < (l.length : Int) := by omega
      obtain ⟨b, off, rfl, hb, t, ht, x0, x1, x2, x3, x4, x5⟩ := (HL.out.below HX.out.1).tb (i := k) (by omega)
      obtain ⟨b', off', e', hb', u, hu, y0, y1, y2, y3, y4, y5⟩ := (HL.out.below HX.out.1).tb (i := k + 1) hlt
      cases e'
      have w1 : IntKind.i64.wrap ((k : Int) + 1 - 1) = (k : Int) := by rw [IntWalk.i64_in _ (by omega)]; omega
      have q2 : (0 : Int) ≤ (k : Int) + 1 - 1 := by omega
      have q3 : (k : Int) < (l.length : Int) := by omega
      have q4 : ((k : Int) + 1).toNat = k + 1 := by omega
      have q5 : (0 : Int) ≤ (k : Int) + 1 := by omega
      have HT : Hid (l[k]? = some t ∧ l[k + 1]? = some u) := ⟨ht, hu⟩
      clear ht hu
      go_wp2
      cases hq : ltS t.gr u.le with
      | true =>
        have hq2 : Op.bytesLess t.gr.toList u.le.toList = true := by rw [lt_ltS]; exact hq
        go_quiet (fail)
        go_wp2
        go_roundw
        case rel =>
          refine ⟨k + 1, by omega, by go_num, bl_dn HX.out.1 _, fun j x y hj hx hy => ?_⟩
          by_cases e : j = k
          · subst e
            rw [HT.out.1] at hx
            rw [HT.out.2] at hy
            cases hx; cases hy
            exact hq
          · exact HX.out.2 j x y (by omega) hx hy
        case measure => simp [intOf]; omega
      | false =>
        have hq2 : Op.bytesLess t.gr.toList u.le.toList = false := by rw [lt_ltS]; exact hq
        go_quiet (fail)
        go_wp2
        go_ret
        exact ⟨by rw [ovl_true HT.out.1 HT.out.2 hq]; rfl, bl_dn HX.out.1 _⟩
    · have q1 : ¬ (k : Int) + 1 < (l.length : Int) := by omega
      have HO : Hid (ovl l = false) := ovl_false fun i x y hx hy => HX.out.2 i x y (by have := (List.getElem?_eq_some_iff.1 hy).1; omega) hx hy
      go_wp2
      go_ret
      exact ⟨by rw [HO.out]; rfl, HX.out.1⟩
end Vr
end Go.Proofs.YtilkjfbjlljnhaaGreat
