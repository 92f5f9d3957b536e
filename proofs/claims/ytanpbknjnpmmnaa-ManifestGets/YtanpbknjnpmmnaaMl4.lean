import Derived.Test.YtanpbknjnpmmnaaMl3
import Derived.Test.YtanpbknjnpmmnaaMl1
namespace Go.Proofs.Ytanpbknjnpmmnaa
namespace Mnf
open Go.RowKit CMath Byt Cod Crw Irw Laws
set_option linter.unusedVariables false
set_option linter.unusedSimpArgs false
set_option maxRecDepth 20000
theorem pl_at {w : World} {a : Option Addr} {l : List Pl} (h : IsK kPl w a l) {k : Nat} (hk : k < l.length) : ∃ b off, a = some ⟨b, off, none⟩ ∧ w.cell? ⟨b, off + k * 2, none⟩ = some (.int .i64 l[k].1) ∧ w.cell? ⟨b, off + k * 2 + 1, none⟩ = some (.int .u64 (l[k].2 : Int)) := by
  obtain ⟨b, o, rfl, r⟩ := h.at_ (by omega)
  exact ⟨b, o, rfl, r.2 k _ (List.getElem?_eq_getElem hk) 0 _ rfl, r.2 k _ (List.getElem?_eq_getElem hk) 1 _ rfl⟩
theorem pd_at {w : World} {a : Option Addr} {l : List Pd} (h : IsK kPd w a l) {k : Nat} (hk : k < l.length) : ∃ b off, a = some ⟨b, off, none⟩ ∧ w.cell? ⟨b, off + k * 7, none⟩ = some (.int .i64 l[k].lv) ∧ w.cell? ⟨b, off + k * 7 + 1, none⟩ = some (.int .u64 (l[k].no : Int)) ∧ w.cell? ⟨b, off + k * 7 + 2, none⟩ = some (.int .i64 l[k].we) ∧ w.cell? ⟨b, off + k * 7 + 3, none⟩ = some (.int .i64 l[k].by_) ∧ w.cell? ⟨b, off + k * 7 + 4, none⟩ = some (.int .i64 l[k].en) ∧ w.cell? ⟨b, off + k * 7 + 5, none⟩ = some (.string l[k].le) ∧ w.cell? ⟨b, off + k * 7 + 6, none⟩ = some (.string l[k].gr) := by
  obtain ⟨b, o, rfl, r⟩ := h.at_ (by omega)
  have e := List.getElem?_eq_getElem hk
  exact ⟨b, o, rfl, r.2 k _ e 0 _ rfl, r.2 k _ e 1 _ rfl, r.2 k _ e 2 _ rfl, r.2 k _ e 3 _ rfl, r.2 k _ e 4 _ rfl, r.2 k _ e 5 _ rfl, r.2 k _ e 6 _ rfl⟩
set_option maxHeartbeats 2000000 in
/-- two edits that are alike -/
theorem sameEdit_true (x y z : Nat) (o i p o' i' p' : Sv) (ed : Ed) (w : World) (lo : Ls kPl w o ed.out) (li : Ls kPd w i ed.inn) (lp : Ls kT w p ed.ptr) (lo' : Ls kPl w o' ed.out) (li' : Ls kPd w i' ed.inn) (lp' : Ls kT w p' ed.ptr) (h1 : ed.out.length ≤ 1000000000000) (h2 : ed.inn.length ≤ 1000000000000) (h3 : ed.ptr.length ≤ 1000000000000) :
    Calls Try.prog 19 #[evV x y z o i p, evV x y z o' i' p'] w fun e w' => e = .returned (.bool true) ∧ Below w.heap.size w w' := by
  obtain ⟨oa, ol, oc⟩ := o
  obtain ⟨ia, il, ic⟩ := i
  obtain ⟨pa, pl, pc⟩ := p
  obtain ⟨oa', ol', oc'⟩ := o'
  obtain ⟨ia', il', ic'⟩ := i'
  obtain ⟨pa', pl', pc'⟩ := p'
  have e1 : ol = ed.out.length := lo.2.1
  obtain rfl : ol' = ol := by rw [e1]; exact lo'.2.1
  have e2 : il = ed.inn.length := li.2.1
  obtain rfl : il' = il := by rw [e2]; exact li'.2.1
  have e3 : pl = ed.ptr.length := lp.2.1
  obtain rfl : pl' = pl := by rw [e3]; exact lp'.2.1
  rw [← e1] at h1
  rw [← e2] at h2
  rw [← e3] at h3
  have HE : Hid (ol' = ed.out.length ∧ il' = ed.inn.length ∧ pl' = ed.ptr.length) := ⟨e1, e2, e3⟩
  have HL : Hid (IsK kPl w oa ed.out ∧ IsK kPd w ia ed.inn ∧ IsK kT w pa ed.ptr ∧ IsK kPl w oa' ed.out ∧ IsK kPd w ia' ed.inn ∧ IsK kT w pa' ed.ptr) := ⟨lo.1, li.1, lp.1, lo'.1, li'.1, lp'.1⟩
  clear lo li lp lo' li' lp' e1 e2 e3
  have hz00 := Zb.new w #[.int .u64 (x : Int), .int .u64 (y : Int), .int .u64 (z : Int), .slice oa ol' oc, .slice ia il' ic, .slice pa pl' pc] 61
  have hz1 := Zb.new (w.alloc (.cells #[.int .u64 (x : Int), .int .u64 (y : Int), .int .u64 (z : Int), .slice oa ol' oc, .slice ia il' ic, .slice pa pl' pc] 61)) #[.int .u64 (x : Int), .int .u64 (y : Int), .int .u64 (z : Int), .slice oa' ol' oc', .slice ia' il' ic', .slice pa' pl' pc'] 61
  have hz0 := hz00.below ((Below.refl _ _).alloc (Nat.le_refl _) (.cells #[.int .u64 (x : Int), .int .u64 (y : Int), .int .u64 (z : Int), .slice oa' ol' oc', .slice ia' il' ic', .slice pa' pl' pc'] 61))
  have hb0 : Below w.heap.size w ((w.alloc (.cells #[.int .u64 (x : Int), .int .u64 (y : Int), .int .u64 (z : Int), .slice oa ol' oc, .slice ia il' ic, .slice pa pl' pc] 61)).alloc (.cells #[.int .u64 (x : Int), .int .u64 (y : Int), .int .u64 (z : Int), .slice oa' ol' oc', .slice ia' il' ic', .slice pa' pl' pc'] 61)) := ((Below.refl _ _).alloc (Nat.le_refl _) _).alloc (by simp) _
  have hB1 : (w.alloc (.cells #[.int .u64 (x : Int), .int .u64 (y : Int), .int .u64 (z : Int), .slice oa ol' oc, .slice ia il' ic, .slice pa pl' pc] 61)).heap.size = w.heap.size + 1 := by simp
  rw [hB1] at hz1
  clear hB1 hz00
  unfold evV
  go_enter Try.func19, Try.ntmps19
  go_upto_region 1 with (fail)
  obtain ⟨W0, hW0⟩ : ∃ W, ((w.alloc (.cells #[.int .u64 (x : Int), .int .u64 (y : Int), .int .u64 (z : Int), .slice oa ol' oc, .slice ia il' ic, .slice pa pl' pc] 61)).alloc (.cells #[.int .u64 (x : Int), .int .u64 (y : Int), .int .u64 (z : Int), .slice oa' ol' oc', .slice ia' il' ic', .slice pa' pl' pc'] 61)) = W := ⟨_, rfl⟩
  rw [hW0] at hz0 hz1 hb0 ⊢
  clear hW0
  have a0 := hz0.2.1 0 _ rfl
  have d0 := hz1.2.1 0 _ rfl
  have a1 := hz0.2.1 1 _ rfl
  have d1 := hz1.2.1 1 _ rfl
  have a2 := hz0.2.1 2 _ rfl
  have d2 := hz1.2.1 2 _ rfl
  have a3 := hz0.2.1 3 _ rfl
  have d3 := hz1.2.1 3 _ rfl
  have a4 := hz0.2.1 4 _ rfl
  have d4 := hz1.2.1 4 _ rfl
  have a5 := hz0.2.1 5 _ rfl
  have d5 := hz1.2.1 5 _ rfl
  have HZ : Hid ((∀ W, Below W0.heap.size W0 W → W.cell? ⟨w.heap.size, 3, none⟩ = some (.slice oa ol' oc) ∧ W.cell? ⟨w.heap.size + 1, 3, none⟩ = some (.slice oa' ol' oc') ∧ W.cell? ⟨w.heap.size, 4, none⟩ = some (.slice ia il' ic) ∧ W.cell? ⟨w.heap.size + 1, 4, none⟩ = some (.slice ia' il' ic')) ∧ Below w.heap.size w W0) := ⟨fun W hW => ⟨(hz0.below hW).2.1 3 _ rfl, (hz1.below hW).2.1 3 _ rfl, (hz0.below hW).2.1 4 _ rfl, (hz1.below hW).2.1 4 _ rfl⟩, hb0⟩
  have HT : Hid (Calls Try.prog 51 #[.slice pa pl' pc, .slice pa' pl' pc'] W0 fun e w' => e = .returned (.bool true) ∧ Below W0.heap.size W0 w') := sameTexts_true pa pa' pc pc' pl' pl' ed.ptr W0 (HL.out.2.2.1.below hb0) (HL.out.2.2.2.2.2.below hb0) (by have := HE.out.2.2; omega) HE.out.2.2 HE.out.2.2
  clear hz0 hz1 hb0
  go_upto_region 3 with (go_at_call 51; refine HT.out.mono ?_; rintro e w1 ⟨rfl, hb1⟩)
  have HB1 : Hid (Below W0.heap.size W0 w1) := hb1
  clear hb1 HT a0 a1 a2 a3 a4 a5 d0 d1 d2 d3 d4 d5
  go_wp2
  go_loopw [5] (fun i wr => ∃ k : Nat, k ≤ ol' ∧ i = .int .i64 (k : Int) ∧ Hid (Below W0.heap.size W0 wr)) (fun i _ => ol' - (intOf i).toNat)
  case atStart => exact ⟨0, Nat.zero_le _, rfl, HB1⟩
  case round =>
    obtain ⟨k, hk, rfl, HBR⟩ := hrel
    rename World => wr
    obtain ⟨a3, d3, a4, d4⟩ := HZ.out.1 wr HBR.out
    clear a4 d4
    by_cases hlt : k < ol'
    · have hkl : k < ed.out.length := by rw [← HE.out.1]; exact hlt
      obtain ⟨b1, o1, rfl, c1, c2⟩ := pl_at (HL.out.1.below (bl_go HZ.out.2 HBR.out)) hkl
      obtain ⟨b2, o2, rfl, f1, f2⟩ := pl_at (HL.out.2.2.2.1.below (bl_go HZ.out.2 HBR.out)) hkl
      obtain ⟨X, hX⟩ : ∃ X, ed.out[k] = X := ⟨_, rfl⟩
      rw [hX] at c1 c2 f1 f2
      obtain ⟨x1, x2⟩ := X
      dsimp only at c1 c2 f1 f2
      have q1 : (k : Int) < (ol' : Int) := by omega
      clear hkl hX
      go_wp2
      go_quiet (fail)
      go_wp2
      go_roundw
      case rel => exact ⟨k + 1, by omega, by go_num, below_drewN HBR.out _⟩
      case measure => simp [intOf]; omega
    · obtain rfl : k = ol' := by omega
      go_wp2
      go_loopw [6] (fun i wr => ∃ k : Nat, k ≤ il' ∧ i = .int .i64 (k : Int) ∧ Hid (Below W0.heap.size W0 wr)) (fun i _ => il' - (intOf i).toNat)
      case atStart => exact ⟨0, Nat.zero_le _, rfl, HBR⟩
      case round =>
        obtain ⟨k, hk, rfl, HBR⟩ := hrel
        rename World => wr
        obtain ⟨a3, d3, a4, d4⟩ := HZ.out.1 wr HBR.out
        clear a3 d3
        by_cases hlt : k < il'
        · have hkl : k < ed.inn.length := by rw [← HE.out.2.1]; exact hlt
          obtain ⟨b1, o1, rfl, c1, c2, c3, c4, c5, c6, c7⟩ := pd_at (HL.out.2.1.below (bl_go HZ.out.2 HBR.out)) hkl
          obtain ⟨b2, o2, rfl, f1, f2, f3, f4, f5, f6, f7⟩ := pd_at (HL.out.2.2.2.2.1.below (bl_go HZ.out.2 HBR.out)) hkl
          obtain ⟨X, hX⟩ : ∃ X, ed.inn[k] = X := ⟨_, rfl⟩
          rw [hX] at c1 c2 c3 c4 c5 c6 c7 f1 f2 f3 f4 f5 f6 f7
          obtain ⟨x1, x2, x3, x4, x5, x6, x7⟩ := X
          dsimp only at c1 c2 c3 c4 c5 c6 c7 f1 f2 f3 f4 f5 f6 f7
          have q1 : (k : Int) < (il' : Int) := by omega
          clear hkl hX
          go_wp2
          go_quiet (fail)
          go_wp2
          go_roundw
          case rel => exact ⟨k + 1, by omega, by go_num, below_drewN HBR.out _⟩
          case measure => simp [intOf]; omega
        · obtain rfl : k = il' := by omega
          go_wp2
          go_ret
          exact ⟨rfl, bl_go HZ.out.2 HBR.out⟩
end Mnf
end Go.Proofs.Ytanpbknjnpmmnaa
