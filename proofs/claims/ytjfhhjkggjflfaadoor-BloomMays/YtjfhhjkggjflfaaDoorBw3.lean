import Derived.Test.YtjfhhjkggjflfaaDoorBr2
import Derived.Test.YtjfhhjkggjflfaaDoorRl1
import Derived.Test.YtjfhhjkggjflfaaDoorBSet
namespace Go.Proofs.YtjfhhjkggjflfaaDoor
namespace BloomMays
open Go.RowKit CMath Byt Cod Laws Tsr BMath Blo Blr Rom Rl
set_option linter.unusedVariables false
set_option maxRecDepth 20000

theorem sl_set {w W : World} {R g c : Nat} {v0 v1 : Value} {l : List Nat} (h : Sl w W R g c v0 v1 l) (hg : w.heap.size ≤ g) {i v : Nat} {z : Int} (hi : i < l.length) (hz : z = (v : Int)) (hv : v < 256) : Sl w (W.setCell ⟨g, i, none⟩ (.int .u8 z)) R g c v0 v1 (l.set i v) := by
  refine ⟨h.bel.setCell (p := ⟨g, i, none⟩) hg _, ?_, h.row.set hi v z hz, fun x hx => ?_⟩
  · rw [List.length_set]
    exact h.rm.set _ ⟨(g, l.length, c), by simp, rfl⟩ (fun x hx _ => by rw [List.mem_singleton.1 hx]; exact hi)
  · rcases List.mem_or_eq_of_mem_set hx with hx | rfl
    · exact h.byte x hx
    · exact hv
theorem sl_frz {w W : World} {R g c : Nat} {v0 v1 : Value} {l : List Nat} (h : Sl w W R g c v0 v1 l) (i : Nat) : W.frozen? ⟨g, i, none⟩ = false := (h.rm.lent _ (List.mem_singleton.2 rfl)).2.2.2.2.2.1 i

set_option maxHeartbeats 2000000 in
theorem walk (a : Option Addr) (cap : Nat) (l : List Nat) (key : ByteArray) (w : World) (h : IsB w a l) (hc : a = none → cap = 0) (hlen : l.length + 4096 ≤ 140737488355328) (hks : key.size ≤ 140737488355328) (ht : Tab w) :
    Calls Tryd.prog 4 #[.slice a l.length cap, .string key] w fun e w' => e = .returned (.bool true) ∧ Below w.heap.size w w' := by
  obtain ⟨i8, hi, hz0, hz1, hz2⟩ := info_parts info8
  have HI : Hid (IsB w a l) := h
  have HN : Hid (a = none → cap = 0) := hc
  have HT : Hid (Tab w) := ht
  clear h hc ht
  go_enter Tryd.func4, Tryd.ntmps4
  go_wp2_with (at_builtin; go_loud (refine wpList_appB (by rfl) (.const (.slice none 0 0)) (.tmp 10) 42 (by rfl) w.heap.size 5 i8 Tryd.underlying42 hi hz0 hz1 hz2 (.slice none 0 0) [] 0 (by rfl) (World.ownsRow_nil _ _ _ _) a l.length cap l (by rfl) rfl HN.out HI.out (by omega) (Nat.le_refl _) ?_; intro v1 w1 hown1 hgr1 hnn1; have HG1 : Hid (w.grownBy w1 none) := hgr1; have HO1 : Hid (w1.ownsRow w.heap.size 5 1 v1 (0 + l.length) (cellsB l)) := hown1; clear hgr1 hown1 hnn1; obtain ⟨a1, c1, hv1, hnew1⟩ := New.of HO1.out HI.out.2; subst hv1; have HN1 : Hid (New 5 w.heap.size w1 a1 c1 l) := hnew1; have HB1 : Hid (Below w.heap.size w w1) := below_of (Below.refl _ _) HG1.out (Nat.le_refl _) (by simp); clear hnew1 HO1 HG1))
  refine (bytes_any w1.heap.size w1.heap.size (.slice none 0 0) (.slice none 0 0) [] a cap l _ (room_new w1 w1.heap.size (Nat.le_refl _)) (by simp) HN.out ((HI.out.below HB1.out).below ((Below.refl _ _).alloc (Nat.le_refl _) _)) (by omega)).mono ?_
  rintro e w2 ⟨g, c, v0, v1, rfl, hrm, hrow, hg, _, _, hkeep⟩
  have HS2 : Hid (Sl w1 w2 w1.heap.size g c v0 v1 l) := Sl.first hrm hrow HI.out.2 hkeep
  have hgw : w1.heap.size ≤ g := by simp at hg; omega
  clear hrm hrow hg hkeep
  have HK : Hid (∀ W R g c v0 v1 l', Sl w1 W R g c v0 v1 l' → IsB W a1 l ∧ Tab W ∧ Below w.heap.size w W) := fun W R g c v0 v1 l' hs => ⟨HN1.out.isB.below hs.bel, (HT.out.below HB1.out HT.out.lt).below hs.bel (by have := HB1.out.size; have := HT.out.lt; omega), HB1.out.trans (hs.bel.mono HB1.out.size)⟩
  have hks2 : (key ++ (⟨#[120]⟩ : ByteArray)).size ≤ 9223372036854775807 := by rw [ByteArray.size_append]; have : (⟨#[120]⟩ : ByteArray).size = 1 := rfl; omega
  have hks1 : key.size ≤ 9223372036854775807 := by omega
  generalize hv : may l (strB key) = mv
  go_wp2_with fail
  refine (refMay_any a1 c1 l.length l key w2 (HK.out _ _ _ _ _ _ _ HS2.out).1 (by omega) hks1 rfl).mono ?_
  rintro e w3 ⟨rfl, hb3⟩
  rw [hv]
  have HS3 : Hid (Sl w1 w3 w1.heap.size g c v0 v1 l) := HS2.out.below hb3
  clear hb3
  go_wp2_with fail
  refine (may_any (some ⟨g, 0, none⟩) (l.length + 600) l.length l key w3 HS3.out.isB (HK.out _ _ _ _ _ _ _ HS3.out).2.1 (by omega) hks1 rfl).mono ?_
  rintro e w4 ⟨rfl, hb4⟩
  rw [hv]
  have HS4 : Hid (Sl w1 w4 w1.heap.size g c v0 v1 l) := HS3.out.below hb4
  clear hb4
  generalize hv2 : may l (strB (key ++ (⟨#[120]⟩ : ByteArray))) = mv2
  go_wp2_with fail
  refine (may_any (some ⟨g, 0, none⟩) (l.length + 600) l.length l (key ++ (⟨#[120]⟩ : ByteArray)) w4 HS4.out.isB (HK.out _ _ _ _ _ _ _ HS4.out).2.1 (by omega) hks2 rfl).mono ?_
  rintro e w5 ⟨rfl, hb5⟩
  rw [hv2]
  have HS5 : Hid (Sl w1 w5 w1.heap.size g c v0 v1 l) := HS4.out.below hb5
  clear hb5
  go_wp2_with fail
  refine (refMay_any a1 c1 l.length l (key ++ (⟨#[120]⟩ : ByteArray)) w5 (HK.out _ _ _ _ _ _ _ HS5.out).1 (by omega) hks2 rfl).mono ?_
  rintro e w6 ⟨rfl, hb6⟩
  rw [hv2]
  have HS6 : Hid (Sl w1 w6 w1.heap.size g c v0 v1 l) := HS5.out.below hb6
  clear hb6
  go_wp2_with fail
  refine (may_any (some ⟨g, 0, none⟩) (l.length + 600) l.length l key w6 HS6.out.isB (HK.out _ _ _ _ _ _ _ HS6.out).2.1 (by omega) hks1 rfl).mono ?_
  rintro e w7 ⟨rfl, hb7⟩
  rw [hv]
  have HS7 : Hid (Sl w1 w7 w1.heap.size g c v0 v1 l) := HS6.out.below hb7
  clear hb7
  go_wp2_with fail
  refine (same_any (some ⟨g, 0, none⟩) a1 (l.length + 600) c1 _ _ l w7 HS7.out.isB (HK.out _ _ _ _ _ _ _ HS7.out).1 (by omega) rfl rfl).mono ?_
  rintro e w' ⟨rfl, d8, rfl⟩
  have HS8 : Hid (Sl w1 (w7.drewN d8) w1.heap.size g c v0 v1 l) := HS7.out.below (below_drewN (Below.refl _ _) _)
  generalize w7.drewN d8 = w8 at *
  go_wp2_with fail
  refine (hold_any _ _ v0 v1 _ w8 HS8.out.rm (by simp)).mono ?_
  rintro e w' ⟨rfl, hw⟩
  obtain rfl := hw.symm
  clear HS2 HS3 HS4 HS5 HS6 HS7
  go_wp2_with fail
  go_loopw [9] (fun i wr => ∃ (k : Nat) (l' : List Nat), k ≤ l.length ∧ i = .int .i64 (k : Int) ∧ l'.length = l.length ∧ Sl w1 wr w1.heap.size g c v0 v1 l') (fun i _ => l.length - (intOf i).toNat)
  case atStart => exact ⟨0, l, Nat.zero_le _, rfl, rfl, HS8.out⟩
  case round =>
    rename World => wp
    obtain ⟨k, l', hk, rfl, hl', hs⟩ := hrel
    have HS : Hid (Sl w1 wp w1.heap.size g c v0 v1 l') := hs
    have HL : Hid (l'.length = l.length) := hl'
    clear hs
    by_cases hlt : k + 1 < l.length
    · obtain ⟨z, hz⟩ : ∃ z, l'[k]? = some z := ⟨_, List.getElem?_eq_getElem (by omega)⟩
      have hz256 : z < 256 := HS.out.byte z (List.mem_of_getElem? hz)
      have d0 := HS.out.row.2 k z hz
      rw [Nat.zero_add] at d0
      have d1 := sl_frz HS.out k
      have e1 : bits .xor .u8 (z : Int) 255 = ((z ^^^ 255 : Nat) : Int) := u8_xor_nat z 255 hz256 (by omega)
      have HNX : Hid (Sl w1 (wp.setCell ⟨g, k, none⟩ (.int .u8 ((z ^^^ 255 : Nat) : Int))) w1.heap.size g c v0 v1 (l'.set k (z ^^^ 255))) := sl_set HS.out hgw (by omega) rfl (Nat.xor_lt_two_pow (n := 8) hz256 (by omega))
      have q4 : (k : Int) + 1 < (l.length : Int) := by omega
      generalize z ^^^ 255 = y at *
      clear hz hl'
      go_wp2
      go_roundw
      case rel => exact ⟨k + 1, _, by omega, by go_num, by rw [List.length_set]; exact HL.out, HNX.out⟩
      case measure => simp [intOf]; omega
    · have q4 : ¬ (k : Int) + 1 < (l.length : Int) := by omega
      clear hl'
      go_wp2_with fail
      refine (may_any (some ⟨g, 0, none⟩) (l.length + 600) l.length l' key wp HS.out.isB (HK.out _ _ _ _ _ _ _ HS.out).2.1 (by rw [HL.out]; omega) hks1 HL.out.symm).mono ?_
      rintro e w9 ⟨rfl, hb9⟩
      have HS9 : Hid (Sl w1 w9 w1.heap.size g c v0 v1 l') := HS.out.below hb9
      clear hb9
      generalize hv3 : may l' (strB key) = mv3
      go_wp2_with (at_builtin; go_loud (refine wpList_appB (by rfl) (.const (.slice none 0 0)) (.tmp 72) 42 (by rfl) w9.heap.size 5 i8 Tryd.underlying42 hi hz0 hz1 hz2 (.slice none 0 0) [] 0 (by rfl) (World.ownsRow_nil _ _ _ _) (some ⟨g, 0, none⟩) l.length (l.length + 600) l' (by rfl) HL.out.symm (by simp) HS9.out.isB (by omega) (Nat.le_refl _) ?_; intro u1 w10 hown1 hgr1 hnn1; have HG1 : Hid (w9.grownBy w10 none) := hgr1; have HO1 : Hid (w10.ownsRow w9.heap.size 5 1 u1 (0 + l.length) (cellsB l')) := hown1; clear hgr1 hown1 hnn1; obtain ⟨a3, c3, hv1, hnew1⟩ := New.of HO1.out HS9.out.byte; subst hv1; have HN3 : Hid (New 5 w9.heap.size w10 a3 c3 l') := hnew1; have HB10 : Hid (Below w9.heap.size w9 w10) := below_of (Below.refl _ _) HG1.out (Nat.le_refl _) (by simp); clear hnew1 HO1 HG1))
      have HS10 : Hid (Sl w1 w10 w1.heap.size g c v0 v1 l') := HS9.out.below HB10.out
      refine (refMay_any a3 c3 l'.length l' key w10 HN3.out.isB (by rw [HL.out]; omega) hks1 rfl).mono ?_
      rintro e w11 ⟨rfl, hb11⟩
      rw [hv3]
      have HS11 : Hid (Sl w1 w11 w1.heap.size g c v0 v1 l') := HS10.out.below hb11
      clear hb11
      go_wp2_with fail
      refine (may_any a1 c1 l.length l key w11 (HK.out _ _ _ _ _ _ _ HS11.out).1 (HK.out _ _ _ _ _ _ _ HS11.out).2.1 (by omega) hks1 rfl).mono ?_
      rintro e w12 ⟨rfl, hb12⟩
      rw [hv]
      have HS12 : Hid (Sl w1 w12 w1.heap.size g c v0 v1 l') := HS11.out.below hb12
      clear hb12
      go_wp2_with fail
      refine (hold_any _ _ v0 v1 _ w12 HS12.out.rm (by simp)).mono ?_
      rintro e w' ⟨rfl, hw'⟩
      obtain rfl := hw'.symm
      go_wp2_with fail
      go_ret
      exact ⟨rfl, (HK.out _ _ _ _ _ _ _ HS12.out).2.2⟩
end BloomMays
end Go.Proofs.YtjfhhjkggjflfaaDoor
