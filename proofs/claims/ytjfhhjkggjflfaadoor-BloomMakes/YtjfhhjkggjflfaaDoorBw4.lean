import Derived.Test.YtjfhhjkggjflfaaDoorBr3
import Derived.Test.YtjfhhjkggjflfaaDoorRsH
namespace Go.Proofs.YtjfhhjkggjflfaaDoor
namespace BloomMakes
open Go.RowKit CMath Byt Cod Laws Tsr BMath Blo Blr Rst
set_option linter.unusedVariables false
set_option maxRecDepth 20000

/-- The state of the law: the room R lent the list l, which lies at g. -/
structure St (w W : World) (R g c : Nat) (v0 v1 : Value) (l : List ByteArray) : Prop where
  bel : Below w.heap.size w W
  rm : Rst.Rm W R w.heap.size v0 v1 [(g, l.length, c)]
  row : TRow W g 0 l
theorem St.below {w W W' : World} {R g c : Nat} {v0 v1 : Value} {l : List ByteArray} (h : St w W R g c v0 v1 l) (hb : Below W.heap.size W W') : St w W' R g c v0 v1 l :=
  ⟨h.bel.trans (hb.mono h.bel.size), h.rm.below hb, h.row.below hb h.row.1⟩
theorem St.first {w w2 : World} {g c : Nat} {v0 v1 : Value} {l : List ByteArray} (hrm : Rst.Rm w2 w.heap.size w.heap.size v0 v1 ([] ++ [(g, l.length, c)])) (hrow : TRow w2 g 0 l)
    (hk : Keep (w.heap.size :: ((Value.slice none 0 0).ownBlock.toList ++ (Value.slice none 0 0).ownBlock.toList)) (w.alloc Rst.roomZ) w2) : St w w2 w.heap.size g c v0 v1 l := by
  refine ⟨?_, hrm, hrow⟩
  have hb : Below w.heap.size w (w.alloc Rst.roomZ) := (Below.refl _ _).alloc (Nat.le_refl _) _
  refine hb.trans ⟨hk.os, hk.tape, hk.output, hk.size, fun i hi => hk.block i (by simp; omega) ?_⟩
  simp [Value.ownBlock]
  omega
theorem trow_set {w : World} {g i : Nat} {l : List ByteArray} (h : TRow w g 0 l) (hi : i < l.length) (v : ByteArray) : TRow (w.setCell ⟨g, i, none⟩ (.string v)) g 0 (l.set i v) := by
  refine ⟨by simpa using h.1, fun j x hx => ?_⟩
  by_cases hj : j = i
  · subst hj
    rw [List.getElem?_set_self hi] at hx
    simp at hx
    subst hx
    have := h.2 j _ (List.getElem?_eq_getElem hi)
    rw [Nat.zero_add] at this ⊢
    exact World.cell?_setCell_same _ _ _ this
  · rw [List.getElem?_set_ne (Ne.symm hj)] at hx
    rw [World.cell?_setCell_other _ _ _ _ (fun e => by simp only [Addr.mk.injEq] at e; omega)]
    exact h.2 j x hx
theorem St.set {w W : World} {R g c : Nat} {v0 v1 : Value} {l : List ByteArray} (h : St w W R g c v0 v1 l) (hg : w.heap.size ≤ g) {i : Nat} (v : ByteArray) (hi : i < l.length) : St w (W.setCell ⟨g, i, none⟩ (.string v)) R g c v0 v1 (l.set i v) := by
  refine ⟨h.bel.setCell (p := ⟨g, i, none⟩) hg _, ?_, trow_set h.row hi v⟩
  rw [List.length_set]
  exact h.rm.set _ ⟨(g, l.length, c), by simp, rfl⟩ (fun x hx _ => by rw [List.mem_singleton.1 hx]; exact hi)
theorem St.frz {w W : World} {R g c : Nat} {v0 v1 : Value} {l : List ByteArray} (h : St w W R g c v0 v1 l) (i : Nat) : W.frozen? ⟨g, i, none⟩ = false := (h.rm.lent _ (List.mem_singleton.2 rfl)).2.2.2.2.2.1 i
theorem isB_set {W : World} {a : Option Addr} {F : List Nat} {g i : Nat} {u : Value} (h : IsB W a F) (hg : ∀ b off, a = some ⟨b, off, none⟩ → b ≠ g) : IsB (W.setCell ⟨g, i, none⟩ u) a F := by
  refine ⟨fun hne => ?_, h.2⟩
  obtain ⟨b, off, e, hr⟩ := h.1 hne
  exact ⟨b, off, e, hr.keep (Below.heap_setCell W _ _ b (hg b off e)) (by simp)⟩
/-- The texts of which the first k bear one byte more. -/
def Up (l l' : List ByteArray) (k : Nat) : Prop := l'.length = l.length ∧ l'.drop k = l.drop k ∧ ∀ s ∈ l', s.size ≤ 140737488355329
theorem Up.next {l l' : List ByteArray} {k : Nat} {x : ByteArray} (h : Up l l' k) (hx : l'[k]? = some x) (hl : ∀ s ∈ l, s.size ≤ 140737488355328) : Up l (l'.set k (x ++ (⟨#[120]⟩ : ByteArray))) (k + 1) := by
  obtain ⟨h1, h2, h3⟩ := h
  have hk := (List.getElem?_eq_some_iff.1 hx).1
  refine ⟨by rw [List.length_set]; exact h1, ?_, fun s hs => ?_⟩
  · rw [List.drop_set, if_pos (by omega)]
    have := congrArg (List.drop 1) h2
    simpa [List.drop_drop, Nat.add_comm] using this
  · rcases List.mem_or_eq_of_mem_set hs with hs | rfl
    · exact h3 s hs
    · have hxl : x ∈ l := by
        have e1 : (l'.drop k)[0]? = some x := by rw [List.getElem?_drop, Nat.add_zero]; exact hx
        rw [h2, List.getElem?_drop, Nat.add_zero] at e1
        exact List.mem_of_getElem? e1
      have := hl x hxl
      rw [ByteArray.size_append]
      have e2 : (⟨#[120]⟩ : ByteArray).size = 1 := rfl
      omega

set_option maxHeartbeats 2000000 in
theorem walk (a : Option Addr) (cap : Nat) (l : List ByteArray) (b : Int) (w : World) (h : IsT w a l) (hc : a = none → cap = 0) (hlen : l.length * 16 + 4096 ≤ 140737488355328) (hsz : ∀ s ∈ l, s.size ≤ 140737488355328) (hb : -9223372036854775808 ≤ b ∧ b ≤ 9223372036854775807) (ht : Tab w) :
    Calls Tryd.prog 3 #[.slice a l.length cap, .int .i64 b] w fun e w' => e = .returned (.bool true) ∧ Below w.heap.size w w' := by
  obtain ⟨iS, hiS, hz0, hz1, hz2⟩ := info_parts infoS
  have HI : Hid (IsT w a l) := h
  have HN : Hid (a = none → cap = 0) := hc
  have HT : Hid (Tab w) := ht
  have HZ : Hid (∀ s ∈ l, s.size ≤ 140737488355328) := hsz
  have HZ2 : Hid (∀ s ∈ l, s.size ≤ 9223372036854775807) := fun s hs => by have := hsz s hs; omega
  clear h hc ht hsz
  go_enter Tryd.func3, Tryd.ntmps3
  go_wp2_with (at_builtin; go_loud (refine wpList_appT (by rfl) (.const (.slice none 0 0)) (.tmp 11) 22 (by rfl) w.heap.size 9 iS Tryd.underlying22 hiS hz0 hz1 hz2 (.slice none 0 0) [] 0 (by rfl) (World.ownsRow_nil _ _ _ _) a l.length cap l (by rfl) rfl HN.out HI.out (by omega) (Nat.le_refl _) ?_; intro v1 w1 hown1 hgr1 hnn1; have HG1 : Hid (w.grownBy w1 none) := hgr1; have HO1 : Hid (w1.ownsRow w.heap.size 9 1 v1 (0 + l.length) (cellsT l)) := hown1; clear hgr1 hown1 hnn1; obtain ⟨t1, a1, c1, hv1, hT1, t2, t3, t4, t5⟩ := isT_of_own HO1.out; clear t1 t2 t3 t4 t5; subst hv1; have HT1 : Hid (IsT w1 a1 l) := hT1; have HB1 : Hid (Below w.heap.size w w1) := below_of (Below.refl _ _) HG1.out (Nat.le_refl _) (by simp); clear hT1 HO1 HG1))
  refine (texts_any w1.heap.size w1.heap.size (.slice none 0 0) (.slice none 0 0) [] a cap l _ (Rst.room_new w1 w1.heap.size (Nat.le_refl _)) (by simp) HN.out ((HI.out.below HB1.out).below ((Below.refl _ _).alloc (Nat.le_refl _) _)) (by omega)).mono ?_
  rintro e w2 ⟨g, c, v0, v1, rfl, hrm, hrow, hg, t6, t7, hkeep⟩
  clear t6 t7
  have HS2 : Hid (St w1 w2 w1.heap.size g c v0 v1 l) := St.first hrm hrow hkeep
  have hgw : w1.heap.size ≤ g := by simp at hg; omega
  clear hrm hrow hg hkeep
  have HK : Hid (∀ W R g c v0 v1 l', St w1 W R g c v0 v1 l' → IsT W a1 l ∧ Tab W ∧ Below w.heap.size w W) := fun W R g c v0 v1 l' hs => ⟨HT1.out.below hs.bel, (HT.out.below HB1.out HT.out.lt).below hs.bel (by have := HB1.out.size; have := HT.out.lt; omega), HB1.out.trans (hs.bel.mono HB1.out.size)⟩
  have hl47 : l.length ≤ 140737488355328 := by omega
  go_wp2_with fail
  refine (refMake_any a1 c1 l.length l b w2 (HK.out _ _ _ _ _ _ _ HS2.out).1 hb hl47 HZ2.out rfl).mono ?_
  rintro e w3 ⟨a3, c3, rfl, hn3, hb3⟩
  have HS3 : Hid (St w1 w3 w1.heap.size g c v0 v1 l) := HS2.out.below hb3
  have HW : Hid (New 5 w2.heap.size w3 a3 c3 (mk (l.map strB) b)) := hn3
  have hml := mk_length_le (l.map strB) b
  obtain ⟨F, hF⟩ : ∃ F, mk (l.map strB) b = F := ⟨_, rfl⟩
  rw [hF] at HW hml ⊢
  have HF : Hid (mk (l.map strB) b = F) := hF
  have HWG : Hid (∀ b off, a3 = some ⟨b, off, none⟩ → b ≠ g) := fun b off e => by
    have h1 := (HW.out.row.lt b (by rw [e]; rfl)).1
    have h2 := HS2.out.row.1
    omega
  clear hn3 hb3 HS2 hF
  go_wp2_with fail
  go_loopw [9] (fun i wr => ∃ k : Nat, k ≤ 3 ∧ i = .int .i64 (k : Int) ∧ Below w3.heap.size w3 wr) (fun i _ => 3 - (intOf i).toNat)
  case atStart => exact ⟨0, Nat.zero_le _, rfl, Below.refl _ _⟩
  case round =>
    rename World => wp
    obtain ⟨k, hk, rfl, hbw⟩ := hrel
    have HBW : Hid (Below w3.heap.size w3 wp) := hbw
    have HSp : Hid (St w1 wp w1.heap.size g c v0 v1 l) := HS3.out.below hbw
    clear hbw
    by_cases hk3 : k < 3
    · have q3 : (k : Int) < 3 := by omega
      go_wp2_with fail
      refine (make_any (some ⟨g, 0, none⟩) (l.length + 40) l.length l b wp (IsT.some HSp.out.row) (HK.out _ _ _ _ _ _ _ HSp.out).2.1 hb hl47 HZ2.out rfl).mono ?_
      rintro e w4 ⟨a4, c4, rfl, hn4, hb4⟩
      rw [HF.out] at hn4 ⊢
      have HN4 : Hid (New 5 wp.heap.size w4 a4 c4 F) := hn4
      have HB4 : Hid (Below w3.heap.size w3 w4) := HBW.out.trans (hb4.mono HBW.out.size)
      clear hn4 hb4
      go_wp2_with fail
      refine (same_any a4 a3 c4 c3 _ _ F w4 HN4.out.isB (HW.out.isB.below HB4.out) (by omega) rfl rfl).mono ?_
      rintro e w' ⟨rfl, d5, rfl⟩
      have HB5 : Hid (Below w3.heap.size w3 (w4.drewN d5)) := below_drewN HB4.out _
      go_wp2_with fail
      go_roundw
      case rel => exact ⟨k + 1, by omega, by go_num, HB5.out⟩
      case measure => simp [intOf]; omega
    · have q3 : ¬ (k : Int) < 3 := by omega
      go_wp2_with fail
      refine (sameTexts_any (some ⟨g, 0, none⟩) a1 (l.length + 40) c1 _ _ l wp (IsT.some HSp.out.row) (HK.out _ _ _ _ _ _ _ HSp.out).1 (by omega) rfl rfl).mono ?_
      rintro e w' ⟨rfl, d6, rfl⟩
      have HS6 : Hid (St w1 (wp.drewN d6) w1.heap.size g c v0 v1 l) := HSp.out.below (below_drewN (Below.refl _ _) _)
      have HW6 : Hid (IsB (wp.drewN d6) a3 F) := HW.out.isB.below (below_drewN HBW.out _)
      have hgw6 : w3.heap.size ≤ (wp.drewN d6).heap.size := HBW.out.size
      have HB6 : Hid (Below w3.heap.size w3 (wp.drewN d6)) := below_drewN HBW.out _
      generalize wp.drewN d6 = w6 at *
      go_wp2_with fail
      refine (Rst.hold_any _ _ v0 v1 _ w6 HS6.out.rm (by simp)).mono ?_
      rintro e w' ⟨rfl, hw⟩
      obtain rfl := hw.symm
      clear hw
      go_wp2_with fail
      go_loopw [10] (fun i wr => ∃ (k : Nat) (l' : List ByteArray), k ≤ l.length ∧ i = .int .i64 (k : Int) ∧ Up l l' k ∧ St w1 wr w1.heap.size g c v0 v1 l' ∧ IsB wr a3 F) (fun i _ => l.length - (intOf i).toNat)
      case atStart => exact ⟨0, l, Nat.zero_le _, rfl, ⟨rfl, rfl, fun s hs => by have := HZ.out s hs; omega⟩, HS6.out, HW6.out⟩
      case round =>
        clear HSp HBW HB6 HW6 HS6
        rename World => wq
        obtain ⟨t, l', ht, rfl, hup, hst, hwb⟩ := hrel
        have HUP : Hid (Up l l' t) := hup
        have HST : Hid (St w1 wq w1.heap.size g c v0 v1 l') := hst
        have HWB : Hid (IsB wq a3 F) := hwb
        clear hup hst hwb
        by_cases htl : t < l.length
        · obtain ⟨x, hx⟩ : ∃ x, l'[t]? = some x := ⟨_, List.getElem?_eq_getElem (by rw [HUP.out.1]; exact htl)⟩
          have d0 := HST.out.row.2 t x hx
          rw [Nat.zero_add] at d0
          have d1 := HST.out.frz t
          have hxs : ¬ 9223372036854775807 < x.size + 1 := by have := HUP.out.2.2 x (List.mem_of_getElem? hx); omega
          have HU2 : Hid (Up l (l'.set t (x ++ (⟨#[120]⟩ : ByteArray))) (t + 1)) := HUP.out.next hx HZ.out
          have HS9 : Hid (St w1 (wq.setCell ⟨g, t, none⟩ (.string (x ++ (⟨#[120]⟩ : ByteArray)))) w1.heap.size g c v0 v1 (l'.set t (x ++ (⟨#[120]⟩ : ByteArray)))) := HST.out.set hgw _ (by rw [HUP.out.1]; exact htl)
          have HW9 : Hid (IsB (wq.setCell ⟨g, t, none⟩ (.string (x ++ (⟨#[120]⟩ : ByteArray)))) a3 F) := isB_set HWB.out HWG.out
          have q5 : (t : Int) < (l.length : Int) := by omega
          clear hx
          go_wp2
          go_roundw
          case rel => exact ⟨t + 1, _, by omega, by go_num, HU2.out, HS9.out, HW9.out⟩
          case measure => simp [intOf]; omega
        · have q5 : ¬ (t : Int) < (l.length : Int) := by omega
          have hll := HUP.out.1
          have HZ3 : Hid (∀ s ∈ l', s.size ≤ 9223372036854775807) := fun s hs => by have := HUP.out.2.2 s hs; omega
          have hml' := mk_length_le (l'.map strB) b
          have HLL : Hid (l'.length = l.length) := hll
          clear hll
          go_wp2_with fail
          refine (make_any (some ⟨g, 0, none⟩) (l.length + 40) l.length l' b wq (IsT.some HST.out.row) (HK.out _ _ _ _ _ _ _ HST.out).2.1 hb (by rw [HLL.out]; exact hl47) HZ3.out HLL.out.symm).mono ?_
          rintro e w7 ⟨a7, c7, rfl, hn7, hb7⟩
          have HN7 : Hid (New 5 wq.heap.size w7 a7 c7 (mk (l'.map strB) b)) := hn7
          have HS7 : Hid (St w1 w7 w1.heap.size g c v0 v1 l') := HST.out.below hb7
          have HW7 : Hid (IsB w7 a3 F) := HWB.out.below hb7
          clear hn7 hb7
          go_wp2_with (at_builtin; go_loud (refine wpList_appT (by rfl) (.const (.slice none 0 0)) (.tmp 57) 22 (by rfl) w7.heap.size 9 iS Tryd.underlying22 hiS hz0 hz1 hz2 (.slice none 0 0) [] 0 (by rfl) (World.ownsRow_nil _ _ _ _) (some ⟨g, 0, none⟩) l.length (l.length + 40) l' (by rfl) HLL.out.symm (by simp) (IsT.some HS7.out.row) (by omega) (Nat.le_refl _) ?_; intro u1 w8 hown1 hgr1 hnn1; have HG1 : Hid (w7.grownBy w8 none) := hgr1; have HO1 : Hid (w8.ownsRow w7.heap.size 9 1 u1 (0 + l.length) (cellsT l')) := hown1; clear hgr1 hown1 hnn1; obtain ⟨t1, a8, c8, hv1, hT8, t2, t3, t4, t5⟩ := isT_of_own HO1.out; clear t1 t2 t3 t4 t5; subst hv1; have HT8 : Hid (IsT w8 a8 l') := hT8; have HB8 : Hid (Below w7.heap.size w7 w8) := below_of (Below.refl _ _) HG1.out (Nat.le_refl _) (by simp); clear hT8 HO1 HG1))
          have HS8 : Hid (St w1 w8 w1.heap.size g c v0 v1 l') := HS7.out.below HB8.out
          have HW8 : Hid (IsB w8 a3 F) := HW7.out.below HB8.out
          have HN8 : Hid (IsB w8 a7 (mk (l'.map strB) b)) := HN7.out.isB.below HB8.out
          refine (refMake_any a8 c8 l.length l' b w8 HT8.out hb (by rw [HLL.out]; exact hl47) HZ3.out HLL.out.symm).mono ?_
          rintro e w9 ⟨a9, c9, rfl, hn9, hb9⟩
          have HN9 : Hid (New 5 w8.heap.size w9 a9 c9 (mk (l'.map strB) b)) := hn9
          have HS9 : Hid (St w1 w9 w1.heap.size g c v0 v1 l') := HS8.out.below hb9
          have HW9 : Hid (IsB w9 a3 F) := HW8.out.below hb9
          have HM9 : Hid (IsB w9 a7 (mk (l'.map strB) b)) := HN8.out.below hb9
          clear hn9 hb9
          generalize mk (l'.map strB) b = F' at *
          go_wp2_with fail
          refine (same_any a7 a9 c7 c9 _ _ F' w9 HM9.out HN9.out.isB (by omega) rfl rfl).mono ?_
          rintro e w' ⟨rfl, d10, rfl⟩
          have HS10 : Hid (St w1 (w9.drewN d10) w1.heap.size g c v0 v1 l') := HS9.out.below (below_drewN (Below.refl _ _) _)
          have HW10 : Hid (IsB (w9.drewN d10) a3 F) := HW9.out.below (below_drewN (Below.refl _ _) _)
          generalize w9.drewN d10 = w10 at *
          go_wp2_with fail
          refine (make_any a1 c1 l.length l b w10 (HK.out _ _ _ _ _ _ _ HS10.out).1 (HK.out _ _ _ _ _ _ _ HS10.out).2.1 hb hl47 HZ2.out rfl).mono ?_
          rintro e w11 ⟨a11, c11, rfl, hn11, hb11⟩
          rw [HF.out] at hn11 ⊢
          have HN11 : Hid (New 5 w10.heap.size w11 a11 c11 F) := hn11
          have HS11 : Hid (St w1 w11 w1.heap.size g c v0 v1 l') := HS10.out.below hb11
          have HW11 : Hid (IsB w11 a3 F) := HW10.out.below hb11
          clear hn11 hb11
          go_wp2_with fail
          refine (same_any a11 a3 c11 c3 _ _ F w11 HN11.out.isB HW11.out (by omega) rfl rfl).mono ?_
          rintro e w' ⟨rfl, d12, rfl⟩
          have HS12 : Hid (St w1 (w11.drewN d12) w1.heap.size g c v0 v1 l') := HS11.out.below (below_drewN (Below.refl _ _) _)
          generalize w11.drewN d12 = w12 at *
          go_wp2_with fail
          refine (Rst.hold_any _ _ v0 v1 _ w12 HS12.out.rm (by simp)).mono ?_
          rintro e w' ⟨rfl, hw⟩
          obtain rfl := hw.symm
          clear hw
          go_wp2_with fail
          go_ret
          exact ⟨rfl, (HK.out _ _ _ _ _ _ _ HS12.out).2.2⟩
end BloomMakes
end Go.Proofs.YtjfhhjkggjflfaaDoor
