import Derived.Test.YtpefacgdkgediaaProg
import Derived.Test.YtpefacgdkgediaaWor
import Derived.Test.YtpefacgdkgediaaSta
import Derived.WalkKit
import Derived.WalkSpells
import Derived.WalkLawsBesides
namespace Go.Proofs.Ytpefacgdkgediaa
namespace CodecTexts
open Go.RowKit CMath Byt Cod Laws Rom Sta
set_option linter.unusedVariables false
set_option maxRecDepth 20000

def F1 (i x : Nat) : Nat := if i = 0 then x else (x + 1) % 256
theorem F1_lt (i x : Nat) (h : x < 256) : F1 i x < 256 := by unfold F1; split <;> omega
theorem F1_one (l : List Nat) : mix F1 l 1 = l := by
  apply List.ext_getElem?
  intro i
  rw [mix_get]
  cases h : l[i]? with
  | none => rfl
  | some x =>
    by_cases hi : i = 0
    · subst hi; simp [F1]
    · simp; omega
theorem add1 (x : Nat) (i : Nat) (hi : i ≠ 0) : ((x : Int) + 1) % 256 = ((F1 i x : Nat) : Int) := by unfold F1; rw [if_neg hi]; omega
theorem wrap_i64 (x : Int) : -9223372036854775808 ≤ wrap64 x ∧ wrap64 x ≤ 9223372036854775807 := by
  have h := wrap64_wf x
  have h1 : IntKind.i64.min = -9223372036854775808 := rfl
  have h2 : IntKind.i64.max = 9223372036854775807 := rfl
  simp only [Lit.wf, Bool.and_eq_true, decide_eq_true_eq, h1, h2] at h
  exact h
theorem app_nil (l : List Nat) : l ++ [] = l := by simp

set_option maxHeartbeats 1000000 in
theorem walk (a : Option Addr) (cap : Nat) (l : List Nat) (s : ByteArray) (most : Int) (w : World) (h : IsB w a l) (hc : a = none → cap = 0) (hm : -9223372036854775808 ≤ most ∧ most ≤ 9223372036854775807) (hlen : l.length + s.size + 4096 ≤ 140737488355328) :
    Calls Try.prog 4 #[.slice a l.length cap, .string s, .int .i64 most] w fun e w' => e = .returned (.bool true) ∧ Below w.heap.size w w' := by
  have HI : Hid (IsB w a l) := h
  have HN : Hid (a = none → cap = 0) := hc
  have hl10 : (words (strB s)).length ≤ 10 + s.size := by unfold words; rw [List.length_append, strB_length]; have := num_le10 (n := s.size) (by omega); omega
  clear h hc
  go_enter Try.func4, Try.ntmps4
  go_wp2_with fail
  refine (copy_n a cap _ l w HI.out HN.out (by omega) rfl).mono ?_
  rintro e w1 ⟨ka, kc, rfl, hk1, hb1⟩
  have HK1 : Hid (New 5 w.heap.size w1 ka kc l) := hk1
  have HB1 : Hid (Below w.heap.size w w1) := hb1
  have hs1 := hb1.size
  clear hk1 hb1
  go_wp2_with fail
  refine (bytes_any w1.heap.size w.heap.size (.slice none 0 0) (.slice none 0 0) [] a cap l _ (room_new w1 w.heap.size hs1) (by simp) HN.out ((HI.out.below HB1.out).below ((Below.refl _ _).alloc (Nat.le_refl _) _)) (by omega)).mono ?_
  rintro e w2 ⟨g, c, v0, v1, rfl, hrm, hrow, hg, _, _, hkeep⟩
  have HS : Hid (St w w2 w1.heap.size g c l.length kc ka v0 v1 l l) := St.first HB1.out HK1.out HI.out.2 hrm hrow hg hkeep
  clear hrm hrow hg hkeep
  go_wp2_with fail
  refine (putText_any (some ⟨g, 0, none⟩) (l.length + 600) _ l s w2 HS.out.isB (by simp) (by omega) rfl).mono ?_
  rintro e w3 ⟨v3, rfl, ho, hb⟩
  obtain ⟨a3, c3, rfl, hn3⟩ := New.ofOwn ho
  have HS' : Hid (St w w3 w1.heap.size g c l.length kc ka v0 v1 l l) := HS.out.below hb
  clear HS
  have HS := HS'
  clear HS'
  have H3 : Hid (New 5 w2.heap.size w3 a3 c3 (l ++ words (strB s))) := hn3
  clear ho hb hn3
  go_wp2_with fail
  refine (words_any s w3 (by omega)).mono ?_
  rintro e w4 ⟨v4, rfl, ho, hb⟩
  obtain ⟨a4, c4, rfl, hn4⟩ := New.ofOwn ho
  have HS' : Hid (St w w4 w1.heap.size g c l.length kc ka v0 v1 l l) := HS.out.below hb
  clear HS
  have HS := HS'
  clear HS'
  have H3' : Hid (New 5 w2.heap.size w4 a3 c3 (l ++ words (strB s))) := H3.out.below hb
  clear H3
  have H3 := H3'
  clear H3'
  have H4 : Hid (New 5 w3.heap.size w4 a4 c4 (words (strB s))) := hn4
  clear ho hb hn4
  go_wp2_with fail
  refine (behind_n ka a4 kc c4 _ _ l (words (strB s)) w4 HS.out.kept.isB HS.out.kept.cap H4.out.isB H4.out.cap (by omega) rfl rfl).mono ?_
  rintro e w5 ⟨a5, c5, rfl, hn5, hb⟩
  have HS' : Hid (St w w5 w1.heap.size g c l.length kc ka v0 v1 l l) := HS.out.below hb
  clear HS
  have HS := HS'
  clear HS'
  have H3' : Hid (New 5 w2.heap.size w5 a3 c3 (l ++ words (strB s))) := H3.out.below hb
  clear H3
  have H3 := H3'
  clear H3'
  have H5 : Hid (New 5 w4.heap.size w5 a5 c5 (l ++ words (strB s))) := hn5
  clear hb hn5
  go_wp2_with fail
  refine (same_any a3 a5 c3 c5 _ _ (l ++ words (strB s)) w5 H3.out.isB H5.out.isB (by simp; omega) (by simp) (by simp)).mono ?_
  rintro e w6 ⟨rfl, d6, rfl⟩
  have hb : Below w5.heap.size w5 (w5.drewN d6) := below_drewN (Below.refl _ _) _
  generalize w5.drewN d6 = w6 at *
  have HS' : Hid (St w w6 w1.heap.size g c l.length kc ka v0 v1 l l) := HS.out.below hb
  clear HS
  have HS := HS'
  clear HS'
  clear hb
  clear H3 H4 H5
  go_wp2_with fail
  refine (putText_any none 0 0 [] s w6 (IsB.nil _ _) (fun _ => rfl) (by simp; omega) rfl).mono ?_
  rintro e w7 ⟨v7, rfl, ho, hb⟩
  rw [List.nil_append] at ho
  obtain ⟨a7, c7, rfl, hn7⟩ := New.ofOwn ho
  have HS' : Hid (St w w7 w1.heap.size g c l.length kc ka v0 v1 l l) := HS.out.below hb
  clear HS
  have HS := HS'
  clear HS'
  have H7 : Hid (New 5 w6.heap.size w7 a7 c7 (words (strB s))) := hn7
  clear ho hb hn7
  go_wp2_with fail
  refine (words_any s w7 (by omega)).mono ?_
  rintro e w8 ⟨v8, rfl, ho, hb⟩
  obtain ⟨a8, c8, rfl, hn8⟩ := New.ofOwn ho
  have HS' : Hid (St w w8 w1.heap.size g c l.length kc ka v0 v1 l l) := HS.out.below hb
  clear HS
  have HS := HS'
  clear HS'
  have H7' : Hid (New 5 w6.heap.size w8 a7 c7 (words (strB s))) := H7.out.below hb
  clear H7
  have H7 := H7'
  clear H7'
  have H8 : Hid (New 5 w7.heap.size w8 a8 c8 (words (strB s))) := hn8
  clear ho hb hn8
  go_wp2_with fail
  refine (same_any a7 a8 c7 c8 _ _ (words (strB s)) w8 H7.out.isB H8.out.isB (by omega) rfl rfl).mono ?_
  rintro e w9 ⟨rfl, d9, rfl⟩
  have hb : Below w8.heap.size w8 (w8.drewN d9) := below_drewN (Below.refl _ _) _
  generalize w8.drewN d9 = w9 at *
  have HS' : Hid (St w w9 w1.heap.size g c l.length kc ka v0 v1 l l) := HS.out.below hb
  clear HS
  have HS := HS'
  clear HS'
  clear hb
  clear H7 H8
  go_wp2_with fail
  go_loopw [10] (fun i wr => ∃ k : Nat, k ≤ 3 ∧ i = .int .i64 k ∧ wr = w9) (fun i _ => 3 - (intOf i).toNat)
  case atStart => exact ⟨0, by omega, rfl, rfl⟩
  case round =>
    obtain ⟨k, hk, rfl, rfl⟩ := hrel
    by_cases hlt : k < 3
    · go_wp2_with fail
      refine (textOf_any (some ⟨g, 0, none⟩) ka (l.length + 600) kc _ _ l most _ HS.out.isB HS.out.kept.isB (by omega) (by omega) HS.out.kept.le HS.out.kept.max hm rfl rfl).mono ?_
      rintro e w' ⟨rfl, hw⟩
      have hw2 := hw.symm
      clear hw
      subst hw2
      go_wp2_with fail
      refine (textOf_any (some ⟨g, 0, none⟩) ka (l.length + 600) kc _ _ l _ _ HS.out.isB HS.out.kept.isB (by omega) (by omega) HS.out.kept.le HS.out.kept.max (by first | omega | exact wrap_i64 _) rfl rfl).mono ?_
      rintro e w' ⟨rfl, hw⟩
      have hw2 := hw.symm
      clear hw
      subst hw2
      go_wp2_with fail
      exact ⟨⟨k + 1, by omega, by go_num, trivial⟩, by simp [intOf]; omega⟩
    · obtain rfl : k = 3 := by omega
      clear hk hlt
      rename World => w9
      go_wp2_with fail
      refine (same_any (some ⟨g, 0, none⟩) ka (l.length + 600) kc _ _ l w9 HS.out.isB HS.out.kept.isB (by omega) rfl rfl).mono ?_
      rintro e w10 ⟨rfl, d10, rfl⟩
      have hb : Below w9.heap.size w9 (w9.drewN d10) := below_drewN (Below.refl _ _) _
      generalize w9.drewN d10 = w10 at *
      have HS' : Hid (St w w10 w1.heap.size g c l.length kc ka v0 v1 l l) := HS.out.below hb
      clear HS
      have HS := HS'
      clear HS'
      clear hb
      go_wp2_with fail
      refine (hold_any _ _ v0 v1 _ _ HS.out.rm (by simp)).mono ?_
      rintro e w' ⟨rfl, hw⟩
      have hw2 := hw.symm
      clear hw
      subst hw2
      go_wp2_with fail
      go_loopw [11] (fun i wr => ∃ k : Nat, 1 ≤ k ∧ k ≤ l.length + 1 ∧ i = .int .i64 k ∧ St w wr w1.heap.size g c l.length kc ka v0 v1 (mix F1 l k) l) (fun i _ => l.length + 1 - (intOf i).toNat)
      case atStart => exact ⟨1, by omega, by omega, rfl, by rw [F1_one]; exact HS.out⟩
      case round =>
        obtain ⟨k, hk1, hk, rfl, hst⟩ := hrel
        have HT : Hid (St w wr w1.heap.size g c l.length kc ka v0 v1 (mix F1 l k) l) := hst
        clear hst HS
        by_cases hlt : k < l.length
        · obtain ⟨y, hy⟩ : ∃ y, l[k]? = some y := ⟨_, List.getElem?_eq_getElem hlt⟩
          have hyb : y < 256 := HI.out.2 y (List.mem_of_getElem? hy)
          have c0 := HT.out.inn.2 k y (by rw [mix_get, hy]; simp)
          rw [Nat.zero_add] at c0
          have f0 := (HT.out.rm.lent (g, l.length, c) (by simp)).2.2.2.2.2.1 k
          have HY : Hid (l[k]? = some y) := hy
          clear hy
          go_wp2_with fail
          exact ⟨⟨k + 1, by omega, by omega, by go_num, St.set HT.out HY.out (F1_lt k y hyb) _ (add1 y k (by omega))⟩, by simp [intOf]; omega⟩
        · have hll := mix_length F1 l k
          have HM : Hid (∀ x ∈ mix F1 l k, x < 256) := HT.out.byte
          generalize mix F1 l k = l2 at *
          have HS := HT
          clear HT
          rename World => w10
          go_wp2_with fail
          refine (copy_n (some ⟨g, 0, none⟩) (l.length + 600) _ l2 w10 HS.out.isB (by simp) (by omega) (by omega)).mono ?_
          rintro e w11 ⟨a11, c11, rfl, hn11, hb⟩
          have HS' : Hid (St w w11 w1.heap.size g c l.length kc ka v0 v1 l2 l) := HS.out.below hb
          clear HS
          have HS := HS'
          clear HS'
          have H11 : Hid (New 5 w10.heap.size w11 a11 c11 (l2)) := hn11
          clear hb hn11
          go_wp2_with fail
          refine (textOf_any (some ⟨g, 0, none⟩) a11 (l.length + 600) c11 _ _ l2 most _ HS.out.isB H11.out.isB (by omega) (by omega) H11.out.le H11.out.max hm (by omega) (by omega)).mono ?_
          rintro e w' ⟨rfl, hw⟩
          have hw2 := hw.symm
          clear hw
          subst hw2
          go_wp2_with fail
          refine (copy_n ka kc _ l w11 HS.out.kept.isB HS.out.kept.cap (by omega) (by omega)).mono ?_
          rintro e w12 ⟨a12, c12, rfl, hn12, hb⟩
          have HS' : Hid (St w w12 w1.heap.size g c l.length kc ka v0 v1 l2 l) := HS.out.below hb
          clear HS
          have HS := HS'
          clear HS'
          have H11' : Hid (New 5 w10.heap.size w12 a11 c11 (l2)) := H11.out.below hb
          clear H11
          have H11 := H11'
          clear H11'
          have H12 : Hid (New 5 w11.heap.size w12 a12 c12 (l)) := hn12
          clear hb hn12
          go_wp2_with fail
          refine (textOf_any ka a12 kc c12 _ _ l most _ HS.out.kept.isB H12.out.isB HS.out.kept.le HS.out.kept.max H12.out.le H12.out.max hm (by omega) (by omega)).mono ?_
          rintro e w' ⟨rfl, hw⟩
          have hw2 := hw.symm
          clear hw
          subst hw2
          go_wp2_with fail
          refine (putText_any (some ⟨g, 0, none⟩) (l.length + 600) _ l2 s w12 HS.out.isB (by simp) (by omega) (by omega)).mono ?_
          rintro e w13 ⟨v13, rfl, ho, hb⟩
          obtain ⟨a13, c13, rfl, hn13⟩ := New.ofOwn ho
          have HS' : Hid (St w w13 w1.heap.size g c l.length kc ka v0 v1 l2 l) := HS.out.below hb
          clear HS
          have HS := HS'
          clear HS'
          have H11' : Hid (New 5 w10.heap.size w13 a11 c11 (l2)) := H11.out.below hb
          clear H11
          have H11 := H11'
          clear H11'
          have H13 : Hid (New 5 w12.heap.size w13 a13 c13 (l2 ++ words (strB s))) := hn13
          clear ho hb hn13
          go_wp2_with fail
          refine (words_any s w13 (by omega)).mono ?_
          rintro e w14 ⟨v14, rfl, ho, hb⟩
          obtain ⟨a14, c14, rfl, hn14⟩ := New.ofOwn ho
          have HS' : Hid (St w w14 w1.heap.size g c l.length kc ka v0 v1 l2 l) := HS.out.below hb
          clear HS
          have HS := HS'
          clear HS'
          have H11' : Hid (New 5 w10.heap.size w14 a11 c11 (l2)) := H11.out.below hb
          clear H11
          have H11 := H11'
          clear H11'
          have H13' : Hid (New 5 w12.heap.size w14 a13 c13 (l2 ++ words (strB s))) := H13.out.below hb
          clear H13
          have H13 := H13'
          clear H13'
          have H14 : Hid (New 5 w13.heap.size w14 a14 c14 (words (strB s))) := hn14
          clear ho hb hn14
          go_wp2_with fail
          refine (behind_n a11 a14 c11 c14 _ _ l2 (words (strB s)) w14 H11.out.isB H11.out.cap H14.out.isB H14.out.cap (by omega) (by omega) (by omega)).mono ?_
          rintro e w15 ⟨a15, c15, rfl, hn15, hb⟩
          have HS' : Hid (St w w15 w1.heap.size g c l.length kc ka v0 v1 l2 l) := HS.out.below hb
          clear HS
          have HS := HS'
          clear HS'
          have H11' : Hid (New 5 w10.heap.size w15 a11 c11 (l2)) := H11.out.below hb
          clear H11
          have H11 := H11'
          clear H11'
          have H13' : Hid (New 5 w12.heap.size w15 a13 c13 (l2 ++ words (strB s))) := H13.out.below hb
          clear H13
          have H13 := H13'
          clear H13'
          have H15 : Hid (New 5 w14.heap.size w15 a15 c15 (l2 ++ words (strB s))) := hn15
          clear hb hn15
          go_wp2_with fail
          refine (same_any a13 a15 c13 c15 _ _ (l2 ++ words (strB s)) w15 H13.out.isB H15.out.isB (by simp; omega) (by simp <;> omega) (by simp <;> omega)).mono ?_
          rintro e w16 ⟨rfl, d16, rfl⟩
          have hb : Below w15.heap.size w15 (w15.drewN d16) := below_drewN (Below.refl _ _) _
          generalize w15.drewN d16 = w16 at *
          have HS' : Hid (St w w16 w1.heap.size g c l.length kc ka v0 v1 l2 l) := HS.out.below hb
          clear HS
          have HS := HS'
          clear HS'
          have H11' : Hid (New 5 w10.heap.size w16 a11 c11 (l2)) := H11.out.below hb
          clear H11
          have H11 := H11'
          clear H11'
          clear hb
          go_wp2_with fail
          refine (same_any (some ⟨g, 0, none⟩) a11 (l.length + 600) c11 _ _ l2 w16 HS.out.isB H11.out.isB (by omega) (by omega) (by omega)).mono ?_
          rintro e w17 ⟨rfl, d17, rfl⟩
          have hb : Below w16.heap.size w16 (w16.drewN d17) := below_drewN (Below.refl _ _) _
          generalize w16.drewN d17 = w17 at *
          have HS' : Hid (St w w17 w1.heap.size g c l.length kc ka v0 v1 l2 l) := HS.out.below hb
          clear HS
          have HS := HS'
          clear HS'
          clear hb
          go_wp2_with fail
          refine (hold_any _ _ v0 v1 _ _ HS.out.rm (by simp)).mono ?_
          rintro e w' ⟨rfl, hw⟩
          have hw2 := hw.symm
          clear hw
          subst hw2
          go_wp2_with fail
          go_ret
          exact ⟨rfl, HS.out.bel⟩

end CodecTexts
end Go.Proofs.Ytpefacgdkgediaa
