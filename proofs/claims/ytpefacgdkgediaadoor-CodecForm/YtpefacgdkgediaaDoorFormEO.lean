import Derived.Test.YtpefacgdkgediaaDoorProg
import Derived.Test.YtpefacgdkgediaaDoorForL
import Derived.WalkKit
import Derived.WalkSpells
import Derived.WalkLawsBesides
import Derived.Deep.RegionHeld3
namespace Go.Proofs.YtpefacgdkgediaaDoor
namespace CodecForm
open Go.RowKit CMath Byt Cod
set_option linter.unusedVariables false
set_option maxRecDepth 20000

set_option maxHeartbeats 2000000 in
theorem walk_EO (a : Option Addr) (cap : Nat) (l : List Nat) (most : Int) (w : World) (hx : IsB w a l) (nx : a = none → cap = 0) (cx : l.length ≤ cap) (mx : cap ≤ 9223372036854775807) (ht : Tab w) (hm : -9223372036854775808 ≤ most ∧ most ≤ 9223372036854775807) (hlen : l.length + 4096 ≤ 140737488355328) (n k : Nat) (hr : rd l 0 0 = (n, k, 0)) (s : List Nat) (k2 f2 : Nat) (hr2 : text l most = (s, k2, f2)) (hf2 : f2 ≠ 0) (body : List Nat) (k3 : Nat) (hr3 : unframe l = (body, k3, 0)) :
    Calls Tryd.prog 6 #[.slice a l.length cap, .int .i64 most] w fun e w' => e = .returned (.bool true) ∧ Below w.heap.size w w' := by
  obtain ⟨b1, b2, b3⟩ := rd_bytes hx.2 hr
  obtain ⟨b4, b5, b6⟩ := rd_ok0 hx.2 hr
  have HNUM : Hid (l.take k = num n) := b6
  have hkl : (num n).length = k := b5.symm
  clear b5 b6
  have g2 : ((f2 : Int) == 0) = false := beq_eq_false_iff_ne.2 (by omega)
  obtain ⟨u1, u2, u3, u4, u5⟩ := unframe_form hx.2 hr3
  have HFRA : Hid (l.take k3 = frame body) := u4
  have HUP : Hid (∀ i, i < k3 → (unframe (l.take i)).2.2 ≠ 0) := u5
  have hfl : (frame body).length = k3 := by rw [← u4]; simp; omega
  clear u4 u5
  have HR : Hid (_ = _) := hr
  have HR2 : Hid (_ = _) := hr2
  have HR3 : Hid (_ = _) := hr3
  have HX : Hid (IsB w a l) := hx
  have NX : Hid (a = none → cap = 0) := nx
  have HT : Hid (Tab w) := ht
  have HB : Hid (Below w.heap.size w w) := Below.refl _ _
  have HU : Hid (∀ w', Below w.heap.size w w' → Calls Tryd.prog 19 #[.slice a l.length cap] w' fun e w'' => e = .returned (.tuple #[.int .u64 n, .int .i64 k, .int .i64 0]) ∧ w'' = w') := fun w' hb => by
    have h := uint_any a cap _ l w' (hx.below hb) cx mx rfl
    rw [hr] at h
    exact h
  have HTX : Hid (∀ w', Below w.heap.size w w' → Calls Tryd.prog 21 #[.slice a l.length cap, .int .i64 most] w' fun e w'' => e = .returned (.tuple #[.string (ofB s), .int .i64 k2, .int .i64 f2]) ∧ w'' = w') := fun w' hb => by
    have h := text_any a cap _ l most w' (hx.below hb) cx mx hm rfl
    unfold txt at h
    rw [hr2] at h
    exact h
  have HUN : Hid (∀ w', Below w.heap.size w w' → Calls Tryd.prog 22 #[.slice a l.length cap] w' fun e w'' => ∃ a' c', e = .returned (.tuple #[.slice a' body.length c', .int .i64 k3, .int .i64 0]) ∧ New 5 w'.heap.size w'' a' c' body ∧ Below w'.heap.size w' w'') := fun w' hb => by
    have h := unframe_any a cap _ l w' (hx.below hb) (ht.below hb ht.lt) cx mx rfl
    unfold unfV at h
    rw [hr3] at h
    exact h
  clear hx nx ht hr hr2 hr3
  have q1 : decide ((k : Int) < 1) = false := by simp; omega
  have q1' : decide (k < 1) = false := by simp; omega
  have q2 : decide (l.length < k) = false := by simp; omega
  have q3 : (0 : Int) ≤ (k : Int) := by omega
  have q4 : (k : Int) ≤ (l.length : Int) := by omega
  have q5 : (k : Int) ≤ (cap : Int) := by omega
  have p1 : decide ((5 : Int) ≤ (k3 : Int)) = true := by simp; omega
  have p1' : decide (5 ≤ k3) = true := by simp; omega
  have p2 : decide (k3 ≤ l.length) = true := by simp; omega
  have p3 : (0 : Int) ≤ (k3 : Int) := by omega
  have p4 : (k3 : Int) ≤ (l.length : Int) := by omega
  have p5 : (k3 : Int) ≤ (cap : Int) := by omega
  go_enter Tryd.func6, Tryd.ntmps6
  go_wp2_with fail
  refine (known_any w HT.out).mono ?_
  rintro e w1 ⟨rfl, hb⟩
  have HB' : Hid (Below w.heap.size w w1) := HB.out.trans (hb.mono HB.out.size)
  clear HB
  have HB := HB'
  clear HB'
  clear hb
  go_wp2_with fail
  refine (HU.out _ HB.out).mono ?_
  rintro e w' ⟨rfl, hw⟩
  have hw2 := hw.symm
  clear hw
  subst hw2
  go_wp2_with fail
  have HP2 : Hid (∀ W, Below w.heap.size w W → IsB W a (num n)) := fun W hb => by have h := (HX.out.below hb).take k; rw [HNUM.out] at h; exact h
  have HB1 := HB.out
  go_region_held3 (fun W => Below w.heap.size w W) (first | assumption | exact keepB (by assumption) (by assumption) | exact Below.drew (by assumption) | exact below_drewN (by assumption) _ | exact below_drewN (keepB (by assumption) (by assumption)) _)
    (first
      | (go_at_call 18; refine (putUint_n none 0 0 [] n _ (IsB.nil _ _) (fun _ => rfl) (by simp) b4 rfl).mono ?_; rintro e w2 ⟨v2, rfl, ho, hb⟩; rw [List.nil_append] at ho; obtain ⟨a2, c2, rfl, hn2⟩ := New.ofOwn ho; clear ho)
      | (go_at_call 11; refine (same_any _ a _ cap _ _ (num n) _ (by exact hn2.isB) (HP2.out _ (by assumption)) (by omega) (by omega) (by omega)).mono ?_; rintro e w3 ⟨rfl, d3, rfl⟩))
  have HB3 : Hid (Below w.heap.size w (w2.drewN d3)) := by assumption
  generalize w2.drewN d3 = w3 at *
  clear hb hn2 HB1 HB HP2
  have HB := HB3
  clear HB3
  go_wp2_with fail
  go_loopw [8] (fun i wr => ∃ j : Nat, j ≤ k ∧ i = .int .i64 j ∧ wr = w3) (fun i _ => k - (intOf i).toNat)
  case atStart => exact ⟨0, by omega, rfl, rfl⟩
  case round =>
    obtain ⟨j, hj, rfl, rfl⟩ := hrel
    by_cases hlt : j < k
    · go_wp2_with fail
      refine (uint_part HR.out a cap j _ (HX.out.below HB.out) cx mx hlt b2).mono ?_
      rintro e w' ⟨rfl, hw⟩
      have hw2 := hw.symm
      clear hw
      subst hw2
      go_wp2_with fail
      exact ⟨⟨j + 1, by omega, by go_num, trivial⟩, by simp [intOf]; omega⟩
    · obtain rfl : j = k := by omega
      clear hj hlt
      rename World => w3
      go_wp2_with fail
      refine (HTX.out _ HB.out).mono ?_
      rintro e w' ⟨rfl, hw⟩
      have hw2 := hw.symm
      clear hw
      subst hw2
      go_wp2_with fail
      refine (HUN.out _ HB.out).mono ?_
      rintro e w6 ⟨a6, c6, rfl, hn6, hb⟩
      have HB6 : Hid (Below w.heap.size w w6) := HB.out.trans (hb.mono HB.out.size)
      have F6 : Hid (New 5 w.heap.size w6 a6 c6 body) := hn6.lower HB.out.size
      clear hb hn6 HB
      go_wp2_with fail
      go_loopw [18] (fun i wr => (i = .int .i64 (-1) ∨ ∃ j : Nat, j < k3 ∧ i = .int .i64 j) ∧ Below w.heap.size w wr ∧ New 5 w.heap.size wr a6 c6 body) (fun i _ => (intOf i + 1).toNat)
      case atStart => exact ⟨.inr ⟨k3 - 1, by omega, by go_num⟩, HB6.out, F6.out⟩
      case round =>
        obtain ⟨hi, hbw, hnw⟩ := hrel
        have HB : Hid (Below w.heap.size w wr) := hbw
        have F7 : Hid (New 5 w.heap.size wr a6 c6 body) := hnw
        clear hbw hnw F6 HB6
        have HP6 : Hid (∀ W, Below w.heap.size w W → IsB W a (frame body)) := fun W hb => by have h := (HX.out.below hb).take k3; rw [HFRA.out] at h; exact h
        rcases hi with rfl | ⟨j, hj, rfl⟩
        · go_wp2_with fail
          have HB1 := HB.out
          have hn7 := F7.out
          clear F7
          go_region_held3 (fun W => Below w.heap.size w W ∧ New 5 w.heap.size W a6 c6 body ∧ Tab W) (first | assumption | exact ⟨HB1, hn7, HT.out.below HB1 HT.out.lt⟩ | exact keepD ⟨HB1, hn7, HT.out.below HB1 HT.out.lt⟩ | exact keepN (by assumption) (by assumption) | exact keepD (by assumption) | exact keepDN (by assumption))
            (first
              | (go_at_call 13; refine (frame_any a6 c6 _ body _ (New.isB (And.left (And.right (by assumption)))) (And.right (And.right (by assumption))) (New.cap hn7) (by omega) (by omega)).mono ?_; rintro e w8 ⟨v8, rfl, ho, hb⟩; obtain ⟨a8, c8, rfl, hn8⟩ := New.ofOwn ho; clear ho)
              | (go_at_call 11; refine (same_any _ a _ cap _ _ (frame body) _ (by exact hn8.isB) (HP6.out _ (And.left (by assumption))) (by omega) (by omega) (by omega)).mono ?_; rintro e w9 ⟨rfl, d9, rfl⟩))
          go_wp2_with fail
          go_ret
          exact ⟨by simp, And.left (by assumption)⟩
        · by_cases hgt : (k3 : Int) - 9 < (j : Int)
          · go_wp2_with fail
            refine (unframe_part HUP.out a cap j _ (HX.out.below HB.out) (HT.out.below HB.out HT.out.lt) cx mx hj u2).mono ?_
            rintro e w8 ⟨⟨a8, c8, n8, k8, f8, rfl, hf8⟩, hb⟩
            have HB8 : Hid (Below w.heap.size w w8) := HB.out.trans (hb.mono HB.out.size)
            have F8 : Hid (New 5 w.heap.size w8 a6 c6 body) := F7.out.below hb
            clear hb
            go_wp2_with fail
            refine ⟨⟨?_, HB8.out, F8.out⟩, by first | (simp [intOf]; done) | (simp [intOf]; omega)⟩
            by_cases hj0 : j = 0
            · subst hj0
              exact .inl (by go_num)
            · exact .inr ⟨j - 1, by omega, by go_num⟩
          · go_wp2_with fail
            have HB1 := HB.out
            have hn7 := F7.out
            clear F7
            go_region_held3 (fun W => Below w.heap.size w W ∧ New 5 w.heap.size W a6 c6 body ∧ Tab W) (first | assumption | exact ⟨HB1, hn7, HT.out.below HB1 HT.out.lt⟩ | exact keepD ⟨HB1, hn7, HT.out.below HB1 HT.out.lt⟩ | exact keepN (by assumption) (by assumption) | exact keepD (by assumption) | exact keepDN (by assumption))
              (first
                | (go_at_call 13; refine (frame_any a6 c6 _ body _ (New.isB (And.left (And.right (by assumption)))) (And.right (And.right (by assumption))) (New.cap hn7) (by omega) (by omega)).mono ?_; rintro e w8 ⟨v8, rfl, ho, hb⟩; obtain ⟨a8, c8, rfl, hn8⟩ := New.ofOwn ho; clear ho)
                | (go_at_call 11; refine (same_any _ a _ cap _ _ (frame body) _ (by exact hn8.isB) (HP6.out _ (And.left (by assumption))) (by omega) (by omega) (by omega)).mono ?_; rintro e w9 ⟨rfl, d9, rfl⟩))
            go_wp2_with fail
            go_ret
            exact ⟨by simp, And.left (by assumption)⟩

end CodecForm
end Go.Proofs.YtpefacgdkgediaaDoor
