import Derived.Test.YtpefacgdkgediaaDoorProg
import Derived.Test.YtpefacgdkgediaaDoorForL
import Derived.WalkKit
import Derived.WalkSpells
import Derived.WalkLawsBesides
import Derived.Deep.RegionHeld3
namespace Go.Proofs.YtpefacgdkgediaaDoor
namespace CodecForm
open Go.RowKit CMath Byt Cod
set_option linter.unusedVariables false
set_option maxRecDepth 20000

set_option maxHeartbeats 2000000 in
theorem walk_OE (a : Option Addr) (cap : Nat) (l : List Nat) (most : Int) (w : World) (hx : IsB w a l) (nx : a = none → cap = 0) (cx : l.length ≤ cap) (mx : cap ≤ 9223372036854775807) (ht : Tab w) (hm : -9223372036854775808 ≤ most ∧ most ≤ 9223372036854775807) (hlen : l.length + 4096 ≤ 140737488355328) (n k : Nat) (hr : rd l 0 0 = (n, k, 0)) (s : List Nat) (k2 : Nat) (hr2 : text l most = (s, k2, 0)) (f3 : Nat) (hr3 : unframe l = ([], 0, f3)) (hf3 : f3 ≠ 0) :
    Calls Tryd.prog 6 #[.slice a l.length cap, .int .i64 most] w fun e w' => e = .returned (.bool true) ∧ Below w.heap.size w w' := by
  obtain ⟨b1, b2, b3⟩ := rd_bytes hx.2 hr
  obtain ⟨b4, b5, b6⟩ := rd_ok0 hx.2 hr
  have HNUM : Hid (l.take k = num n) := b6
  have hkl : (num n).length = k := b5.symm
  clear b5 b6
  obtain ⟨t1, t2, t3, t4, t5, t6⟩ := text_form hx.2 hr2
  have HWOR : Hid (l.take k2 = words s) := t4
  have HTP : Hid (∀ i, i < k2 → (text (l.take i) most).2.2 ≠ 0) := t6
  have hsz := ofB_size s
  have hsb : ∀ x ∈ s, x < 256 := fun x hx' => mem_take (n := k2) hx.2 x (by rw [t4]; exact List.mem_append_right _ hx')
  have HSB : Hid (strB (ofB s) = s) := strB_ofB hsb
  have hwl : (words s).length = k2 := by rw [← t4]; simp; omega
  have hsk : s.length ≤ k2 := by rw [← hwl]; simp [words]
  clear t4 t6 hsb
  have g3 : ((f3 : Int) != 0) = true := by simp; omega
  have HR : Hid (_ = _) := hr
  have HR2 : Hid (_ = _) := hr2
  have HR3 : Hid (_ = _) := hr3
  have HX : Hid (IsB w a l) := hx
  have NX : Hid (a = none → cap = 0) := nx
  have HT : Hid (Tab w) := ht
  have HB : Hid (Below w.heap.size w w) := Below.refl _ _
  have HU : Hid (∀ w', Below w.heap.size w w' → Calls Tryd.prog 19 #[.slice a l.length cap] w' fun e w'' => e = .returned (.tuple #[.int .u64 n, .int .i64 k, .int .i64 0]) ∧ w'' = w') := fun w' hb => by
    have h := uint_any a cap _ l w' (hx.below hb) cx mx rfl
    rw [hr] at h
    exact h
  have HTX : Hid (∀ w', Below w.heap.size w w' → Calls Tryd.prog 21 #[.slice a l.length cap, .int .i64 most] w' fun e w'' => e = .returned (.tuple #[.string (ofB s), .int .i64 k2, .int .i64 0]) ∧ w'' = w') := fun w' hb => by
    have h := text_any a cap _ l most w' (hx.below hb) cx mx hm rfl
    unfold txt at h
    rw [hr2] at h
    exact h
  have HUN : Hid (∀ w', Below w.heap.size w w' → Calls Tryd.prog 22 #[.slice a l.length cap] w' fun e w'' => ∃ a' c', e = .returned (.tuple #[.slice a' 0 c', .int .i64 0, .int .i64 f3]) ∧ New 5 w'.heap.size w'' a' c' ([] : List Nat) ∧ Below w'.heap.size w' w'') := fun w' hb => by
    have h := unframe_any a cap _ l w' (hx.below hb) (ht.below hb ht.lt) cx mx rfl
    unfold unfV at h
    rw [hr3] at h
    exact h
  clear hx nx ht hr hr2 hr3
  have q1 : decide ((k : Int) < 1) = false := by simp; omega
  have q1' : decide (k < 1) = false := by simp; omega
  have q2 : decide (l.length < k) = false := by simp; omega
  have q3 : (0 : Int) ≤ (k : Int) := by omega
  have q4 : (k : Int) ≤ (l.length : Int) := by omega
  have q5 : (k : Int) ≤ (cap : Int) := by omega
  have r1 : decide ((k2 : Int) < 1) = false := by simp; omega
  have r2 : decide (l.length < k2) = false := by simp; omega
  have r3 : (0 : Int) ≤ (k2 : Int) := by omega
  have r4 : (k2 : Int) ≤ (l.length : Int) := by omega
  have r5 : (k2 : Int) ≤ (cap : Int) := by omega
  have r6 : decide (most < (s.length : Int)) = false := by simp; omega
  have r7 : decide (most < ((ofB s).size : Int)) = false := by rw [hsz]; exact r6
  go_enter Tryd.func6, Tryd.ntmps6
  go_wp2_with fail
  refine (known_any w HT.out).mono ?_
  rintro e w1 ⟨rfl, hb⟩
  have HB' : Hid (Below w.heap.size w w1) := HB.out.trans (hb.mono HB.out.size)
  clear HB
  have HB := HB'
  clear HB'
  clear hb
  go_wp2_with fail
  refine (HU.out _ HB.out).mono ?_
  rintro e w' ⟨rfl, hw⟩
  have hw2 := hw.symm
  clear hw
  subst hw2
  go_wp2_with fail
  have HP2 : Hid (∀ W, Below w.heap.size w W → IsB W a (num n)) := fun W hb => by have h := (HX.out.below hb).take k; rw [HNUM.out] at h; exact h
  have HB1 := HB.out
  go_region_held3 (fun W => Below w.heap.size w W) (first | assumption | exact keepB (by assumption) (by assumption) | exact Below.drew (by assumption) | exact below_drewN (by assumption) _ | exact below_drewN (keepB (by assumption) (by assumption)) _)
    (first
      | (go_at_call 18; refine (putUint_n none 0 0 [] n _ (IsB.nil _ _) (fun _ => rfl) (by simp) b4 rfl).mono ?_; rintro e w2 ⟨v2, rfl, ho, hb⟩; rw [List.nil_append] at ho; obtain ⟨a2, c2, rfl, hn2⟩ := New.ofOwn ho; clear ho)
      | (go_at_call 11; refine (same_any _ a _ cap _ _ (num n) _ (by exact hn2.isB) (HP2.out _ (by assumption)) (by omega) (by omega) (by omega)).mono ?_; rintro e w3 ⟨rfl, d3, rfl⟩))
  have HB3 : Hid (Below w.heap.size w (w2.drewN d3)) := by assumption
  generalize w2.drewN d3 = w3 at *
  clear hb hn2 HB1 HB HP2
  have HB := HB3
  clear HB3
  go_wp2_with fail
  go_loopw [8] (fun i wr => ∃ j : Nat, j ≤ k ∧ i = .int .i64 j ∧ wr = w3) (fun i _ => k - (intOf i).toNat)
  case atStart => exact ⟨0, by omega, rfl, rfl⟩
  case round =>
    obtain ⟨j, hj, rfl, rfl⟩ := hrel
    by_cases hlt : j < k
    · go_wp2_with fail
      refine (uint_part HR.out a cap j _ (HX.out.below HB.out) cx mx hlt b2).mono ?_
      rintro e w' ⟨rfl, hw⟩
      have hw2 := hw.symm
      clear hw
      subst hw2
      go_wp2_with fail
      exact ⟨⟨j + 1, by omega, by go_num, trivial⟩, by simp [intOf]; omega⟩
    · obtain rfl : j = k := by omega
      clear hj hlt
      rename World => w3
      go_wp2_with fail
      refine (HTX.out _ HB.out).mono ?_
      rintro e w' ⟨rfl, hw⟩
      have hw2 := hw.symm
      clear hw
      subst hw2
      go_wp2_with fail
      have HP3 : Hid (∀ W, Below w.heap.size w W → IsB W a (words s)) := fun W hb => by have h := (HX.out.below hb).take k2; rw [HWOR.out] at h; exact h
      have HB1 := HB.out
      go_region_held3 (fun W => Below w.heap.size w W) (first | assumption | exact keepB (by assumption) (by assumption) | exact Below.drew (by assumption) | exact below_drewN (by assumption) _ | exact below_drewN (keepB (by assumption) (by assumption)) _)
        (first
          | (go_at_call 20; refine (putText_any none 0 0 [] (ofB s) _ (IsB.nil _ _) (fun _ => rfl) (by rw [hsz]; simp; omega) rfl).mono ?_; rintro e w4 ⟨v4, rfl, ho, hb⟩; rw [List.nil_append, HSB.out] at ho; obtain ⟨a4, c4, rfl, hn4⟩ := New.ofOwn ho; clear ho)
          | (go_at_call 11; refine (same_any _ a _ cap _ _ (words s) _ (by exact hn4.isB) (HP3.out _ (by assumption)) (by omega) (by omega) (by omega)).mono ?_; rintro e w5 ⟨rfl, d5, rfl⟩))
      have HB3 : Hid (Below w.heap.size w (w4.drewN d5)) := by assumption
      generalize w4.drewN d5 = w5 at *
      clear hb hn4 HB1 HB HP3
      have HB := HB3
      clear HB3
      go_wp2_with fail
      go_loopw [13] (fun i wr => (i = .int .i64 (-1) ∨ ∃ j : Nat, j < k2 ∧ i = .int .i64 j) ∧ wr = w5) (fun i _ => (intOf i + 1).toNat)
      case atStart => exact ⟨.inr ⟨k2 - 1, by omega, by go_num⟩, rfl⟩
      case round =>
        obtain ⟨hi, rfl⟩ := hrel
        rcases hi with rfl | ⟨j, hj, rfl⟩
        · rename World => w5
          go_wp2_with fail
          refine (HUN.out _ HB.out).mono ?_
          rintro e w6 ⟨a6, c6, rfl, _, hb⟩
          have HB6 : Hid (Below w.heap.size w w6) := HB.out.trans (hb.mono HB.out.size)
          clear hb
          go_wp2_with fail
          go_ret
          exact ⟨by simp, HB6.out⟩
        · by_cases hgt : (k2 : Int) - 9 < (j : Int)
          · go_wp2_with fail
            refine (text_part (s := s) HTP.out a cap j _ (HX.out.below HB.out) cx mx hm hj t2).mono ?_
            rintro e w' ⟨⟨t', k', f', rfl, hf'⟩, hw⟩
            have hw2 := hw.symm
            clear hw
            subst hw2
            go_wp2_with fail
            refine ⟨⟨?_, trivial⟩, by first | (simp [intOf]; done) | (simp [intOf]; omega)⟩
            by_cases hj0 : j = 0
            · subst hj0
              exact .inl (by go_num)
            · exact .inr ⟨j - 1, by omega, by go_num⟩
          · rename World => w5
            go_wp2_with fail
            refine (HUN.out _ HB.out).mono ?_
            rintro e w6 ⟨a6, c6, rfl, _, hb⟩
            have HB6 : Hid (Below w.heap.size w w6) := HB.out.trans (hb.mono HB.out.size)
            clear hb
            go_wp2_with fail
            go_ret
            exact ⟨by simp, HB6.out⟩

end CodecForm
end Go.Proofs.YtpefacgdkgediaaDoor
