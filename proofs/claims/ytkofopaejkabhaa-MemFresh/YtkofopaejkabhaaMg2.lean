import Derived.Test.YtkofopaejkabhaaMg1
import Derived.Lib.MinMax
namespace Go.Proofs.Ytkofopaejkabhaa
namespace Grp
open Go.RowKit Laws Irw Crw Sk
set_option linter.unusedVariables false
set_option maxRecDepth 100000
set_option linter.unusedSimpArgs false

def cutS (s : ByteArray) (n : Nat) : ByteArray := s.extract 0 (min s.size n)
def key1 (k : ByteArray) : ByteArray := if k.size = 0 then ⟨#[107]⟩ else k
def rightW (x : Chk.Wr) : Chk.Wr := (cutS (key1 x.1) 64, x.2.1, if x.2.1 = true then ⟨#[]⟩ else cutS x.2.2 512)
def rightL (ws : List Chk.Wr) : List Chk.Wr := (ws.take 16).map rightW
theorem cutS_size (s : ByteArray) (n : Nat) : (cutS s n).size = min s.size n := by
  unfold cutS
  rw [ByteArray.size_extract]
  omega
theorem right_ok (x : Chk.Wr) : 0 < (rightW x).1.size ∧ (rightW x).1.size ≤ 64 ∧ (rightW x).2.2.size ≤ 512 ∧ (Chk.val (rightW x).2.1 (rightW x).2.2) = (rightW x).2.2 := by
  unfold rightW
  dsimp only
  have hk : 0 < (key1 x.1).size := by
    unfold key1
    split
    · decide
    · omega
  refine ⟨by rw [cutS_size]; omega, by rw [cutS_size]; omega, ?_, ?_⟩
  · split
    · exact Nat.zero_le _
    · rw [cutS_size]; omega
  · cases h : x.2.1
    · rfl
    · rfl
theorem isW_new {w : World} {k v : ByteArray} {d : Bool} {u : TypeId} : IsK kW (w.alloc (.cells #[.string k, .bool d, .string v] u)) (some ⟨w.heap.size, 0, none⟩) [(k, d, v)] := by
  refine IsK.of ⟨by simp, fun i z hz j u hu => ?_⟩
  cases i with
  | zero =>
    simp at hz; subst hz
    rw [World.cell?_alloc_at _ _ _ _ rfl]
    rcases (show j = 0 ∨ j = 1 ∨ j = 2 ∨ 3 ≤ j by omega) with rfl | rfl | rfl | hj
    · exact hu
    · exact hu
    · exact hu
    · exfalso
      rw [show (kW.cs (k, d, v))[j]? = none from List.getElem?_eq_none (by show 3 ≤ j; exact hj)] at hu
      cases hu
  | succ i => simp at hz
theorem isW_new2 {w : World} {k v : ByteArray} {d : Bool} {u : TypeId} {g : Nat} (hg : w.heap.size = g) : IsK kW (w.alloc (.cells #[.string k, .bool d, .string v] u)) (some ⟨g, 0, none⟩) [(k, d, v)] := by
  subst hg
  exact isW_new
theorem cut_min (s : ByteArray) (n : Nat) : s.extract 0 (min (s.size : Int) (n : Int)).toNat = cutS s n := by
  unfold cutS
  congr 1
  omega
theorem right_a1 {kk vv : ByteArray} (h : ¬ kk.size = 0) : rightW (kk, false, vv) = (kk.extract 0 (min (kk.size : Int) 64).toNat, false, vv.extract 0 (min (vv.size : Int) 512).toNat) := by
  have e1 := cut_min kk 64
  have e2 := cut_min vv 512
  have e3 : key1 kk = kk := if_neg h
  show (cutS (key1 kk) 64, false, cutS vv 512) = _
  rw [e3, ← e1, ← e2]
  rfl
theorem right_b1 {kk vv : ByteArray} (h : ¬ kk.size = 0) : rightW (kk, true, vv) = (kk.extract 0 (min (kk.size : Int) 64).toNat, true, ⟨#[]⟩) := by
  have e1 := cut_min kk 64
  have e3 : key1 kk = kk := if_neg h
  show (cutS (key1 kk) 64, true, (⟨#[]⟩ : ByteArray)) = _
  rw [e3, ← e1]
  rfl
theorem right_a0 {kk vv : ByteArray} (h : kk.size = 0) : rightW (kk, false, vv) = ((⟨#[107]⟩ : ByteArray).extract 0 (min 1 64 : Int).toNat, false, vv.extract 0 (min (vv.size : Int) 512).toNat) := by
  have e2 := cut_min vv 512
  have e3 : key1 kk = ⟨#[107]⟩ := if_pos h
  show (cutS (key1 kk) 64, false, cutS vv 512) = _
  rw [e3, ← e2]
  rfl
theorem right_b0 {kk vv : ByteArray} (h : kk.size = 0) : rightW (kk, true, vv) = ((⟨#[107]⟩ : ByteArray).extract 0 (min 1 64 : Int).toNat, true, ⟨#[]⟩) := by
  have e3 : key1 kk = ⟨#[107]⟩ := if_pos h
  show (cutS (key1 kk) 64, true, (⟨#[]⟩ : ByteArray)) = _
  rw [e3]
  rfl
set_option maxHeartbeats 2000000 in
theorem right_any (w : World) (a : Option Addr) (cap n : Nat) (ws : List Chk.Wr) (hn : ws.length = n) (hw : Chk.IsWr w a ws) :
    Calls Try.prog 28 #[.slice a n cap] w fun r w' => ∃ v T, r = .returned v ∧ Old w T w' ∧ OwnK kW 1 T w' v (rightL ws) := by
  have HW : Hid (Chk.IsWr w a ws) := hw
  have HN : Hid (ws.length = n) := hn
  have hmx : (n : Int) ≤ 9223372036854775807 := by have := hw.2.1; unfold maxLen at this; omega
  obtain ⟨i0, hi0, hz0, hz1, hz2⟩ := info_parts infoW
  clear hw hn
  go_enter Try.func28, Try.ntmps28
  go_wp2
  go_loopw [3, 4, 5] (fun v i _ wr => ∃ (k : Nat) (T : Nat → Nat), k ≤ n ∧ k ≤ 16 ∧ i = .int .i64 (k : Int) ∧ Hid (Old w T wr ∧ OwnK kW 1 T wr v ((ws.take k).map rightW))) (fun _ i _ _ => n - (intOf i).toNat)
  case atStart => exact ⟨0, fun _ => 0, Nat.zero_le _, Nat.zero_le _, rfl, Old.first _, OwnK.empty _ _ _⟩
  case round =>
    obtain ⟨k, T, hk, hk16, rfl, HK⟩ := hrel
    by_cases hlt : k < n
    · have q1 : (k : Int) < (n : Int) := by omega
      by_cases h16 : k < 16
      · have q2 : (k : Int) < 16 := by omega
        have hkl : k < ws.length := by rw [HN.out]; exact hlt
        obtain ⟨b, off, rfl, hr⟩ := (HW.out.below HK.out.1.below).1 (by intro e; rw [e] at hkl; simp at hkl)
        obtain ⟨kk, dd, vv, hx⟩ : ∃ kk dd vv, ws[k]? = some (kk, dd, vv) := ⟨_, _, _, List.getElem?_eq_getElem hkl⟩
        obtain ⟨c0, c1, c2⟩ := hr.2 k _ hx
        have HTK : Hid ((ws.take (k + 1)).map rightW = (ws.take k).map rightW ++ [rightW (kk, dd, vv)]) := by
          show (ws.take (k + 1)).map rightW = _
          rw [List.take_succ_eq_append_getElem hkl, List.map_append, List.map_singleton]
          rw [List.getElem?_eq_getElem hkl] at hx
          rw [Option.some.inj hx]
        obtain ⟨v3, hv3, hcl⟩ : ∃ v3 c3, u3 = Value.slice v3 k c3 := by
          obtain ⟨a', c', e, _⟩ := HK.out.2.form
          refine ⟨a', c', ?_⟩
          rw [e]
          congr 1
          simp; omega
        subst hcl
        dsimp only at c0 c1 c2
        clear hr hx hkl
        have hm0 : (0 : Int) ≤ min (kk.size : Int) 64 := by omega
        have hm1 : min (kk.size : Int) 64 ≤ (kk.size : Int) := by omega
        have hm2 : (0 : Int) ≤ min (vv.size : Int) 512 := by omega
        have hm3 : min (vv.size : Int) 512 ≤ (vv.size : Int) := by omega
        cases dd
        · by_cases hk0 : kk.size = 0
          · have hek : kk = ⟨#[]⟩ := ByteArray.size_eq_zero_iff.1 hk0
            go_wp2_with (at_builtin; go_loud (refine wpList_appK kW _ (by rfl) (.tmp 44) (.tmp 46) 52 (by rfl) i0 undW hi0 hz0 hz1 hz2 1 T (.slice v3 k hv3) ((ws.take k).map rightW) (by rfl) (HK.out.2.below (((Below.refl _ _).alloc (Nat.le_refl _) _).alloc (by simp) _)) (some ⟨wr.heap.size + 1, 0, none⟩) 1 1 [_] (by rfl) (by rfl) (by simp) (isW_new2 (by simp)) (by simp; omega) ?_; intro a7 c7 T7 w7 hown7 hgo7; have HO7 : Hid (Old w T7 w7 ∧ OwnK kW 1 T7 w7 _ _) := ⟨(HK.out.1.goes (Goes.below (t := (· = 1)) (((Below.refl _ _).alloc (Nat.le_refl _) _).alloc (by simp) _)) (by omega)).goes hgo7 (by omega), hown7⟩; clear hown7 hgo7))
            go_roundw
            case rel =>
              refine ⟨k + 1, T7, by omega, by omega, by go_num, HO7.out.1, ?_⟩
              have h9 := HO7.out.2
              rw [List.length_map, List.length_take] at h9
              rw [HTK.out]
              rw [show rightW (kk, false, vv) = ((⟨#[107]⟩ : ByteArray).extract 0 (min 1 64 : Int).toNat, false, vv.extract 0 (min (vv.size : Int) 512).toNat) from right_a0 hk0]
              exact h9
            case measure => simp [intOf]; omega
          · have hk0' : ¬ (kk.size : Int) = 0 := by omega
            go_wp2_with (at_builtin; go_loud (refine wpList_appK kW _ (by rfl) (.tmp 44) (.tmp 46) 52 (by rfl) i0 undW hi0 hz0 hz1 hz2 1 T (.slice v3 k hv3) ((ws.take k).map rightW) (by rfl) (HK.out.2.below (((Below.refl _ _).alloc (Nat.le_refl _) _).alloc (by simp) _)) (some ⟨wr.heap.size + 1, 0, none⟩) 1 1 [_] (by rfl) (by rfl) (by simp) (isW_new2 (by simp)) (by simp; omega) ?_; intro a7 c7 T7 w7 hown7 hgo7; have HO7 : Hid (Old w T7 w7 ∧ OwnK kW 1 T7 w7 _ _) := ⟨(HK.out.1.goes (Goes.below (t := (· = 1)) (((Below.refl _ _).alloc (Nat.le_refl _) _).alloc (by simp) _)) (by omega)).goes hgo7 (by omega), hown7⟩; clear hown7 hgo7))
            go_roundw
            case rel =>
              refine ⟨k + 1, T7, by omega, by omega, by go_num, HO7.out.1, ?_⟩
              have h9 := HO7.out.2
              rw [List.length_map, List.length_take] at h9
              rw [HTK.out]
              rw [show rightW (kk, false, vv) = (kk.extract 0 (min (kk.size : Int) 64).toNat, false, vv.extract 0 (min (vv.size : Int) 512).toNat) from right_a1 hk0]
              exact h9
            case measure => simp [intOf]; omega
        · by_cases hk0 : kk.size = 0
          · have hek : kk = ⟨#[]⟩ := ByteArray.size_eq_zero_iff.1 hk0
            go_wp2_with (at_builtin; go_loud (refine wpList_appK kW _ (by rfl) (.tmp 44) (.tmp 46) 52 (by rfl) i0 undW hi0 hz0 hz1 hz2 1 T (.slice v3 k hv3) ((ws.take k).map rightW) (by rfl) (HK.out.2.below (((Below.refl _ _).alloc (Nat.le_refl _) _).alloc (by simp) _)) (some ⟨wr.heap.size + 1, 0, none⟩) 1 1 [_] (by rfl) (by rfl) (by simp) (isW_new2 (by simp)) (by simp; omega) ?_; intro a7 c7 T7 w7 hown7 hgo7; have HO7 : Hid (Old w T7 w7 ∧ OwnK kW 1 T7 w7 _ _) := ⟨(HK.out.1.goes (Goes.below (t := (· = 1)) (((Below.refl _ _).alloc (Nat.le_refl _) _).alloc (by simp) _)) (by omega)).goes hgo7 (by omega), hown7⟩; clear hown7 hgo7))
            go_roundw
            case rel =>
              refine ⟨k + 1, T7, by omega, by omega, by go_num, HO7.out.1, ?_⟩
              have h9 := HO7.out.2
              rw [List.length_map, List.length_take] at h9
              rw [HTK.out]
              rw [show rightW (kk, true, vv) = ((⟨#[107]⟩ : ByteArray).extract 0 (min 1 64 : Int).toNat, true, ⟨#[]⟩) from right_b0 hk0]
              exact h9
            case measure => simp [intOf]; omega
          · have hk0' : ¬ (kk.size : Int) = 0 := by omega
            go_wp2_with (at_builtin; go_loud (refine wpList_appK kW _ (by rfl) (.tmp 44) (.tmp 46) 52 (by rfl) i0 undW hi0 hz0 hz1 hz2 1 T (.slice v3 k hv3) ((ws.take k).map rightW) (by rfl) (HK.out.2.below (((Below.refl _ _).alloc (Nat.le_refl _) _).alloc (by simp) _)) (some ⟨wr.heap.size + 1, 0, none⟩) 1 1 [_] (by rfl) (by rfl) (by simp) (isW_new2 (by simp)) (by simp; omega) ?_; intro a7 c7 T7 w7 hown7 hgo7; have HO7 : Hid (Old w T7 w7 ∧ OwnK kW 1 T7 w7 _ _) := ⟨(HK.out.1.goes (Goes.below (t := (· = 1)) (((Below.refl _ _).alloc (Nat.le_refl _) _).alloc (by simp) _)) (by omega)).goes hgo7 (by omega), hown7⟩; clear hown7 hgo7))
            go_roundw
            case rel =>
              refine ⟨k + 1, T7, by omega, by omega, by go_num, HO7.out.1, ?_⟩
              have h9 := HO7.out.2
              rw [List.length_map, List.length_take] at h9
              rw [HTK.out]
              rw [show rightW (kk, true, vv) = (kk.extract 0 (min (kk.size : Int) 64).toNat, true, ⟨#[]⟩) from right_b1 hk0]
              exact h9
            case measure => simp [intOf]; omega
      · obtain rfl : k = 16 := by omega
        go_wp2
        go_ret
        exact ⟨_, T, rfl, HK.out⟩
    · obtain rfl : k = n := by omega
      have HE : Hid ((ws.take k).map rightW = rightL ws) := by
        show _ = _
        unfold rightL
        rw [List.take_of_length_le (by rw [HN.out]; exact Nat.le_refl _), List.take_of_length_le (by rw [HN.out]; exact hk16)]
      go_wp2
      go_ret
      exact ⟨_, T, rfl, HK.out.1, by rw [← HE.out]; exact HK.out.2⟩
end Grp
end Go.Proofs.Ytkofopaejkabhaa
