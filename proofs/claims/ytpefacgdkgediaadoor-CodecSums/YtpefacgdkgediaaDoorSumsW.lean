import Derived.Test.YtpefacgdkgediaaDoorProg
import Derived.Test.YtpefacgdkgediaaDoorSum
import Derived.Test.YtpefacgdkgediaaDoorSta
import Derived.WalkKit
import Derived.WalkSpells
import Derived.WalkLawsBesides
namespace Go.Proofs.YtpefacgdkgediaaDoor
namespace CodecSums
open Go.RowKit CMath Byt Cod Laws Rom Sta
set_option linter.unusedVariables false
set_option maxRecDepth 20000

def FX (i x : Nat) : Nat := x ^^^ ((i + 1) % 256)
theorem FX_lt (i x : Nat) (h : x < 256) : FX i x < 256 := Nat.xor_lt_two_pow (n := 8) (by omega) (by omega)
theorem xorX (x i : Nat) (h : x < 256) : bits .xor .u8 (x : Int) (((i : Int) + 1) % 256) = ((FX i x : Nat) : Int) := by
  have e := u8_xor_nat x ((i + 1) % 256) h (by omega)
  rw [show (((i + 1) % 256 : Nat) : Int) = ((i : Int) + 1) % 256 by omega] at e
  exact e

set_option maxHeartbeats 1000000 in
theorem walk (a : Option Addr) (cap : Nat) (l : List Nat) (w : World) (h : IsB w a l) (hc : a = none → cap = 0) (ht : Tab w) (hlen : l.length + 4096 ≤ 140737488355328) :
    Calls Tryd.prog 3 #[.slice a l.length cap] w fun e w' => e = .returned (.bool true) ∧ Below w.heap.size w w' := by
  have HI : Hid (IsB w a l) := h
  have HN : Hid (a = none → cap = 0) := hc
  have HT : Hid (Tab w) := ht
  clear h hc ht
  go_enter Tryd.func3, Tryd.ntmps3
  go_wp2_with fail
  refine (copy_n a cap _ l w HI.out HN.out (by omega) rfl).mono ?_
  rintro e w1 ⟨ka, kc, rfl, hk1, hb1⟩
  have HK1 : Hid (New 5 w.heap.size w1 ka kc l) := hk1
  have HB1 : Hid (Below w.heap.size w w1) := hb1
  have hs1 := hb1.size
  clear hk1 hb1
  go_wp2_with fail
  refine (bytes_any w1.heap.size w.heap.size (.slice none 0 0) (.slice none 0 0) [] a cap l _ (room_new w1 w.heap.size hs1) (by simp) HN.out ((HI.out.below HB1.out).below ((Below.refl _ _).alloc (Nat.le_refl _) _)) (by omega)).mono ?_
  rintro e w2 ⟨g, c, v0, v1, rfl, hrm, hrow, hg, _, _, hkeep⟩
  have HS : Hid (St w w2 w1.heap.size g c l.length kc ka v0 v1 l l) := St.first HB1.out HK1.out HI.out.2 hrm hrow hg hkeep
  clear hrm hrow hg hkeep
  go_wp2_with fail
  refine (refSum_any ka kc _ l _ HS.out.kept.isB (by omega) rfl).mono ?_
  rintro e w' ⟨rfl, hw⟩
  have hw2 := hw.symm
  clear hw
  subst hw2
  go_wp2_with fail
  refine (sum_any (some ⟨g, 0, none⟩) (l.length + 600) _ l _ HS.out.isB (HT.out.below HS.out.bel HT.out.lt) (by omega) rfl).mono ?_
  rintro e w' ⟨rfl, hw⟩
  have hw2 := hw.symm
  clear hw
  subst hw2
  go_wp2_with fail
  refine (sum_any (some ⟨g, 0, none⟩) (l.length + 600) _ l _ HS.out.isB (HT.out.below HS.out.bel HT.out.lt) (by omega) rfl).mono ?_
  rintro e w' ⟨rfl, hw⟩
  have hw2 := hw.symm
  clear hw
  subst hw2
  go_wp2_with fail
  refine (sum_any (some ⟨g, 0, none⟩) (l.length + 600) _ l _ HS.out.isB (HT.out.below HS.out.bel HT.out.lt) (by omega) rfl).mono ?_
  rintro e w' ⟨rfl, hw⟩
  have hw2 := hw.symm
  clear hw
  subst hw2
  go_wp2_with fail
  refine (same_any (some ⟨g, 0, none⟩) ka (l.length + 600) kc _ _ l w2 HS.out.isB HS.out.kept.isB (by omega) rfl rfl).mono ?_
  rintro e w3 ⟨rfl, d3, rfl⟩
  have hb : Below w2.heap.size w2 (w2.drewN d3) := below_drewN (Below.refl _ _) _
  generalize w2.drewN d3 = w3 at *
  have HS' : Hid (St w w3 w1.heap.size g c l.length kc ka v0 v1 l l) := HS.out.below hb
  clear HS
  have HS := HS'
  clear HS'
  clear hb
  go_wp2_with fail
  refine (hold_any _ _ v0 v1 _ _ HS.out.rm (by simp)).mono ?_
  rintro e w' ⟨rfl, hw⟩
  have hw2 := hw.symm
  clear hw
  subst hw2
  go_wp2_with fail
  go_loopw [7] (fun i wr => ∃ k : Nat, k ≤ l.length ∧ i = .int .i64 k ∧ St w wr w1.heap.size g c l.length kc ka v0 v1 (mix FX l k) l) (fun i _ => l.length - (intOf i).toNat)
  case atStart => exact ⟨0, Nat.zero_le _, rfl, by rw [mix_zero]; exact HS.out⟩
  case round =>
    obtain ⟨k, hk, rfl, hst⟩ := hrel
    have HU : Hid (St w wr w1.heap.size g c l.length kc ka v0 v1 (mix FX l k) l) := hst
    clear hst HS
    by_cases hlt : k < l.length
    · obtain ⟨y, hy⟩ : ∃ y, l[k]? = some y := ⟨_, List.getElem?_eq_getElem hlt⟩
      have hyb : y < 256 := HI.out.2 y (List.mem_of_getElem? hy)
      have c0 := HU.out.inn.2 k y (by rw [mix_get, hy]; simp)
      rw [Nat.zero_add] at c0
      have f0 := (HU.out.rm.lent (g, l.length, c) (by simp)).2.2.2.2.2.1 k
      have HY : Hid (l[k]? = some y) := hy
      clear hy
      go_wp2_with fail
      exact ⟨⟨k + 1, by omega, by go_num, St.set HU.out HY.out (FX_lt k y hyb) _ (xorX y k hyb)⟩, by simp [intOf]; omega⟩
    · obtain rfl : k = l.length := by omega
      clear hk hlt
      have hll := mix_length FX l l.length
      have HM : Hid (∀ x ∈ mix FX l l.length, x < 256) := HU.out.byte
      generalize mix FX l l.length = l2 at *
      have HS := HU
      clear HU
      rename World => w4
      go_wp2_with fail
      refine (sum_any (some ⟨g, 0, none⟩) (l.length + 600) _ l2 _ HS.out.isB (HT.out.below HS.out.bel HT.out.lt) (by omega) (by omega)).mono ?_
      rintro e w' ⟨rfl, hw⟩
      have hw2 := hw.symm
      clear hw
      subst hw2
      go_wp2_with fail
      refine (copy_n (some ⟨g, 0, none⟩) (l.length + 600) _ l2 w4 HS.out.isB (by simp) (by omega) (by omega)).mono ?_
      rintro e w5 ⟨a5, c5, rfl, hn5, hb⟩
      have HS' : Hid (St w w5 w1.heap.size g c l.length kc ka v0 v1 l2 l) := HS.out.below hb
      clear HS
      have HS := HS'
      clear HS'
      have H5 : Hid (New 5 w4.heap.size w5 a5 c5 (l2)) := hn5
      clear hb hn5
      go_wp2_with fail
      refine (refSum_any a5 c5 _ l2 _ H5.out.isB (by omega) (by omega)).mono ?_
      rintro e w' ⟨rfl, hw⟩
      have hw2 := hw.symm
      clear hw
      subst hw2
      go_wp2_with fail
      refine (sum_any ka kc _ l _ HS.out.kept.isB (HT.out.below HS.out.bel HT.out.lt) (by omega) (by omega)).mono ?_
      rintro e w' ⟨rfl, hw⟩
      have hw2 := hw.symm
      clear hw
      subst hw2
      go_wp2_with fail
      go_ret
      exact ⟨by simp, HS.out.bel⟩

end CodecSums
end Go.Proofs.YtpefacgdkgediaaDoor
