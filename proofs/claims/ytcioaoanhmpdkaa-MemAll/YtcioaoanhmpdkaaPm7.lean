import Derived.Test.YtcioaoanhmpdkaaPm5
import Derived.Test.YtcioaoanhmpdkaaPm6
import Derived.Deep.RegionLaw
import Derived.Deep.RegionHeld3
import Derived.Deep.DeepCutAuto
import Derived.BigQuiet
namespace Go.Proofs.Ytcioaoanhmpdkaa
namespace Mem
open Go.RowKit Laws Irw Erw KMath Skm Byt Sk Grp Crw Chk Mq
set_option linter.unusedVariables false
set_option maxRecDepth 100000
set_option linter.unusedSimpArgs false
theorem PmAns.start {t u : Nat} {T : Nat → Nat} {w W w' : World} {M L Q R : Nat} {ds : List Nat} {ns : List Nd} (h : PmAns t u T W M L Q R ds ns w') (hb : Below w.heap.size w W) : PmAns t u T w M L Q R ds ns w' := by
  obtain ⟨T', ns', hs', bs', fz', h1, h2, h3⟩ := h
  exact ⟨T', ns', hs', bs', fz', h1, (Goes.below hb).trans h2, h3⟩
set_option maxHeartbeats 8000000 in
theorem plays_add (t u : Nat) (ht : 0 < t) (hu : 0 < u) (htu : t ≠ u ∧ t + 1 ≠ u ∧ t + 2 ≠ u) (T : Nat → Nat) (w : World) (M L Q R : Nat) (ds : List Nat) (ns : List Nd) (hs : List Int) (bs : List Nat) (fz : Bool) (h : Pm t u T w M L Q R ds ns hs bs fz) (hz : ∀ b, w.heap.size ≤ b → T b = 0) (hd47 : ds.length ≤ 140737488355328) (hn : ns.length ≤ 100000000)
    (sec : Bool) (xs : Int) (hxs : 0 ≤ xs ∧ xs ≤ 18446744073709551615) (xk : ByteArray) (a : Option Addr) (n c : Nat) (ws : List Wr) (hw : IsWr w a ws) (hwn : ws.length = n) (hwc : a = none → c = 0) (hwl : n ≤ 100000) (hwz : ∀ b off, ws ≠ [] → a = some ⟨b, off, none⟩ → T b = 0) (nn : Int) :
    Calls Try.prog 12 #[.agg #[.pointer (some ⟨M, 0, none⟩), .pointer (some ⟨Q, 0, none⟩)], .agg #[.int .i64 1, .bool sec, .int .u64 xs, .string xk, .slice a n c, .int .i64 nn]] w fun e w' => e = .returned (.bool true) ∧ PmAns t u T w M L Q R ds ns w' := by
  have HP : Hid (Pm t u T w M L Q R ds ns hs bs fz) := h
  have HZ : Hid (∀ b, w.heap.size ≤ b → T b = 0) := hz
  have HWR : Hid (IsWr w a ws ∧ ws.length = n ∧ (a = none → c = 0) ∧ n ≤ 100000 ∧ ∀ b off, ws ≠ [] → a = some ⟨b, off, none⟩ → T b = 0) := ⟨hw, hwn, hwc, hwl, hwz⟩
  have HLN : Hid (ds.length ≤ 140737488355328 ∧ ns.length ≤ 100000000 ∧ (0 ≤ xs ∧ xs ≤ 18446744073709551615)) := ⟨hd47, hn, hxs⟩
  have HTU : Hid (t ≠ u ∧ t + 1 ≠ u ∧ t + 2 ≠ u) := htu
  have HT0 : Hid (0 < t ∧ 0 < u) := ⟨ht, hu⟩
  have hb1 : Below w.heap.size w ((w.alloc (.cells #[.pointer (some ⟨M, 0, none⟩), .pointer (some ⟨Q, 0, none⟩)] 49)).alloc (.cells #[.int .i64 1, .bool sec, .int .u64 xs, .string xk, .slice a n c, .int .i64 nn] 54)) := ((Below.refl _ _).alloc (Nat.le_refl _) _).alloc (by simp) _
  have g1 : ((w.alloc (.cells #[.pointer (some ⟨M, 0, none⟩), .pointer (some ⟨Q, 0, none⟩)] 49)).alloc (.cells #[.int .i64 1, .bool sec, .int .u64 xs, .string xk, .slice a n c, .int .i64 nn] 54)).heap[w.heap.size]? = some (.cells #[.pointer (some ⟨M, 0, none⟩), .pointer (some ⟨Q, 0, none⟩)] 49) := by
    rw [Below.heap_alloc _ _ _ (by simp)]; exact World.alloc_heap_new _ _
  have g2 : ((w.alloc (.cells #[.pointer (some ⟨M, 0, none⟩), .pointer (some ⟨Q, 0, none⟩)] 49)).alloc (.cells #[.int .i64 1, .bool sec, .int .u64 xs, .string xk, .slice a n c, .int .i64 nn] 54)).heap[w.heap.size + 1]? = some (.cells #[.int .i64 1, .bool sec, .int .u64 xs, .string xk, .slice a n c, .int .i64 nn] 54) := by
    have := World.alloc_heap_new (w.alloc (.cells #[.pointer (some ⟨M, 0, none⟩), .pointer (some ⟨Q, 0, none⟩)] 49)) (.cells #[.int .i64 1, .bool sec, .int .u64 xs, .string xk, .slice a n c, .int .i64 nn] 54)
    rwa [World.size_alloc] at this
  have hs1 : ((w.alloc (.cells #[.pointer (some ⟨M, 0, none⟩), .pointer (some ⟨Q, 0, none⟩)] 49)).alloc (.cells #[.int .i64 1, .bool sec, .int .u64 xs, .string xk, .slice a n c, .int .i64 nn] 54)).heap.size = w.heap.size + 2 := by simp
  clear h hz hw hwn hwc hwl hwz hd47 hn hxs htu ht hu
  go_enter Try.func12, Try.ntmps12
  go_upto_region 1 with (fail)
  generalize ((w.alloc (.cells #[.pointer (some ⟨M, 0, none⟩), .pointer (some ⟨Q, 0, none⟩)] 49)).alloc (.cells #[.int .i64 1, .bool sec, .int .u64 xs, .string xk, .slice a n c, .int .i64 nn] 54)) = W1 at *
  have HBX : Hid (∀ W : World, Below W1.heap.size W1 W → W.cell? ⟨w.heap.size, 0, none⟩ = some (.pointer (some ⟨M, 0, none⟩)) ∧ W.cell? ⟨w.heap.size, 1, none⟩ = some (.pointer (some ⟨Q, 0, none⟩)) ∧ W.cell? ⟨w.heap.size + 1, 0, none⟩ = some (.int .i64 1) ∧ W.cell? ⟨w.heap.size + 1, 1, none⟩ = some (.bool sec) ∧ W.cell? ⟨w.heap.size + 1, 2, none⟩ = some (.int .u64 xs) ∧ W.cell? ⟨w.heap.size + 1, 3, none⟩ = some (.string xk) ∧ W.cell? ⟨w.heap.size + 1, 4, none⟩ = some (.slice a n c) ∧ W.cell? ⟨w.heap.size + 1, 5, none⟩ = some (.int .i64 nn)) := fun W hW => by
    have k1 := (hW.block _ (by omega : w.heap.size < W1.heap.size)).trans g1
    have k2 := (hW.block _ (by omega : w.heap.size + 1 < W1.heap.size)).trans g2
    exact ⟨by rw [cell_of_obj k1]; rfl, by rw [cell_of_obj k1]; rfl, by rw [cell_of_obj k2]; rfl, by rw [cell_of_obj k2]; rfl, by rw [cell_of_obj k2]; rfl, by rw [cell_of_obj k2]; rfl, by rw [cell_of_obj k2]; rfl, by rw [cell_of_obj k2]; rfl⟩
  have HBG : Hid (W1.heap[w.heap.size]? = some (.cells #[.pointer (some ⟨M, 0, none⟩), .pointer (some ⟨Q, 0, none⟩)] 49)) := g1
  have HB1 : Hid (Below w.heap.size w W1 ∧ W1.heap.size = w.heap.size + 2) := ⟨hb1, hs1⟩
  have HP1 : Hid (Pm t u T W1 M L Q R ds ns hs bs fz) := HP.out.below hb1
  have HPD : Hid (Pm t u T W1.drew M L Q R ds ns hs bs fz) := HP1.out.below (Below.refl _ _).drew
  have HZ1 : Hid (∀ b, W1.heap.size ≤ b → T b = 0) := fun b hb => HZ.out b (by omega)
  clear hb1 g1 g2 hs1
  obtain ⟨p0, p1, o0, o1, o2, o3, o4, o5⟩ := HBX.out W1 (Below.refl _ _)
  have HADD : Hid _ := adds_any t u HT0.out.1 HT0.out.2 HTU.out T W1 M L Q R ds ns hs bs fz HP1.out HZ1.out HLN.out.1 HLN.out.2.1 1 sec xs HLN.out.2.2 xk a n c ws (HWR.out.1.below HB1.out.1) HWR.out.2.1 HWR.out.2.2.1 HWR.out.2.2.2.1 HWR.out.2.2.2.2 nn
  go_wp2_with fail
  refine Calls.mono HADD.out ?_
  rintro e w2 ⟨rfl, hp⟩
  have HF : Hid (PmAns t u T w M L Q R ds ns w2) := hp.start HB1.out.1
  clear hp
  go_wp2
  go_ret
  exact ⟨rfl, HF.out⟩
set_option maxHeartbeats 8000000 in
theorem plays_get (t u : Nat) (ht : 0 < t) (hu : 0 < u) (htu : t ≠ u ∧ t + 1 ≠ u ∧ t + 2 ≠ u) (T : Nat → Nat) (w : World) (M L Q R : Nat) (ds : List Nat) (ns : List Nd) (hs : List Int) (bs : List Nat) (fz : Bool) (h : Pm t u T w M L Q R ds ns hs bs fz) (hz : ∀ b, w.heap.size ≤ b → T b = 0) (hd47 : ds.length ≤ 140737488355328) (hn : ns.length ≤ 100000000)
    (sec : Bool) (xs : Int) (hxs : 0 ≤ xs ∧ xs ≤ 18446744073709551615) (xk : ByteArray) (a : Option Addr) (n c : Nat) (ws : List Wr) (hw : IsWr w a ws) (hwn : ws.length = n) (hwc : a = none → c = 0) (hwl : n ≤ 100000) (hwz : ∀ b off, ws ≠ [] → a = some ⟨b, off, none⟩ → T b = 0) (nn : Int) :
    Calls Try.prog 12 #[.agg #[.pointer (some ⟨M, 0, none⟩), .pointer (some ⟨Q, 0, none⟩)], .agg #[.int .i64 2, .bool sec, .int .u64 xs, .string xk, .slice a n c, .int .i64 nn]] w fun e w' => e = .returned (.bool true) ∧ PmAns t u T w M L Q R ds ns w' := by
  have HP : Hid (Pm t u T w M L Q R ds ns hs bs fz) := h
  have HZ : Hid (∀ b, w.heap.size ≤ b → T b = 0) := hz
  have HWR : Hid (IsWr w a ws ∧ ws.length = n ∧ (a = none → c = 0) ∧ n ≤ 100000 ∧ ∀ b off, ws ≠ [] → a = some ⟨b, off, none⟩ → T b = 0) := ⟨hw, hwn, hwc, hwl, hwz⟩
  have HLN : Hid (ds.length ≤ 140737488355328 ∧ ns.length ≤ 100000000 ∧ (0 ≤ xs ∧ xs ≤ 18446744073709551615)) := ⟨hd47, hn, hxs⟩
  have HTU : Hid (t ≠ u ∧ t + 1 ≠ u ∧ t + 2 ≠ u) := htu
  have HT0 : Hid (0 < t ∧ 0 < u) := ⟨ht, hu⟩
  have hb1 : Below w.heap.size w ((w.alloc (.cells #[.pointer (some ⟨M, 0, none⟩), .pointer (some ⟨Q, 0, none⟩)] 49)).alloc (.cells #[.int .i64 2, .bool sec, .int .u64 xs, .string xk, .slice a n c, .int .i64 nn] 54)) := ((Below.refl _ _).alloc (Nat.le_refl _) _).alloc (by simp) _
  have g1 : ((w.alloc (.cells #[.pointer (some ⟨M, 0, none⟩), .pointer (some ⟨Q, 0, none⟩)] 49)).alloc (.cells #[.int .i64 2, .bool sec, .int .u64 xs, .string xk, .slice a n c, .int .i64 nn] 54)).heap[w.heap.size]? = some (.cells #[.pointer (some ⟨M, 0, none⟩), .pointer (some ⟨Q, 0, none⟩)] 49) := by
    rw [Below.heap_alloc _ _ _ (by simp)]; exact World.alloc_heap_new _ _
  have g2 : ((w.alloc (.cells #[.pointer (some ⟨M, 0, none⟩), .pointer (some ⟨Q, 0, none⟩)] 49)).alloc (.cells #[.int .i64 2, .bool sec, .int .u64 xs, .string xk, .slice a n c, .int .i64 nn] 54)).heap[w.heap.size + 1]? = some (.cells #[.int .i64 2, .bool sec, .int .u64 xs, .string xk, .slice a n c, .int .i64 nn] 54) := by
    have := World.alloc_heap_new (w.alloc (.cells #[.pointer (some ⟨M, 0, none⟩), .pointer (some ⟨Q, 0, none⟩)] 49)) (.cells #[.int .i64 2, .bool sec, .int .u64 xs, .string xk, .slice a n c, .int .i64 nn] 54)
    rwa [World.size_alloc] at this
  have hs1 : ((w.alloc (.cells #[.pointer (some ⟨M, 0, none⟩), .pointer (some ⟨Q, 0, none⟩)] 49)).alloc (.cells #[.int .i64 2, .bool sec, .int .u64 xs, .string xk, .slice a n c, .int .i64 nn] 54)).heap.size = w.heap.size + 2 := by simp
  clear h hz hw hwn hwc hwl hwz hd47 hn hxs htu ht hu
  go_enter Try.func12, Try.ntmps12
  go_upto_region 1 with (fail)
  generalize ((w.alloc (.cells #[.pointer (some ⟨M, 0, none⟩), .pointer (some ⟨Q, 0, none⟩)] 49)).alloc (.cells #[.int .i64 2, .bool sec, .int .u64 xs, .string xk, .slice a n c, .int .i64 nn] 54)) = W1 at *
  have HBX : Hid (∀ W : World, Below W1.heap.size W1 W → W.cell? ⟨w.heap.size, 0, none⟩ = some (.pointer (some ⟨M, 0, none⟩)) ∧ W.cell? ⟨w.heap.size, 1, none⟩ = some (.pointer (some ⟨Q, 0, none⟩)) ∧ W.cell? ⟨w.heap.size + 1, 0, none⟩ = some (.int .i64 2) ∧ W.cell? ⟨w.heap.size + 1, 1, none⟩ = some (.bool sec) ∧ W.cell? ⟨w.heap.size + 1, 2, none⟩ = some (.int .u64 xs) ∧ W.cell? ⟨w.heap.size + 1, 3, none⟩ = some (.string xk) ∧ W.cell? ⟨w.heap.size + 1, 4, none⟩ = some (.slice a n c) ∧ W.cell? ⟨w.heap.size + 1, 5, none⟩ = some (.int .i64 nn)) := fun W hW => by
    have k1 := (hW.block _ (by omega : w.heap.size < W1.heap.size)).trans g1
    have k2 := (hW.block _ (by omega : w.heap.size + 1 < W1.heap.size)).trans g2
    exact ⟨by rw [cell_of_obj k1]; rfl, by rw [cell_of_obj k1]; rfl, by rw [cell_of_obj k2]; rfl, by rw [cell_of_obj k2]; rfl, by rw [cell_of_obj k2]; rfl, by rw [cell_of_obj k2]; rfl, by rw [cell_of_obj k2]; rfl, by rw [cell_of_obj k2]; rfl⟩
  have HBG : Hid (W1.heap[w.heap.size]? = some (.cells #[.pointer (some ⟨M, 0, none⟩), .pointer (some ⟨Q, 0, none⟩)] 49)) := g1
  have HB1 : Hid (Below w.heap.size w W1 ∧ W1.heap.size = w.heap.size + 2) := ⟨hb1, hs1⟩
  have HP1 : Hid (Pm t u T W1 M L Q R ds ns hs bs fz) := HP.out.below hb1
  have HPD : Hid (Pm t u T W1.drew M L Q R ds ns hs bs fz) := HP1.out.below (Below.refl _ _).drew
  have HZ1 : Hid (∀ b, W1.heap.size ≤ b → T b = 0) := fun b hb => HZ.out b (by omega)
  clear hb1 g1 g2 hs1
  obtain ⟨p0, p1, o0, o1, o2, o3, o4, o5⟩ := HBX.out W1 (Below.refl _ _)
  have HG1 : Hid (Calls Try.prog 25 #[.pointer (some ⟨M, 0, none⟩), .string xk, .int .u64 xs] W1 fun r w' => r = .returned (getV (gk xk xs (ns.map Nd.e))) ∧ Below W1.heap.size W1 w') := get_mem HP1.out.mt xk xs
  have HG2 : Hid (∀ W, Below W1.heap.size W1 W → Calls Try.prog 45 #[.pointer (some ⟨Q, 0, none⟩), .string xk, .int .u64 xs] W fun r w' => r = .returned (getV (gk xk xs (ns.map Nd.e))) ∧ Below W.heap.size W w') := fun W hW => by
    have := refGet6 (HP1.out.below hW).rt (by have := HLN.out.2.1; simp; omega) xk xs
    rw [← gk_rgk HP.out.mt.sl] at this
    exact this
  generalize gk xk xs (ns.map Nd.e) = G at *
  go_wp2_with fail
  refine Calls.mono HG1.out ?_
  rintro e w2 ⟨rfl, hb2⟩
  have HB2 := HID5 hb2
  clear hb2 p0 p1 o0 o1 o2 o3 o4 o5
  rcases G with _ | ⟨gk0, gs0, gd0, gv0⟩
  · unfold getV at *
    dsimp only at *
    have hbA : Below w2.heap.size w2 (w2.alloc (.cells #[.string ⟨#[]⟩, .int .u64 0, .bool false, .string ⟨#[]⟩] 77)) := (Below.refl _ _).alloc (Nat.le_refl _) _
    have gA : (w2.alloc (.cells #[.string ⟨#[]⟩, .int .u64 0, .bool false, .string ⟨#[]⟩] 77)).heap[w2.heap.size]? = some (.cells #[.string ⟨#[]⟩, .int .u64 0, .bool false, .string ⟨#[]⟩] 77) := World.alloc_heap_new _ _
    go_upto_region 6 with (fail)
    generalize w2.alloc (.cells #[.string ⟨#[]⟩, .int .u64 0, .bool false, .string ⟨#[]⟩] 77) = W3 at *
    have HBA := HID5 (keepB hbA HB2.out)
    have HGA := HID5 gA
    clear hbA gA
    obtain ⟨p0, p1, o0, o1, o2, o3, o4, o5⟩ := HBX.out W3 HBA.out
    have HG3 := HID5 (HG2.out W3 HBA.out)
    go_wp2_with fail
    refine Calls.mono HG3.out ?_
    rintro e w4 ⟨rfl, hb4⟩
    have HB4 := HID5 hb4
    clear hb4 p0 p1 o0 o1 o2 o3 o4 o5 HG3
    have hbC : Below w4.heap.size w4 (w4.alloc (.cells #[.string ⟨#[]⟩, .int .u64 0, .bool false, .string ⟨#[]⟩] 77)) := (Below.refl _ _).alloc (Nat.le_refl _) _
    have gC : (w4.alloc (.cells #[.string ⟨#[]⟩, .int .u64 0, .bool false, .string ⟨#[]⟩] 77)).heap[w4.heap.size]? = some (.cells #[.string ⟨#[]⟩, .int .u64 0, .bool false, .string ⟨#[]⟩] 77) := World.alloc_heap_new _ _
    have gE := (hbC.block _ (Nat.lt_of_lt_of_le (Array.getElem?_eq_some_iff.1 HGA.out).1 HB4.out.size)).trans ((HB4.out.block _ (Array.getElem?_eq_some_iff.1 HGA.out).1).trans HGA.out)
    go_upto_region 7 with (fail)
    generalize w4.alloc (.cells #[.string ⟨#[]⟩, .int .u64 0, .bool false, .string ⟨#[]⟩] 77) = W5 at *
    have c0 : W5.cell? ⟨w2.heap.size, 0, none⟩ = some (.string ⟨#[]⟩) := by rw [cell_of_obj gE]; rfl
    have c1 : W5.cell? ⟨w2.heap.size, 1, none⟩ = some (.int .u64 0) := by rw [cell_of_obj gE]; rfl
    have c2 : W5.cell? ⟨w2.heap.size, 2, none⟩ = some (.bool false) := by rw [cell_of_obj gE]; rfl
    have c3 : W5.cell? ⟨w2.heap.size, 3, none⟩ = some (.string ⟨#[]⟩) := by rw [cell_of_obj gE]; rfl
    have d0 : W5.cell? ⟨w4.heap.size, 0, none⟩ = some (.string ⟨#[]⟩) := by rw [cell_of_obj gC]; rfl
    have d1 : W5.cell? ⟨w4.heap.size, 1, none⟩ = some (.int .u64 0) := by rw [cell_of_obj gC]; rfl
    have d2 : W5.cell? ⟨w4.heap.size, 2, none⟩ = some (.bool false) := by rw [cell_of_obj gC]; rfl
    have d3 : W5.cell? ⟨w4.heap.size, 3, none⟩ = some (.string ⟨#[]⟩) := by rw [cell_of_obj gC]; rfl
    have HF : Hid (PmAns t u T w M L Q R ds ns W5) := PmAns.same HP.out (keepB hbC (keepB HB4.out (keepB HBA.out HB1.out.1)))
    clear gE gC hbC
    go_wp2
    go_ret
    exact ⟨rfl, HF.out⟩
  · unfold getV at *
    dsimp only at *
    have hbA : Below w2.heap.size w2 (w2.alloc (.cells #[.string gk0, .int .u64 gs0, .bool gd0, .string gv0] 77)) := (Below.refl _ _).alloc (Nat.le_refl _) _
    have gA : (w2.alloc (.cells #[.string gk0, .int .u64 gs0, .bool gd0, .string gv0] 77)).heap[w2.heap.size]? = some (.cells #[.string gk0, .int .u64 gs0, .bool gd0, .string gv0] 77) := World.alloc_heap_new _ _
    go_upto_region 6 with (fail)
    generalize w2.alloc (.cells #[.string gk0, .int .u64 gs0, .bool gd0, .string gv0] 77) = W3 at *
    have HBA := HID5 (keepB hbA HB2.out)
    have HGA := HID5 gA
    clear hbA gA
    obtain ⟨p0, p1, o0, o1, o2, o3, o4, o5⟩ := HBX.out W3 HBA.out
    have HG3 := HID5 (HG2.out W3 HBA.out)
    go_wp2_with fail
    refine Calls.mono HG3.out ?_
    rintro e w4 ⟨rfl, hb4⟩
    have HB4 := HID5 hb4
    clear hb4 p0 p1 o0 o1 o2 o3 o4 o5 HG3
    have hbC : Below w4.heap.size w4 (w4.alloc (.cells #[.string gk0, .int .u64 gs0, .bool gd0, .string gv0] 77)) := (Below.refl _ _).alloc (Nat.le_refl _) _
    have gC : (w4.alloc (.cells #[.string gk0, .int .u64 gs0, .bool gd0, .string gv0] 77)).heap[w4.heap.size]? = some (.cells #[.string gk0, .int .u64 gs0, .bool gd0, .string gv0] 77) := World.alloc_heap_new _ _
    have gE := (hbC.block _ (Nat.lt_of_lt_of_le (Array.getElem?_eq_some_iff.1 HGA.out).1 HB4.out.size)).trans ((HB4.out.block _ (Array.getElem?_eq_some_iff.1 HGA.out).1).trans HGA.out)
    go_upto_region 7 with (fail)
    generalize w4.alloc (.cells #[.string gk0, .int .u64 gs0, .bool gd0, .string gv0] 77) = W5 at *
    have c0 : W5.cell? ⟨w2.heap.size, 0, none⟩ = some (.string gk0) := by rw [cell_of_obj gE]; rfl
    have c1 : W5.cell? ⟨w2.heap.size, 1, none⟩ = some (.int .u64 gs0) := by rw [cell_of_obj gE]; rfl
    have c2 : W5.cell? ⟨w2.heap.size, 2, none⟩ = some (.bool gd0) := by rw [cell_of_obj gE]; rfl
    have c3 : W5.cell? ⟨w2.heap.size, 3, none⟩ = some (.string gv0) := by rw [cell_of_obj gE]; rfl
    have d0 : W5.cell? ⟨w4.heap.size, 0, none⟩ = some (.string gk0) := by rw [cell_of_obj gC]; rfl
    have d1 : W5.cell? ⟨w4.heap.size, 1, none⟩ = some (.int .u64 gs0) := by rw [cell_of_obj gC]; rfl
    have d2 : W5.cell? ⟨w4.heap.size, 2, none⟩ = some (.bool gd0) := by rw [cell_of_obj gC]; rfl
    have d3 : W5.cell? ⟨w4.heap.size, 3, none⟩ = some (.string gv0) := by rw [cell_of_obj gC]; rfl
    have HF : Hid (PmAns t u T w M L Q R ds ns W5) := PmAns.same HP.out (keepB hbC (keepB HB4.out (keepB HBA.out HB1.out.1)))
    clear gE gC hbC
    go_wp2
    go_ret
    exact ⟨rfl, HF.out⟩
set_option maxHeartbeats 8000000 in
theorem plays_from (t u : Nat) (ht : 0 < t) (hu : 0 < u) (htu : t ≠ u ∧ t + 1 ≠ u ∧ t + 2 ≠ u) (T : Nat → Nat) (w : World) (M L Q R : Nat) (ds : List Nat) (ns : List Nd) (hs : List Int) (bs : List Nat) (fz : Bool) (h : Pm t u T w M L Q R ds ns hs bs fz) (hz : ∀ b, w.heap.size ≤ b → T b = 0) (hd47 : ds.length ≤ 140737488355328) (hn : ns.length ≤ 100000000)
    (sec : Bool) (xs : Int) (hxs : 0 ≤ xs ∧ xs ≤ 18446744073709551615) (xk : ByteArray) (a : Option Addr) (n c : Nat) (ws : List Wr) (hw : IsWr w a ws) (hwn : ws.length = n) (hwc : a = none → c = 0) (hwl : n ≤ 100000) (hwz : ∀ b off, ws ≠ [] → a = some ⟨b, off, none⟩ → T b = 0) (nn : Int) :
    Calls Try.prog 12 #[.agg #[.pointer (some ⟨M, 0, none⟩), .pointer (some ⟨Q, 0, none⟩)], .agg #[.int .i64 3, .bool sec, .int .u64 xs, .string xk, .slice a n c, .int .i64 nn]] w fun e w' => e = .returned (.bool true) ∧ PmAns t u T w M L Q R ds ns w' := by
  have HP : Hid (Pm t u T w M L Q R ds ns hs bs fz) := h
  have HZ : Hid (∀ b, w.heap.size ≤ b → T b = 0) := hz
  have HWR : Hid (IsWr w a ws ∧ ws.length = n ∧ (a = none → c = 0) ∧ n ≤ 100000 ∧ ∀ b off, ws ≠ [] → a = some ⟨b, off, none⟩ → T b = 0) := ⟨hw, hwn, hwc, hwl, hwz⟩
  have HLN : Hid (ds.length ≤ 140737488355328 ∧ ns.length ≤ 100000000 ∧ (0 ≤ xs ∧ xs ≤ 18446744073709551615)) := ⟨hd47, hn, hxs⟩
  have HTU : Hid (t ≠ u ∧ t + 1 ≠ u ∧ t + 2 ≠ u) := htu
  have HT0 : Hid (0 < t ∧ 0 < u) := ⟨ht, hu⟩
  have hb1 : Below w.heap.size w ((w.alloc (.cells #[.pointer (some ⟨M, 0, none⟩), .pointer (some ⟨Q, 0, none⟩)] 49)).alloc (.cells #[.int .i64 3, .bool sec, .int .u64 xs, .string xk, .slice a n c, .int .i64 nn] 54)) := ((Below.refl _ _).alloc (Nat.le_refl _) _).alloc (by simp) _
  have g1 : ((w.alloc (.cells #[.pointer (some ⟨M, 0, none⟩), .pointer (some ⟨Q, 0, none⟩)] 49)).alloc (.cells #[.int .i64 3, .bool sec, .int .u64 xs, .string xk, .slice a n c, .int .i64 nn] 54)).heap[w.heap.size]? = some (.cells #[.pointer (some ⟨M, 0, none⟩), .pointer (some ⟨Q, 0, none⟩)] 49) := by
    rw [Below.heap_alloc _ _ _ (by simp)]; exact World.alloc_heap_new _ _
  have g2 : ((w.alloc (.cells #[.pointer (some ⟨M, 0, none⟩), .pointer (some ⟨Q, 0, none⟩)] 49)).alloc (.cells #[.int .i64 3, .bool sec, .int .u64 xs, .string xk, .slice a n c, .int .i64 nn] 54)).heap[w.heap.size + 1]? = some (.cells #[.int .i64 3, .bool sec, .int .u64 xs, .string xk, .slice a n c, .int .i64 nn] 54) := by
    have := World.alloc_heap_new (w.alloc (.cells #[.pointer (some ⟨M, 0, none⟩), .pointer (some ⟨Q, 0, none⟩)] 49)) (.cells #[.int .i64 3, .bool sec, .int .u64 xs, .string xk, .slice a n c, .int .i64 nn] 54)
    rwa [World.size_alloc] at this
  have hs1 : ((w.alloc (.cells #[.pointer (some ⟨M, 0, none⟩), .pointer (some ⟨Q, 0, none⟩)] 49)).alloc (.cells #[.int .i64 3, .bool sec, .int .u64 xs, .string xk, .slice a n c, .int .i64 nn] 54)).heap.size = w.heap.size + 2 := by simp
  clear h hz hw hwn hwc hwl hwz hd47 hn hxs htu ht hu
  go_enter Try.func12, Try.ntmps12
  go_upto_region 1 with (fail)
  generalize ((w.alloc (.cells #[.pointer (some ⟨M, 0, none⟩), .pointer (some ⟨Q, 0, none⟩)] 49)).alloc (.cells #[.int .i64 3, .bool sec, .int .u64 xs, .string xk, .slice a n c, .int .i64 nn] 54)) = W1 at *
  have HBX : Hid (∀ W : World, Below W1.heap.size W1 W → W.cell? ⟨w.heap.size, 0, none⟩ = some (.pointer (some ⟨M, 0, none⟩)) ∧ W.cell? ⟨w.heap.size, 1, none⟩ = some (.pointer (some ⟨Q, 0, none⟩)) ∧ W.cell? ⟨w.heap.size + 1, 0, none⟩ = some (.int .i64 3) ∧ W.cell? ⟨w.heap.size + 1, 1, none⟩ = some (.bool sec) ∧ W.cell? ⟨w.heap.size + 1, 2, none⟩ = some (.int .u64 xs) ∧ W.cell? ⟨w.heap.size + 1, 3, none⟩ = some (.string xk) ∧ W.cell? ⟨w.heap.size + 1, 4, none⟩ = some (.slice a n c) ∧ W.cell? ⟨w.heap.size + 1, 5, none⟩ = some (.int .i64 nn)) := fun W hW => by
    have k1 := (hW.block _ (by omega : w.heap.size < W1.heap.size)).trans g1
    have k2 := (hW.block _ (by omega : w.heap.size + 1 < W1.heap.size)).trans g2
    exact ⟨by rw [cell_of_obj k1]; rfl, by rw [cell_of_obj k1]; rfl, by rw [cell_of_obj k2]; rfl, by rw [cell_of_obj k2]; rfl, by rw [cell_of_obj k2]; rfl, by rw [cell_of_obj k2]; rfl, by rw [cell_of_obj k2]; rfl, by rw [cell_of_obj k2]; rfl⟩
  have HBG : Hid (W1.heap[w.heap.size]? = some (.cells #[.pointer (some ⟨M, 0, none⟩), .pointer (some ⟨Q, 0, none⟩)] 49)) := g1
  have HB1 : Hid (Below w.heap.size w W1 ∧ W1.heap.size = w.heap.size + 2) := ⟨hb1, hs1⟩
  have HP1 : Hid (Pm t u T W1 M L Q R ds ns hs bs fz) := HP.out.below hb1
  have HPD : Hid (Pm t u T W1.drew M L Q R ds ns hs bs fz) := HP1.out.below (Below.refl _ _).drew
  have HZ1 : Hid (∀ b, W1.heap.size ≤ b → T b = 0) := fun b hb => HZ.out b (by omega)
  clear hb1 g1 g2 hs1
  obtain ⟨p0, p1, o0, o1, o2, o3, o4, o5⟩ := HBX.out W1 (Below.refl _ _)
  obtain ⟨K, hK⟩ : ∃ K, (frm xk xs (ns.map Nd.e)).length = K := ⟨_, rfl⟩
  have HF1 : Hid (Calls Try.prog 27 #[.pointer (some ⟨M, 0, none⟩), .string xk, .int .u64 xs] W1.drew fun e w' => e = .returned (fvM W1.heap.size) ∧ Below W1.heap.size W1 w' ∧ Calls Try.prog 47 #[.pointer (some ⟨Q, 0, none⟩), .string xk, .int .u64 xs] w' fun r w'' => ∃ a c, r = .returned (.slice a K c) ∧ Below W1.heap.size W1 w'' ∧ Calls Try.prog 46 #[fvM W1.heap.size, .slice a K c, .int .i64 nn] w'' fun e w3 => e = .returned (.bool true) ∧ Below W1.heap.size W1 w3) := by
    refine (from_mem M xk xs W1.drew rfl).mono ?_
    rintro e w' ⟨rfl, hb, k1, k2, k3⟩
    have hb' : Below W1.heap.size W1 w' := (Below.refl _ _).drew.trans hb
    refine ⟨rfl, hb', ?_⟩
    refine (froms (HP1.out.below hb') HT0.out.1 HLN.out.2.1 (B := W1.heap.size) (HZ1.out _ (by omega)) hK k1 k2 k3 nn).mono ?_
    rintro r w'' ⟨a9, c9, rfl, hb2, hwk⟩
    exact ⟨a9, c9, rfl, keepB hb2 hb', (hwk w'' (Below.refl _ _)).mono fun e w3 ⟨h1, h2⟩ => ⟨h1, keepB h2 (keepB hb2 hb')⟩⟩
  clear hK
  generalize fvM W1.heap.size = fv at *
  have hS1 := HBX.out W1.drew (Below.refl _ _).drew
  go_wp2
  go_region_held3 (fun W => W.cell? ⟨w.heap.size, 0, none⟩ = some (.pointer (some ⟨M, 0, none⟩)) ∧ W.cell? ⟨w.heap.size, 1, none⟩ = some (.pointer (some ⟨Q, 0, none⟩)) ∧ W.cell? ⟨w.heap.size + 1, 0, none⟩ = some (.int .i64 3) ∧ W.cell? ⟨w.heap.size + 1, 1, none⟩ = some (.bool sec) ∧ W.cell? ⟨w.heap.size + 1, 2, none⟩ = some (.int .u64 xs) ∧ W.cell? ⟨w.heap.size + 1, 3, none⟩ = some (.string xk) ∧ W.cell? ⟨w.heap.size + 1, 4, none⟩ = some (.slice a n c) ∧ W.cell? ⟨w.heap.size + 1, 5, none⟩ = some (.int .i64 nn)) (first | assumption | exact hS1)
    (first
    | (go_at_call 27; go_loud (refine HF1.out.mono ?_; rintro r w5 ⟨rfl, hb5, hc5⟩; have HC5 := HID5 hc5; have hS5 := HBX.out w5 hb5; clear hb5 hc5))
    | (go_at_call 47; go_loud (refine HC5.out.mono ?_; rintro r w6 ⟨a6, c6, rfl, hb6, hc6⟩; have HC6 := HID5 hc6; have hS6 := HBX.out w6 hb6; clear hb6 hc6))
    | (go_at_call 46; go_loud (refine HC6.out.mono ?_; rintro r w7 ⟨rfl, hb7⟩; have hS7 := HBX.out w7 hb7; have HF : Hid (PmAns t u T w M L Q R ds ns w7) := PmAns.same HP.out (keepB hb7 HB1.out.1); clear hb7)))
  all_goals (
    go_wp2
    go_ret
    exact ⟨rfl, HF.out⟩)
set_option maxHeartbeats 8000000 in
theorem plays_all (t u : Nat) (ht : 0 < t) (hu : 0 < u) (htu : t ≠ u ∧ t + 1 ≠ u ∧ t + 2 ≠ u) (T : Nat → Nat) (w : World) (M L Q R : Nat) (ds : List Nat) (ns : List Nd) (hs : List Int) (bs : List Nat) (fz : Bool) (h : Pm t u T w M L Q R ds ns hs bs fz) (hz : ∀ b, w.heap.size ≤ b → T b = 0) (hd47 : ds.length ≤ 140737488355328) (hn : ns.length ≤ 100000000)
    (sec : Bool) (xs : Int) (hxs : 0 ≤ xs ∧ xs ≤ 18446744073709551615) (xk : ByteArray) (a : Option Addr) (n c : Nat) (ws : List Wr) (hw : IsWr w a ws) (hwn : ws.length = n) (hwc : a = none → c = 0) (hwl : n ≤ 100000) (hwz : ∀ b off, ws ≠ [] → a = some ⟨b, off, none⟩ → T b = 0) (nn : Int) :
    Calls Try.prog 12 #[.agg #[.pointer (some ⟨M, 0, none⟩), .pointer (some ⟨Q, 0, none⟩)], .agg #[.int .i64 4, .bool sec, .int .u64 xs, .string xk, .slice a n c, .int .i64 nn]] w fun e w' => e = .returned (.bool true) ∧ PmAns t u T w M L Q R ds ns w' := by
  have HP : Hid (Pm t u T w M L Q R ds ns hs bs fz) := h
  have HZ : Hid (∀ b, w.heap.size ≤ b → T b = 0) := hz
  have HWR : Hid (IsWr w a ws ∧ ws.length = n ∧ (a = none → c = 0) ∧ n ≤ 100000 ∧ ∀ b off, ws ≠ [] → a = some ⟨b, off, none⟩ → T b = 0) := ⟨hw, hwn, hwc, hwl, hwz⟩
  have HLN : Hid (ds.length ≤ 140737488355328 ∧ ns.length ≤ 100000000 ∧ (0 ≤ xs ∧ xs ≤ 18446744073709551615)) := ⟨hd47, hn, hxs⟩
  have HTU : Hid (t ≠ u ∧ t + 1 ≠ u ∧ t + 2 ≠ u) := htu
  have HT0 : Hid (0 < t ∧ 0 < u) := ⟨ht, hu⟩
  have hb1 : Below w.heap.size w ((w.alloc (.cells #[.pointer (some ⟨M, 0, none⟩), .pointer (some ⟨Q, 0, none⟩)] 49)).alloc (.cells #[.int .i64 4, .bool sec, .int .u64 xs, .string xk, .slice a n c, .int .i64 nn] 54)) := ((Below.refl _ _).alloc (Nat.le_refl _) _).alloc (by simp) _
  have g1 : ((w.alloc (.cells #[.pointer (some ⟨M, 0, none⟩), .pointer (some ⟨Q, 0, none⟩)] 49)).alloc (.cells #[.int .i64 4, .bool sec, .int .u64 xs, .string xk, .slice a n c, .int .i64 nn] 54)).heap[w.heap.size]? = some (.cells #[.pointer (some ⟨M, 0, none⟩), .pointer (some ⟨Q, 0, none⟩)] 49) := by
    rw [Below.heap_alloc _ _ _ (by simp)]; exact World.alloc_heap_new _ _
  have g2 : ((w.alloc (.cells #[.pointer (some ⟨M, 0, none⟩), .pointer (some ⟨Q, 0, none⟩)] 49)).alloc (.cells #[.int .i64 4, .bool sec, .int .u64 xs, .string xk, .slice a n c, .int .i64 nn] 54)).heap[w.heap.size + 1]? = some (.cells #[.int .i64 4, .bool sec, .int .u64 xs, .string xk, .slice a n c, .int .i64 nn] 54) := by
    have := World.alloc_heap_new (w.alloc (.cells #[.pointer (some ⟨M, 0, none⟩), .pointer (some ⟨Q, 0, none⟩)] 49)) (.cells #[.int .i64 4, .bool sec, .int .u64 xs, .string xk, .slice a n c, .int .i64 nn] 54)
    rwa [World.size_alloc] at this
  have hs1 : ((w.alloc (.cells #[.pointer (some ⟨M, 0, none⟩), .pointer (some ⟨Q, 0, none⟩)] 49)).alloc (.cells #[.int .i64 4, .bool sec, .int .u64 xs, .string xk, .slice a n c, .int .i64 nn] 54)).heap.size = w.heap.size + 2 := by simp
  clear h hz hw hwn hwc hwl hwz hd47 hn hxs htu ht hu
  go_enter Try.func12, Try.ntmps12
  go_upto_region 1 with (fail)
  generalize ((w.alloc (.cells #[.pointer (some ⟨M, 0, none⟩), .pointer (some ⟨Q, 0, none⟩)] 49)).alloc (.cells #[.int .i64 4, .bool sec, .int .u64 xs, .string xk, .slice a n c, .int .i64 nn] 54)) = W1 at *
  have HBX : Hid (∀ W : World, Below W1.heap.size W1 W → W.cell? ⟨w.heap.size, 0, none⟩ = some (.pointer (some ⟨M, 0, none⟩)) ∧ W.cell? ⟨w.heap.size, 1, none⟩ = some (.pointer (some ⟨Q, 0, none⟩)) ∧ W.cell? ⟨w.heap.size + 1, 0, none⟩ = some (.int .i64 4) ∧ W.cell? ⟨w.heap.size + 1, 1, none⟩ = some (.bool sec) ∧ W.cell? ⟨w.heap.size + 1, 2, none⟩ = some (.int .u64 xs) ∧ W.cell? ⟨w.heap.size + 1, 3, none⟩ = some (.string xk) ∧ W.cell? ⟨w.heap.size + 1, 4, none⟩ = some (.slice a n c) ∧ W.cell? ⟨w.heap.size + 1, 5, none⟩ = some (.int .i64 nn)) := fun W hW => by
    have k1 := (hW.block _ (by omega : w.heap.size < W1.heap.size)).trans g1
    have k2 := (hW.block _ (by omega : w.heap.size + 1 < W1.heap.size)).trans g2
    exact ⟨by rw [cell_of_obj k1]; rfl, by rw [cell_of_obj k1]; rfl, by rw [cell_of_obj k2]; rfl, by rw [cell_of_obj k2]; rfl, by rw [cell_of_obj k2]; rfl, by rw [cell_of_obj k2]; rfl, by rw [cell_of_obj k2]; rfl, by rw [cell_of_obj k2]; rfl⟩
  have HBG : Hid (W1.heap[w.heap.size]? = some (.cells #[.pointer (some ⟨M, 0, none⟩), .pointer (some ⟨Q, 0, none⟩)] 49)) := g1
  have HB1 : Hid (Below w.heap.size w W1 ∧ W1.heap.size = w.heap.size + 2) := ⟨hb1, hs1⟩
  have HP1 : Hid (Pm t u T W1 M L Q R ds ns hs bs fz) := HP.out.below hb1
  have HPD : Hid (Pm t u T W1.drew M L Q R ds ns hs bs fz) := HP1.out.below (Below.refl _ _).drew
  have HZ1 : Hid (∀ b, W1.heap.size ≤ b → T b = 0) := fun b hb => HZ.out b (by omega)
  clear hb1 g1 g2 hs1
  obtain ⟨p0, p1, o0, o1, o2, o3, o4, o5⟩ := HBX.out W1 (Below.refl _ _)
  obtain ⟨K, hK⟩ : ∃ K, ns.length = K := ⟨_, rfl⟩
  have HF1 : Hid (Calls Try.prog 30 #[.pointer (some ⟨M, 0, none⟩)] W1.drew fun e w' => e = .returned (fvS W1.heap.size) ∧ Below W1.heap.size W1 w' ∧ Calls Try.prog 48 #[.pointer (some ⟨Q, 0, none⟩)] w' fun r w'' => ∃ a c, r = .returned (.slice a K c) ∧ Below W1.heap.size W1 w'' ∧ Calls Try.prog 46 #[fvS W1.heap.size, .slice a K c, .int .i64 nn] w'' fun e w3 => e = .returned (.bool true) ∧ Below W1.heap.size W1 w3) := by
    refine (all_mem2 HPD.out.mt rfl).mono ?_
    rintro e w' ⟨rfl, hb, k1, k2, k3⟩
    have hb' : Below W1.heap.size W1 w' := (Below.refl _ _).drew.trans hb
    refine ⟨rfl, hb', ?_⟩
    refine (alls (HP1.out.below hb') HLN.out.2.1 (B := W1.heap.size) hK k1 k2 k3 nn).mono ?_
    rintro r w'' ⟨a9, c9, rfl, hb2, hwk⟩
    exact ⟨a9, c9, rfl, keepB hb2 hb', (hwk w'' (Below.refl _ _)).mono fun e w3 ⟨h1, h2⟩ => ⟨h1, keepB h2 (keepB hb2 hb')⟩⟩
  clear hK
  generalize fvS W1.heap.size = fv at *
  have hS1 := HBX.out W1.drew (Below.refl _ _).drew
  go_wp2
  go_region_held3 (fun W => W.cell? ⟨w.heap.size, 0, none⟩ = some (.pointer (some ⟨M, 0, none⟩)) ∧ W.cell? ⟨w.heap.size, 1, none⟩ = some (.pointer (some ⟨Q, 0, none⟩)) ∧ W.cell? ⟨w.heap.size + 1, 0, none⟩ = some (.int .i64 4) ∧ W.cell? ⟨w.heap.size + 1, 1, none⟩ = some (.bool sec) ∧ W.cell? ⟨w.heap.size + 1, 2, none⟩ = some (.int .u64 xs) ∧ W.cell? ⟨w.heap.size + 1, 3, none⟩ = some (.string xk) ∧ W.cell? ⟨w.heap.size + 1, 4, none⟩ = some (.slice a n c) ∧ W.cell? ⟨w.heap.size + 1, 5, none⟩ = some (.int .i64 nn)) (first | assumption | exact hS1)
    (first
    | (go_at_call 30; go_loud (refine HF1.out.mono ?_; rintro r w5 ⟨rfl, hb5, hc5⟩; have HC5 := HID5 hc5; have hS5 := HBX.out w5 hb5; clear hb5 hc5))
    | (go_at_call 48; go_loud (refine HC5.out.mono ?_; rintro r w6 ⟨a6, c6, rfl, hb6, hc6⟩; have HC6 := HID5 hc6; have hS6 := HBX.out w6 hb6; clear hb6 hc6))
    | (go_at_call 46; go_loud (refine HC6.out.mono ?_; rintro r w7 ⟨rfl, hb7⟩; have hS7 := HBX.out w7 hb7; have HF : Hid (PmAns t u T w M L Q R ds ns w7) := PmAns.same HP.out (keepB hb7 HB1.out.1); clear hb7)))
  all_goals (
    go_wp2
    go_ret
    exact ⟨rfl, HF.out⟩)
set_option maxHeartbeats 8000000 in
theorem plays_wei (t u : Nat) (ht : 0 < t) (hu : 0 < u) (htu : t ≠ u ∧ t + 1 ≠ u ∧ t + 2 ≠ u) (T : Nat → Nat) (w : World) (M L Q R : Nat) (ds : List Nat) (ns : List Nd) (hs : List Int) (bs : List Nat) (fz : Bool) (h : Pm t u T w M L Q R ds ns hs bs fz) (hz : ∀ b, w.heap.size ≤ b → T b = 0) (hd47 : ds.length ≤ 140737488355328) (hn : ns.length ≤ 100000000)
    (sec : Bool) (xs : Int) (hxs : 0 ≤ xs ∧ xs ≤ 18446744073709551615) (xk : ByteArray) (a : Option Addr) (n c : Nat) (ws : List Wr) (hw : IsWr w a ws) (hwn : ws.length = n) (hwc : a = none → c = 0) (hwl : n ≤ 100000) (hwz : ∀ b off, ws ≠ [] → a = some ⟨b, off, none⟩ → T b = 0) (nn : Int) :
    Calls Try.prog 12 #[.agg #[.pointer (some ⟨M, 0, none⟩), .pointer (some ⟨Q, 0, none⟩)], .agg #[.int .i64 5, .bool sec, .int .u64 xs, .string xk, .slice a n c, .int .i64 nn]] w fun e w' => e = .returned (.bool true) ∧ PmAns t u T w M L Q R ds ns w' := by
  have HP : Hid (Pm t u T w M L Q R ds ns hs bs fz) := h
  have HZ : Hid (∀ b, w.heap.size ≤ b → T b = 0) := hz
  have HWR : Hid (IsWr w a ws ∧ ws.length = n ∧ (a = none → c = 0) ∧ n ≤ 100000 ∧ ∀ b off, ws ≠ [] → a = some ⟨b, off, none⟩ → T b = 0) := ⟨hw, hwn, hwc, hwl, hwz⟩
  have HLN : Hid (ds.length ≤ 140737488355328 ∧ ns.length ≤ 100000000 ∧ (0 ≤ xs ∧ xs ≤ 18446744073709551615)) := ⟨hd47, hn, hxs⟩
  have HTU : Hid (t ≠ u ∧ t + 1 ≠ u ∧ t + 2 ≠ u) := htu
  have HT0 : Hid (0 < t ∧ 0 < u) := ⟨ht, hu⟩
  have hb1 : Below w.heap.size w ((w.alloc (.cells #[.pointer (some ⟨M, 0, none⟩), .pointer (some ⟨Q, 0, none⟩)] 49)).alloc (.cells #[.int .i64 5, .bool sec, .int .u64 xs, .string xk, .slice a n c, .int .i64 nn] 54)) := ((Below.refl _ _).alloc (Nat.le_refl _) _).alloc (by simp) _
  have g1 : ((w.alloc (.cells #[.pointer (some ⟨M, 0, none⟩), .pointer (some ⟨Q, 0, none⟩)] 49)).alloc (.cells #[.int .i64 5, .bool sec, .int .u64 xs, .string xk, .slice a n c, .int .i64 nn] 54)).heap[w.heap.size]? = some (.cells #[.pointer (some ⟨M, 0, none⟩), .pointer (some ⟨Q, 0, none⟩)] 49) := by
    rw [Below.heap_alloc _ _ _ (by simp)]; exact World.alloc_heap_new _ _
  have g2 : ((w.alloc (.cells #[.pointer (some ⟨M, 0, none⟩), .pointer (some ⟨Q, 0, none⟩)] 49)).alloc (.cells #[.int .i64 5, .bool sec, .int .u64 xs, .string xk, .slice a n c, .int .i64 nn] 54)).heap[w.heap.size + 1]? = some (.cells #[.int .i64 5, .bool sec, .int .u64 xs, .string xk, .slice a n c, .int .i64 nn] 54) := by
    have := World.alloc_heap_new (w.alloc (.cells #[.pointer (some ⟨M, 0, none⟩), .pointer (some ⟨Q, 0, none⟩)] 49)) (.cells #[.int .i64 5, .bool sec, .int .u64 xs, .string xk, .slice a n c, .int .i64 nn] 54)
    rwa [World.size_alloc] at this
  have hs1 : ((w.alloc (.cells #[.pointer (some ⟨M, 0, none⟩), .pointer (some ⟨Q, 0, none⟩)] 49)).alloc (.cells #[.int .i64 5, .bool sec, .int .u64 xs, .string xk, .slice a n c, .int .i64 nn] 54)).heap.size = w.heap.size + 2 := by simp
  clear h hz hw hwn hwc hwl hwz hd47 hn hxs htu ht hu
  go_enter Try.func12, Try.ntmps12
  go_upto_region 1 with (fail)
  generalize ((w.alloc (.cells #[.pointer (some ⟨M, 0, none⟩), .pointer (some ⟨Q, 0, none⟩)] 49)).alloc (.cells #[.int .i64 5, .bool sec, .int .u64 xs, .string xk, .slice a n c, .int .i64 nn] 54)) = W1 at *
  have HBX : Hid (∀ W : World, Below W1.heap.size W1 W → W.cell? ⟨w.heap.size, 0, none⟩ = some (.pointer (some ⟨M, 0, none⟩)) ∧ W.cell? ⟨w.heap.size, 1, none⟩ = some (.pointer (some ⟨Q, 0, none⟩)) ∧ W.cell? ⟨w.heap.size + 1, 0, none⟩ = some (.int .i64 5) ∧ W.cell? ⟨w.heap.size + 1, 1, none⟩ = some (.bool sec) ∧ W.cell? ⟨w.heap.size + 1, 2, none⟩ = some (.int .u64 xs) ∧ W.cell? ⟨w.heap.size + 1, 3, none⟩ = some (.string xk) ∧ W.cell? ⟨w.heap.size + 1, 4, none⟩ = some (.slice a n c) ∧ W.cell? ⟨w.heap.size + 1, 5, none⟩ = some (.int .i64 nn)) := fun W hW => by
    have k1 := (hW.block _ (by omega : w.heap.size < W1.heap.size)).trans g1
    have k2 := (hW.block _ (by omega : w.heap.size + 1 < W1.heap.size)).trans g2
    exact ⟨by rw [cell_of_obj k1]; rfl, by rw [cell_of_obj k1]; rfl, by rw [cell_of_obj k2]; rfl, by rw [cell_of_obj k2]; rfl, by rw [cell_of_obj k2]; rfl, by rw [cell_of_obj k2]; rfl, by rw [cell_of_obj k2]; rfl, by rw [cell_of_obj k2]; rfl⟩
  have HBG : Hid (W1.heap[w.heap.size]? = some (.cells #[.pointer (some ⟨M, 0, none⟩), .pointer (some ⟨Q, 0, none⟩)] 49)) := g1
  have HB1 : Hid (Below w.heap.size w W1 ∧ W1.heap.size = w.heap.size + 2) := ⟨hb1, hs1⟩
  have HP1 : Hid (Pm t u T W1 M L Q R ds ns hs bs fz) := HP.out.below hb1
  have HPD : Hid (Pm t u T W1.drew M L Q R ds ns hs bs fz) := HP1.out.below (Below.refl _ _).drew
  have HZ1 : Hid (∀ b, W1.heap.size ≤ b → T b = 0) := fun b hb => HZ.out b (by omega)
  clear hb1 g1 g2 hs1
  obtain ⟨p0, p1, o0, o1, o2, o3, o4, o5⟩ := HBX.out W1 (Below.refl _ _)
  obtain ⟨V, hV⟩ : ∃ V : Int, (wS ns : Int) = V := ⟨_, rfl⟩
  have HG1 : Hid (Calls Try.prog 31 #[.pointer (some ⟨M, 0, none⟩)] W1.drew fun r w' => r = .returned (.int .i64 V) ∧ Below W1.heap.size W1 w') := by
    have := weight_mem HPD.out.mt
    rw [hV] at this
    exact this.mono fun r w' ⟨h1, h2⟩ => ⟨h1, by rw [h2]; exact (Below.refl _ _).drew⟩
  have HG2 : Hid (∀ W, Below W1.heap.size W1 W → Calls Try.prog 49 #[.pointer (some ⟨Q, 0, none⟩)] W fun r w' => r = .returned (.int .i64 V) ∧ Below W.heap.size W w') := fun W hW => by
    have := refWeightT6 (n := (ns.map Nd.e).length) (HP1.out.below hW).rt (by have := HLN.out.2.1; simp; omega) rfl
    rw [← wS_sum, hV] at this
    exact this
  have hS1 := HBX.out W1.drew (Below.refl _ _).drew
  go_wp2
  go_region_held3 (fun W => W.cell? ⟨w.heap.size, 0, none⟩ = some (.pointer (some ⟨M, 0, none⟩)) ∧ W.cell? ⟨w.heap.size, 1, none⟩ = some (.pointer (some ⟨Q, 0, none⟩)) ∧ W.cell? ⟨w.heap.size + 1, 0, none⟩ = some (.int .i64 5) ∧ W.cell? ⟨w.heap.size + 1, 1, none⟩ = some (.bool sec) ∧ W.cell? ⟨w.heap.size + 1, 2, none⟩ = some (.int .u64 xs) ∧ W.cell? ⟨w.heap.size + 1, 3, none⟩ = some (.string xk) ∧ W.cell? ⟨w.heap.size + 1, 4, none⟩ = some (.slice a n c) ∧ W.cell? ⟨w.heap.size + 1, 5, none⟩ = some (.int .i64 nn)) (first | assumption | exact hS1)
    (first
    | (go_at_call 31; go_loud (refine HG1.out.mono ?_; rintro r w5 ⟨rfl, hb5⟩; have HB5 := HID5 hb5; have hS5 := HBX.out w5 hb5; clear hb5))
    | (go_at_call 49; go_loud (refine (HG2.out w5 HB5.out).mono ?_; rintro r w6 ⟨rfl, hb6⟩; have hS6 := HBX.out w6 (keepB hb6 HB5.out); have HF : Hid (PmAns t u T w M L Q R ds ns w6) := PmAns.same HP.out (keepB (keepB hb6 HB5.out) HB1.out.1); clear hb6)))
  all_goals (
    go_wp2
    go_ret
    exact ⟨rfl, HF.out⟩)
set_option maxHeartbeats 8000000 in
theorem plays_last (t u : Nat) (ht : 0 < t) (hu : 0 < u) (htu : t ≠ u ∧ t + 1 ≠ u ∧ t + 2 ≠ u) (T : Nat → Nat) (w : World) (M L Q R : Nat) (ds : List Nat) (ns : List Nd) (hs : List Int) (bs : List Nat) (fz : Bool) (h : Pm t u T w M L Q R ds ns hs bs fz) (hz : ∀ b, w.heap.size ≤ b → T b = 0) (hd47 : ds.length ≤ 140737488355328) (hn : ns.length ≤ 100000000)
    (sec : Bool) (xs : Int) (hxs : 0 ≤ xs ∧ xs ≤ 18446744073709551615) (xk : ByteArray) (a : Option Addr) (n c : Nat) (ws : List Wr) (hw : IsWr w a ws) (hwn : ws.length = n) (hwc : a = none → c = 0) (hwl : n ≤ 100000) (hwz : ∀ b off, ws ≠ [] → a = some ⟨b, off, none⟩ → T b = 0) (nn : Int) :
    Calls Try.prog 12 #[.agg #[.pointer (some ⟨M, 0, none⟩), .pointer (some ⟨Q, 0, none⟩)], .agg #[.int .i64 6, .bool sec, .int .u64 xs, .string xk, .slice a n c, .int .i64 nn]] w fun e w' => e = .returned (.bool true) ∧ PmAns t u T w M L Q R ds ns w' := by
  have HP : Hid (Pm t u T w M L Q R ds ns hs bs fz) := h
  have HZ : Hid (∀ b, w.heap.size ≤ b → T b = 0) := hz
  have HWR : Hid (IsWr w a ws ∧ ws.length = n ∧ (a = none → c = 0) ∧ n ≤ 100000 ∧ ∀ b off, ws ≠ [] → a = some ⟨b, off, none⟩ → T b = 0) := ⟨hw, hwn, hwc, hwl, hwz⟩
  have HLN : Hid (ds.length ≤ 140737488355328 ∧ ns.length ≤ 100000000 ∧ (0 ≤ xs ∧ xs ≤ 18446744073709551615)) := ⟨hd47, hn, hxs⟩
  have HTU : Hid (t ≠ u ∧ t + 1 ≠ u ∧ t + 2 ≠ u) := htu
  have HT0 : Hid (0 < t ∧ 0 < u) := ⟨ht, hu⟩
  have hb1 : Below w.heap.size w ((w.alloc (.cells #[.pointer (some ⟨M, 0, none⟩), .pointer (some ⟨Q, 0, none⟩)] 49)).alloc (.cells #[.int .i64 6, .bool sec, .int .u64 xs, .string xk, .slice a n c, .int .i64 nn] 54)) := ((Below.refl _ _).alloc (Nat.le_refl _) _).alloc (by simp) _
  have g1 : ((w.alloc (.cells #[.pointer (some ⟨M, 0, none⟩), .pointer (some ⟨Q, 0, none⟩)] 49)).alloc (.cells #[.int .i64 6, .bool sec, .int .u64 xs, .string xk, .slice a n c, .int .i64 nn] 54)).heap[w.heap.size]? = some (.cells #[.pointer (some ⟨M, 0, none⟩), .pointer (some ⟨Q, 0, none⟩)] 49) := by
    rw [Below.heap_alloc _ _ _ (by simp)]; exact World.alloc_heap_new _ _
  have g2 : ((w.alloc (.cells #[.pointer (some ⟨M, 0, none⟩), .pointer (some ⟨Q, 0, none⟩)] 49)).alloc (.cells #[.int .i64 6, .bool sec, .int .u64 xs, .string xk, .slice a n c, .int .i64 nn] 54)).heap[w.heap.size + 1]? = some (.cells #[.int .i64 6, .bool sec, .int .u64 xs, .string xk, .slice a n c, .int .i64 nn] 54) := by
    have := World.alloc_heap_new (w.alloc (.cells #[.pointer (some ⟨M, 0, none⟩), .pointer (some ⟨Q, 0, none⟩)] 49)) (.cells #[.int .i64 6, .bool sec, .int .u64 xs, .string xk, .slice a n c, .int .i64 nn] 54)
    rwa [World.size_alloc] at this
  have hs1 : ((w.alloc (.cells #[.pointer (some ⟨M, 0, none⟩), .pointer (some ⟨Q, 0, none⟩)] 49)).alloc (.cells #[.int .i64 6, .bool sec, .int .u64 xs, .string xk, .slice a n c, .int .i64 nn] 54)).heap.size = w.heap.size + 2 := by simp
  clear h hz hw hwn hwc hwl hwz hd47 hn hxs htu ht hu
  go_enter Try.func12, Try.ntmps12
  go_upto_region 1 with (fail)
  generalize ((w.alloc (.cells #[.pointer (some ⟨M, 0, none⟩), .pointer (some ⟨Q, 0, none⟩)] 49)).alloc (.cells #[.int .i64 6, .bool sec, .int .u64 xs, .string xk, .slice a n c, .int .i64 nn] 54)) = W1 at *
  have HBX : Hid (∀ W : World, Below W1.heap.size W1 W → W.cell? ⟨w.heap.size, 0, none⟩ = some (.pointer (some ⟨M, 0, none⟩)) ∧ W.cell? ⟨w.heap.size, 1, none⟩ = some (.pointer (some ⟨Q, 0, none⟩)) ∧ W.cell? ⟨w.heap.size + 1, 0, none⟩ = some (.int .i64 6) ∧ W.cell? ⟨w.heap.size + 1, 1, none⟩ = some (.bool sec) ∧ W.cell? ⟨w.heap.size + 1, 2, none⟩ = some (.int .u64 xs) ∧ W.cell? ⟨w.heap.size + 1, 3, none⟩ = some (.string xk) ∧ W.cell? ⟨w.heap.size + 1, 4, none⟩ = some (.slice a n c) ∧ W.cell? ⟨w.heap.size + 1, 5, none⟩ = some (.int .i64 nn)) := fun W hW => by
    have k1 := (hW.block _ (by omega : w.heap.size < W1.heap.size)).trans g1
    have k2 := (hW.block _ (by omega : w.heap.size + 1 < W1.heap.size)).trans g2
    exact ⟨by rw [cell_of_obj k1]; rfl, by rw [cell_of_obj k1]; rfl, by rw [cell_of_obj k2]; rfl, by rw [cell_of_obj k2]; rfl, by rw [cell_of_obj k2]; rfl, by rw [cell_of_obj k2]; rfl, by rw [cell_of_obj k2]; rfl, by rw [cell_of_obj k2]; rfl⟩
  have HBG : Hid (W1.heap[w.heap.size]? = some (.cells #[.pointer (some ⟨M, 0, none⟩), .pointer (some ⟨Q, 0, none⟩)] 49)) := g1
  have HB1 : Hid (Below w.heap.size w W1 ∧ W1.heap.size = w.heap.size + 2) := ⟨hb1, hs1⟩
  have HP1 : Hid (Pm t u T W1 M L Q R ds ns hs bs fz) := HP.out.below hb1
  have HPD : Hid (Pm t u T W1.drew M L Q R ds ns hs bs fz) := HP1.out.below (Below.refl _ _).drew
  have HZ1 : Hid (∀ b, W1.heap.size ≤ b → T b = 0) := fun b hb => HZ.out b (by omega)
  clear hb1 g1 g2 hs1
  obtain ⟨p0, p1, o0, o1, o2, o3, o4, o5⟩ := HBX.out W1 (Below.refl _ _)
  obtain ⟨V, hV⟩ : ∃ V : Int, lM ns = V := ⟨_, rfl⟩
  have HG1 : Hid (Calls Try.prog 32 #[.pointer (some ⟨M, 0, none⟩)] W1.drew fun r w' => r = .returned (.int .u64 V) ∧ Below W1.heap.size W1 w') := by
    have := last_mem HPD.out.mt
    rw [hV] at this
    exact this.mono fun r w' ⟨h1, h2⟩ => ⟨h1, by rw [h2]; exact (Below.refl _ _).drew⟩
  have HG2 : Hid (∀ W, Below W1.heap.size W1 W → Calls Try.prog 50 #[.pointer (some ⟨Q, 0, none⟩)] W fun r w' => r = .returned (.int .u64 V) ∧ Below W.heap.size W w') := fun W hW => by
    have := refLast6 (n := (ns.map Nd.e).length) (HP1.out.below hW).rt (by have := HLN.out.2.1; simp; omega) rfl
    rw [← lM_last, hV] at this
    exact this
  have hS1 := HBX.out W1.drew (Below.refl _ _).drew
  go_wp2
  go_region_held3 (fun W => W.cell? ⟨w.heap.size, 0, none⟩ = some (.pointer (some ⟨M, 0, none⟩)) ∧ W.cell? ⟨w.heap.size, 1, none⟩ = some (.pointer (some ⟨Q, 0, none⟩)) ∧ W.cell? ⟨w.heap.size + 1, 0, none⟩ = some (.int .i64 6) ∧ W.cell? ⟨w.heap.size + 1, 1, none⟩ = some (.bool sec) ∧ W.cell? ⟨w.heap.size + 1, 2, none⟩ = some (.int .u64 xs) ∧ W.cell? ⟨w.heap.size + 1, 3, none⟩ = some (.string xk) ∧ W.cell? ⟨w.heap.size + 1, 4, none⟩ = some (.slice a n c) ∧ W.cell? ⟨w.heap.size + 1, 5, none⟩ = some (.int .i64 nn)) (first | assumption | exact hS1)
    (first
    | (go_at_call 32; go_loud (refine HG1.out.mono ?_; rintro r w5 ⟨rfl, hb5⟩; have HB5 := HID5 hb5; have hS5 := HBX.out w5 hb5; clear hb5))
    | (go_at_call 50; go_loud (refine (HG2.out w5 HB5.out).mono ?_; rintro r w6 ⟨rfl, hb6⟩; have hS6 := HBX.out w6 (keepB hb6 HB5.out); have HF : Hid (PmAns t u T w M L Q R ds ns w6) := PmAns.same HP.out (keepB (keepB hb6 HB5.out) HB1.out.1); clear hb6)))
  all_goals (
    go_wp2
    go_ret
    exact ⟨rfl, HF.out⟩)
set_option maxHeartbeats 8000000 in
theorem plays_froz (t u : Nat) (ht : 0 < t) (hu : 0 < u) (htu : t ≠ u ∧ t + 1 ≠ u ∧ t + 2 ≠ u) (T : Nat → Nat) (w : World) (M L Q R : Nat) (ds : List Nat) (ns : List Nd) (hs : List Int) (bs : List Nat) (fz : Bool) (h : Pm t u T w M L Q R ds ns hs bs fz) (hz : ∀ b, w.heap.size ≤ b → T b = 0) (hd47 : ds.length ≤ 140737488355328) (hn : ns.length ≤ 100000000)
    (sec : Bool) (xs : Int) (hxs : 0 ≤ xs ∧ xs ≤ 18446744073709551615) (xk : ByteArray) (a : Option Addr) (n c : Nat) (ws : List Wr) (hw : IsWr w a ws) (hwn : ws.length = n) (hwc : a = none → c = 0) (hwl : n ≤ 100000) (hwz : ∀ b off, ws ≠ [] → a = some ⟨b, off, none⟩ → T b = 0) (nn : Int) :
    Calls Try.prog 12 #[.agg #[.pointer (some ⟨M, 0, none⟩), .pointer (some ⟨Q, 0, none⟩)], .agg #[.int .i64 8, .bool sec, .int .u64 xs, .string xk, .slice a n c, .int .i64 nn]] w fun e w' => e = .returned (.bool true) ∧ PmAns t u T w M L Q R ds ns w' := by
  have HP : Hid (Pm t u T w M L Q R ds ns hs bs fz) := h
  have HZ : Hid (∀ b, w.heap.size ≤ b → T b = 0) := hz
  have HWR : Hid (IsWr w a ws ∧ ws.length = n ∧ (a = none → c = 0) ∧ n ≤ 100000 ∧ ∀ b off, ws ≠ [] → a = some ⟨b, off, none⟩ → T b = 0) := ⟨hw, hwn, hwc, hwl, hwz⟩
  have HLN : Hid (ds.length ≤ 140737488355328 ∧ ns.length ≤ 100000000 ∧ (0 ≤ xs ∧ xs ≤ 18446744073709551615)) := ⟨hd47, hn, hxs⟩
  have HTU : Hid (t ≠ u ∧ t + 1 ≠ u ∧ t + 2 ≠ u) := htu
  have HT0 : Hid (0 < t ∧ 0 < u) := ⟨ht, hu⟩
  have hb1 : Below w.heap.size w ((w.alloc (.cells #[.pointer (some ⟨M, 0, none⟩), .pointer (some ⟨Q, 0, none⟩)] 49)).alloc (.cells #[.int .i64 8, .bool sec, .int .u64 xs, .string xk, .slice a n c, .int .i64 nn] 54)) := ((Below.refl _ _).alloc (Nat.le_refl _) _).alloc (by simp) _
  have g1 : ((w.alloc (.cells #[.pointer (some ⟨M, 0, none⟩), .pointer (some ⟨Q, 0, none⟩)] 49)).alloc (.cells #[.int .i64 8, .bool sec, .int .u64 xs, .string xk, .slice a n c, .int .i64 nn] 54)).heap[w.heap.size]? = some (.cells #[.pointer (some ⟨M, 0, none⟩), .pointer (some ⟨Q, 0, none⟩)] 49) := by
    rw [Below.heap_alloc _ _ _ (by simp)]; exact World.alloc_heap_new _ _
  have g2 : ((w.alloc (.cells #[.pointer (some ⟨M, 0, none⟩), .pointer (some ⟨Q, 0, none⟩)] 49)).alloc (.cells #[.int .i64 8, .bool sec, .int .u64 xs, .string xk, .slice a n c, .int .i64 nn] 54)).heap[w.heap.size + 1]? = some (.cells #[.int .i64 8, .bool sec, .int .u64 xs, .string xk, .slice a n c, .int .i64 nn] 54) := by
    have := World.alloc_heap_new (w.alloc (.cells #[.pointer (some ⟨M, 0, none⟩), .pointer (some ⟨Q, 0, none⟩)] 49)) (.cells #[.int .i64 8, .bool sec, .int .u64 xs, .string xk, .slice a n c, .int .i64 nn] 54)
    rwa [World.size_alloc] at this
  have hs1 : ((w.alloc (.cells #[.pointer (some ⟨M, 0, none⟩), .pointer (some ⟨Q, 0, none⟩)] 49)).alloc (.cells #[.int .i64 8, .bool sec, .int .u64 xs, .string xk, .slice a n c, .int .i64 nn] 54)).heap.size = w.heap.size + 2 := by simp
  clear h hz hw hwn hwc hwl hwz hd47 hn hxs htu ht hu
  go_enter Try.func12, Try.ntmps12
  go_upto_region 1 with (fail)
  generalize ((w.alloc (.cells #[.pointer (some ⟨M, 0, none⟩), .pointer (some ⟨Q, 0, none⟩)] 49)).alloc (.cells #[.int .i64 8, .bool sec, .int .u64 xs, .string xk, .slice a n c, .int .i64 nn] 54)) = W1 at *
  have HBX : Hid (∀ W : World, Below W1.heap.size W1 W → W.cell? ⟨w.heap.size, 0, none⟩ = some (.pointer (some ⟨M, 0, none⟩)) ∧ W.cell? ⟨w.heap.size, 1, none⟩ = some (.pointer (some ⟨Q, 0, none⟩)) ∧ W.cell? ⟨w.heap.size + 1, 0, none⟩ = some (.int .i64 8) ∧ W.cell? ⟨w.heap.size + 1, 1, none⟩ = some (.bool sec) ∧ W.cell? ⟨w.heap.size + 1, 2, none⟩ = some (.int .u64 xs) ∧ W.cell? ⟨w.heap.size + 1, 3, none⟩ = some (.string xk) ∧ W.cell? ⟨w.heap.size + 1, 4, none⟩ = some (.slice a n c) ∧ W.cell? ⟨w.heap.size + 1, 5, none⟩ = some (.int .i64 nn)) := fun W hW => by
    have k1 := (hW.block _ (by omega : w.heap.size < W1.heap.size)).trans g1
    have k2 := (hW.block _ (by omega : w.heap.size + 1 < W1.heap.size)).trans g2
    exact ⟨by rw [cell_of_obj k1]; rfl, by rw [cell_of_obj k1]; rfl, by rw [cell_of_obj k2]; rfl, by rw [cell_of_obj k2]; rfl, by rw [cell_of_obj k2]; rfl, by rw [cell_of_obj k2]; rfl, by rw [cell_of_obj k2]; rfl, by rw [cell_of_obj k2]; rfl⟩
  have HBG : Hid (W1.heap[w.heap.size]? = some (.cells #[.pointer (some ⟨M, 0, none⟩), .pointer (some ⟨Q, 0, none⟩)] 49)) := g1
  have HB1 : Hid (Below w.heap.size w W1 ∧ W1.heap.size = w.heap.size + 2) := ⟨hb1, hs1⟩
  have HP1 : Hid (Pm t u T W1 M L Q R ds ns hs bs fz) := HP.out.below hb1
  have HPD : Hid (Pm t u T W1.drew M L Q R ds ns hs bs fz) := HP1.out.below (Below.refl _ _).drew
  have HZ1 : Hid (∀ b, W1.heap.size ≤ b → T b = 0) := fun b hb => HZ.out b (by omega)
  clear hb1 g1 g2 hs1
  obtain ⟨p0, p1, o0, o1, o2, o3, o4, o5⟩ := HBX.out W1 (Below.refl _ _)
  have HG1 : Hid (Calls Try.prog 33 #[.pointer (some ⟨M, 0, none⟩)] W1.drew fun r w' => r = .returned (.bool fz) ∧ Below W1.heap.size W1 w') := by
    have := frozen_mem HPD.out.mt
    exact this.mono fun r w' ⟨h1, h2⟩ => ⟨h1, by rw [h2]; exact (Below.refl _ _).drew⟩
  have HG2 : Hid (∀ W, Below W1.heap.size W1 W → Calls Try.prog 52 #[.pointer (some ⟨Q, 0, none⟩)] W fun r w' => r = .returned (.bool fz) ∧ Below W.heap.size W w') := fun W hW => by
    exact (refFrozen6 (HP1.out.below hW).rt).mono fun r w' ⟨h1, h2⟩ => ⟨h1, by rw [h2]; exact Below.refl _ _⟩
  have hS1 := HBX.out W1.drew (Below.refl _ _).drew
  go_wp2
  go_region_held3 (fun W => W.cell? ⟨w.heap.size, 0, none⟩ = some (.pointer (some ⟨M, 0, none⟩)) ∧ W.cell? ⟨w.heap.size, 1, none⟩ = some (.pointer (some ⟨Q, 0, none⟩)) ∧ W.cell? ⟨w.heap.size + 1, 0, none⟩ = some (.int .i64 8) ∧ W.cell? ⟨w.heap.size + 1, 1, none⟩ = some (.bool sec) ∧ W.cell? ⟨w.heap.size + 1, 2, none⟩ = some (.int .u64 xs) ∧ W.cell? ⟨w.heap.size + 1, 3, none⟩ = some (.string xk) ∧ W.cell? ⟨w.heap.size + 1, 4, none⟩ = some (.slice a n c) ∧ W.cell? ⟨w.heap.size + 1, 5, none⟩ = some (.int .i64 nn)) (first | assumption | exact hS1)
    (first
    | (go_at_call 33; go_loud (refine HG1.out.mono ?_; rintro r w5 ⟨rfl, hb5⟩; have HB5 := HID5 hb5; have hS5 := HBX.out w5 hb5; clear hb5))
    | (go_at_call 52; go_loud (refine (HG2.out w5 HB5.out).mono ?_; rintro r w6 ⟨rfl, hb6⟩; have hS6 := HBX.out w6 (keepB hb6 HB5.out); have HF : Hid (PmAns t u T w M L Q R ds ns w6) := PmAns.same HP.out (keepB (keepB hb6 HB5.out) HB1.out.1); clear hb6)))
  all_goals (
    go_wp2
    go_ret
    exact ⟨rfl, HF.out⟩)
theorem freeze_mem {t : Nat} {T : Nat → Nat} {w : World} {M L : Nat} {ds : List Nat} {ns : List Nd} {fz : Bool} (h : Mt t T w M L ds ns fz) :
    Calls Try.prog 34 #[.pointer (some ⟨M, 0, none⟩)] w fun r w' => (∃ v, r = .returned v) ∧ Mt t T w' M L ds ns true ∧ Goes (· = t + 2) T w T w' := by
  have HM : Hid (Mt t T w M L ds ns fz) := h
  have c3 := h.c3
  have f3 := h.fr 3
  clear h
  go_enter Try.func34, Try.ntmps34
  go_wp2
  refine bodyPost_end (results_none Try.results34 _ _ _) rfl ⟨⟨_, rfl⟩, ?_⟩
  have h := HM.out
  have hg : Goes (· = t + 2) T w T (w.setCell ⟨M, 3, none⟩ (.bool true)) := Goes.setCell h.tag
  have ne : ∀ (i j : Nat), i ≠ j → (⟨M, i, none⟩ : Addr) ≠ ⟨M, j, none⟩ := fun i j hij q => hij (congrArg Addr.off q)
  refine ⟨⟨h.sl.goes hg (by omega) (by omega), h.tag, by have := h.lt; simpa using this, ?_, ?_, ?_, World.cell?_setCell_same _ _ _ c3, fun j => ?_, h.ok⟩, hg⟩
  · rw [World.cell?_setCell_other _ ⟨M, 3, none⟩ ⟨M, 0, none⟩ _ (ne _ _ (by omega))]; exact h.c0
  · rw [World.cell?_setCell_other _ ⟨M, 3, none⟩ ⟨M, 1, none⟩ _ (ne _ _ (by omega))]; exact h.c1
  · rw [World.cell?_setCell_other _ ⟨M, 3, none⟩ ⟨M, 2, none⟩ _ (ne _ _ (by omega))]; exact h.c2
  · rw [World.frozen?_setCell]; exact h.fr j
/-- both are frozen -/
theorem both_freeze {t u : Nat} {T : Nat → Nat} {w w5 w6 : World} {M L Q R : Nat} {ds : List Nat} {ns : List Nd} {hs : List Int} {bs : List Nat} {fz : Bool} (h : Pm t u T w M L Q R ds ns hs bs fz) (htu : t ≠ u ∧ t + 1 ≠ u ∧ t + 2 ≠ u) (h5 : Mt t T w5 M L ds ns true ∧ Goes (· = t + 2) T w T w5) (h6 : Rt w6 Q R (ns.map Nd.e) hs bs true ∧ Keep [Q] w5 w6) : PmAns t u T w M L Q R ds ns w6 := by
  have g6 : Goes (· = u) T w5 T w6 := ⟨h6.2.os, h6.2.tape, h6.2.output, h6.2.size, fun b hb hn => h6.2.block b hb (fun hm => hn (by simp at hm; rw [hm]; exact h.tQ)), fun _ _ _ => rfl, fun _ _ h0 => h0⟩
  exact ⟨T, ns, hs, bs, true, ⟨h5.1.goes g6 htu.1 htu.2.1 htu.2.2, h6.1, h.tQ, h.tR, h.tb⟩, (h5.2.mono fun z hz => .inr (.inl hz)).trans (g6.mono fun z hz => .inr (.inr hz)), by omega⟩
set_option maxHeartbeats 8000000 in
theorem plays_freeze (t u : Nat) (ht : 0 < t) (hu : 0 < u) (htu : t ≠ u ∧ t + 1 ≠ u ∧ t + 2 ≠ u) (T : Nat → Nat) (w : World) (M L Q R : Nat) (ds : List Nat) (ns : List Nd) (hs : List Int) (bs : List Nat) (fz : Bool) (h : Pm t u T w M L Q R ds ns hs bs fz) (hz : ∀ b, w.heap.size ≤ b → T b = 0) (hd47 : ds.length ≤ 140737488355328) (hn : ns.length ≤ 100000000)
    (sec : Bool) (xs : Int) (hxs : 0 ≤ xs ∧ xs ≤ 18446744073709551615) (xk : ByteArray) (a : Option Addr) (n c : Nat) (ws : List Wr) (hw : IsWr w a ws) (hwn : ws.length = n) (hwc : a = none → c = 0) (hwl : n ≤ 100000) (hwz : ∀ b off, ws ≠ [] → a = some ⟨b, off, none⟩ → T b = 0) (nn : Int) :
    Calls Try.prog 12 #[.agg #[.pointer (some ⟨M, 0, none⟩), .pointer (some ⟨Q, 0, none⟩)], .agg #[.int .i64 7, .bool sec, .int .u64 xs, .string xk, .slice a n c, .int .i64 nn]] w fun e w' => e = .returned (.bool true) ∧ PmAns t u T w M L Q R ds ns w' := by
  have HP : Hid (Pm t u T w M L Q R ds ns hs bs fz) := h
  have HZ : Hid (∀ b, w.heap.size ≤ b → T b = 0) := hz
  have HWR : Hid (IsWr w a ws ∧ ws.length = n ∧ (a = none → c = 0) ∧ n ≤ 100000 ∧ ∀ b off, ws ≠ [] → a = some ⟨b, off, none⟩ → T b = 0) := ⟨hw, hwn, hwc, hwl, hwz⟩
  have HLN : Hid (ds.length ≤ 140737488355328 ∧ ns.length ≤ 100000000 ∧ (0 ≤ xs ∧ xs ≤ 18446744073709551615)) := ⟨hd47, hn, hxs⟩
  have HTU : Hid (t ≠ u ∧ t + 1 ≠ u ∧ t + 2 ≠ u) := htu
  have HT0 : Hid (0 < t ∧ 0 < u) := ⟨ht, hu⟩
  have hb1 : Below w.heap.size w ((w.alloc (.cells #[.pointer (some ⟨M, 0, none⟩), .pointer (some ⟨Q, 0, none⟩)] 49)).alloc (.cells #[.int .i64 7, .bool sec, .int .u64 xs, .string xk, .slice a n c, .int .i64 nn] 54)) := ((Below.refl _ _).alloc (Nat.le_refl _) _).alloc (by simp) _
  have g1 : ((w.alloc (.cells #[.pointer (some ⟨M, 0, none⟩), .pointer (some ⟨Q, 0, none⟩)] 49)).alloc (.cells #[.int .i64 7, .bool sec, .int .u64 xs, .string xk, .slice a n c, .int .i64 nn] 54)).heap[w.heap.size]? = some (.cells #[.pointer (some ⟨M, 0, none⟩), .pointer (some ⟨Q, 0, none⟩)] 49) := by
    rw [Below.heap_alloc _ _ _ (by simp)]; exact World.alloc_heap_new _ _
  have g2 : ((w.alloc (.cells #[.pointer (some ⟨M, 0, none⟩), .pointer (some ⟨Q, 0, none⟩)] 49)).alloc (.cells #[.int .i64 7, .bool sec, .int .u64 xs, .string xk, .slice a n c, .int .i64 nn] 54)).heap[w.heap.size + 1]? = some (.cells #[.int .i64 7, .bool sec, .int .u64 xs, .string xk, .slice a n c, .int .i64 nn] 54) := by
    have := World.alloc_heap_new (w.alloc (.cells #[.pointer (some ⟨M, 0, none⟩), .pointer (some ⟨Q, 0, none⟩)] 49)) (.cells #[.int .i64 7, .bool sec, .int .u64 xs, .string xk, .slice a n c, .int .i64 nn] 54)
    rwa [World.size_alloc] at this
  have hs1 : ((w.alloc (.cells #[.pointer (some ⟨M, 0, none⟩), .pointer (some ⟨Q, 0, none⟩)] 49)).alloc (.cells #[.int .i64 7, .bool sec, .int .u64 xs, .string xk, .slice a n c, .int .i64 nn] 54)).heap.size = w.heap.size + 2 := by simp
  clear h hz hw hwn hwc hwl hwz hd47 hn hxs htu ht hu
  go_enter Try.func12, Try.ntmps12
  go_upto_region 1 with (fail)
  generalize ((w.alloc (.cells #[.pointer (some ⟨M, 0, none⟩), .pointer (some ⟨Q, 0, none⟩)] 49)).alloc (.cells #[.int .i64 7, .bool sec, .int .u64 xs, .string xk, .slice a n c, .int .i64 nn] 54)) = W1 at *
  have HBX : Hid (∀ W : World, Below W1.heap.size W1 W → W.cell? ⟨w.heap.size, 0, none⟩ = some (.pointer (some ⟨M, 0, none⟩)) ∧ W.cell? ⟨w.heap.size, 1, none⟩ = some (.pointer (some ⟨Q, 0, none⟩)) ∧ W.cell? ⟨w.heap.size + 1, 0, none⟩ = some (.int .i64 7) ∧ W.cell? ⟨w.heap.size + 1, 1, none⟩ = some (.bool sec) ∧ W.cell? ⟨w.heap.size + 1, 2, none⟩ = some (.int .u64 xs) ∧ W.cell? ⟨w.heap.size + 1, 3, none⟩ = some (.string xk) ∧ W.cell? ⟨w.heap.size + 1, 4, none⟩ = some (.slice a n c) ∧ W.cell? ⟨w.heap.size + 1, 5, none⟩ = some (.int .i64 nn)) := fun W hW => by
    have k1 := (hW.block _ (by omega : w.heap.size < W1.heap.size)).trans g1
    have k2 := (hW.block _ (by omega : w.heap.size + 1 < W1.heap.size)).trans g2
    exact ⟨by rw [cell_of_obj k1]; rfl, by rw [cell_of_obj k1]; rfl, by rw [cell_of_obj k2]; rfl, by rw [cell_of_obj k2]; rfl, by rw [cell_of_obj k2]; rfl, by rw [cell_of_obj k2]; rfl, by rw [cell_of_obj k2]; rfl, by rw [cell_of_obj k2]; rfl⟩
  have HBG : Hid (W1.heap[w.heap.size]? = some (.cells #[.pointer (some ⟨M, 0, none⟩), .pointer (some ⟨Q, 0, none⟩)] 49)) := g1
  have HB1 : Hid (Below w.heap.size w W1 ∧ W1.heap.size = w.heap.size + 2) := ⟨hb1, hs1⟩
  have HP1 : Hid (Pm t u T W1 M L Q R ds ns hs bs fz) := HP.out.below hb1
  have HPD : Hid (Pm t u T W1.drew M L Q R ds ns hs bs fz) := HP1.out.below (Below.refl _ _).drew
  have HZ1 : Hid (∀ b, W1.heap.size ≤ b → T b = 0) := fun b hb => HZ.out b (by omega)
  clear hb1 g1 g2 hs1
  obtain ⟨p0, p1, o0, o1, o2, o3, o4, o5⟩ := HBX.out W1 (Below.refl _ _)
  have HG1 : Hid (Calls Try.prog 34 #[.pointer (some ⟨M, 0, none⟩)] W1 fun r w' => (∃ v, r = .returned v) ∧ w'.heap[w.heap.size]? = W1.heap[w.heap.size]? ∧ Calls Try.prog 51 #[.pointer (some ⟨Q, 0, none⟩)] w' fun r w'' => (∃ v, r = .returned v) ∧ PmAns t u T W1 M L Q R ds ns w'') := by
    refine (freeze_mem HP1.out.mt).mono ?_
    rintro r w' ⟨h1, h2, h3⟩
    refine ⟨h1, h3.block _ (by rw [HB1.out.2]; omega) (by rw [HZ.out _ (Nat.le_refl _)]; omega), ?_⟩
    have hrt : Rt w' Q R (ns.map Nd.e) hs bs fz := HP1.out.rt.goes h3 (by rw [HP1.out.tQ]; have := HTU.out; omega) (by rw [HP1.out.tR]; have := HTU.out; omega) (fun b hb => by rw [HP1.out.tb b hb]; have := HTU.out; omega)
    refine (refFreeze6 hrt).mono ?_
    rintro r w'' ⟨k1, k2, k3⟩
    exact ⟨k1, both_freeze HP1.out HTU.out ⟨h2, h3⟩ ⟨k2, k3⟩⟩
  go_wp2_with fail
  refine Calls.mono HG1.out ?_
  rintro e w2 ⟨⟨v2, rfl⟩, hb2, hc2⟩
  have HC2 := HID5 hc2
  have gg := hb2.trans HBG.out
  clear hc2 hb2 p0 p1 o0 o1 o2 o3 o4 o5
  have p1 : w2.cell? ⟨w.heap.size, 1, none⟩ = some (.pointer (some ⟨Q, 0, none⟩)) := by rw [cell_of_obj gg]; rfl
  clear gg
  go_wp2_with fail
  refine Calls.mono HC2.out ?_
  rintro e w3 ⟨⟨v3, rfl⟩, hp⟩
  have HF : Hid (PmAns t u T w M L Q R ds ns w3) := hp.start HB1.out.1
  clear hp
  go_wp2
  go_ret
  exact ⟨rfl, HF.out⟩
set_option maxHeartbeats 8000000 in
theorem plays_not (t u : Nat) (ht : 0 < t) (hu : 0 < u) (htu : t ≠ u ∧ t + 1 ≠ u ∧ t + 2 ≠ u) (T : Nat → Nat) (w : World) (M L Q R : Nat) (ds : List Nat) (ns : List Nd) (hs : List Int) (bs : List Nat) (fz : Bool) (h : Pm t u T w M L Q R ds ns hs bs fz) (hz : ∀ b, w.heap.size ≤ b → T b = 0) (hd47 : ds.length ≤ 140737488355328) (hn : ns.length ≤ 100000000)
    (kind : Int) (h1 : (kind == 1) = false) (h2 : (kind == 2) = false) (h3 : (kind == 3) = false) (h4 : (kind == 4) = false) (h5 : (kind == 5) = false) (h6 : (kind == 6) = false) (h7 : (kind == 7) = false) (h8 : (kind == 8) = false) (sec : Bool) (xs : Int) (hxs : 0 ≤ xs ∧ xs ≤ 18446744073709551615) (xk : ByteArray) (a : Option Addr) (n c : Nat) (ws : List Wr) (hw : IsWr w a ws) (hwn : ws.length = n) (hwc : a = none → c = 0) (hwl : n ≤ 100000) (hwz : ∀ b off, ws ≠ [] → a = some ⟨b, off, none⟩ → T b = 0) (nn : Int) :
    Calls Try.prog 12 #[.agg #[.pointer (some ⟨M, 0, none⟩), .pointer (some ⟨Q, 0, none⟩)], .agg #[.int .i64 kind, .bool sec, .int .u64 xs, .string xk, .slice a n c, .int .i64 nn]] w fun e w' => e = .returned (.bool true) ∧ PmAns t u T w M L Q R ds ns w' := by
  have HP : Hid (Pm t u T w M L Q R ds ns hs bs fz) := h
  have HZ : Hid (∀ b, w.heap.size ≤ b → T b = 0) := hz
  have HWR : Hid (IsWr w a ws ∧ ws.length = n ∧ (a = none → c = 0) ∧ n ≤ 100000 ∧ ∀ b off, ws ≠ [] → a = some ⟨b, off, none⟩ → T b = 0) := ⟨hw, hwn, hwc, hwl, hwz⟩
  have HLN : Hid (ds.length ≤ 140737488355328 ∧ ns.length ≤ 100000000 ∧ (0 ≤ xs ∧ xs ≤ 18446744073709551615)) := ⟨hd47, hn, hxs⟩
  have HTU : Hid (t ≠ u ∧ t + 1 ≠ u ∧ t + 2 ≠ u) := htu
  have HT0 : Hid (0 < t ∧ 0 < u) := ⟨ht, hu⟩
  have hb1 : Below w.heap.size w ((w.alloc (.cells #[.pointer (some ⟨M, 0, none⟩), .pointer (some ⟨Q, 0, none⟩)] 49)).alloc (.cells #[.int .i64 kind, .bool sec, .int .u64 xs, .string xk, .slice a n c, .int .i64 nn] 54)) := ((Below.refl _ _).alloc (Nat.le_refl _) _).alloc (by simp) _
  have g1 : ((w.alloc (.cells #[.pointer (some ⟨M, 0, none⟩), .pointer (some ⟨Q, 0, none⟩)] 49)).alloc (.cells #[.int .i64 kind, .bool sec, .int .u64 xs, .string xk, .slice a n c, .int .i64 nn] 54)).heap[w.heap.size]? = some (.cells #[.pointer (some ⟨M, 0, none⟩), .pointer (some ⟨Q, 0, none⟩)] 49) := by
    rw [Below.heap_alloc _ _ _ (by simp)]; exact World.alloc_heap_new _ _
  have g2 : ((w.alloc (.cells #[.pointer (some ⟨M, 0, none⟩), .pointer (some ⟨Q, 0, none⟩)] 49)).alloc (.cells #[.int .i64 kind, .bool sec, .int .u64 xs, .string xk, .slice a n c, .int .i64 nn] 54)).heap[w.heap.size + 1]? = some (.cells #[.int .i64 kind, .bool sec, .int .u64 xs, .string xk, .slice a n c, .int .i64 nn] 54) := by
    have := World.alloc_heap_new (w.alloc (.cells #[.pointer (some ⟨M, 0, none⟩), .pointer (some ⟨Q, 0, none⟩)] 49)) (.cells #[.int .i64 kind, .bool sec, .int .u64 xs, .string xk, .slice a n c, .int .i64 nn] 54)
    rwa [World.size_alloc] at this
  have hs1 : ((w.alloc (.cells #[.pointer (some ⟨M, 0, none⟩), .pointer (some ⟨Q, 0, none⟩)] 49)).alloc (.cells #[.int .i64 kind, .bool sec, .int .u64 xs, .string xk, .slice a n c, .int .i64 nn] 54)).heap.size = w.heap.size + 2 := by simp
  clear h hz hw hwn hwc hwl hwz hd47 hn hxs htu ht hu
  go_enter Try.func12, Try.ntmps12
  go_upto_region 1 with (fail)
  generalize ((w.alloc (.cells #[.pointer (some ⟨M, 0, none⟩), .pointer (some ⟨Q, 0, none⟩)] 49)).alloc (.cells #[.int .i64 kind, .bool sec, .int .u64 xs, .string xk, .slice a n c, .int .i64 nn] 54)) = W1 at *
  have HBX : Hid (∀ W : World, Below W1.heap.size W1 W → W.cell? ⟨w.heap.size, 0, none⟩ = some (.pointer (some ⟨M, 0, none⟩)) ∧ W.cell? ⟨w.heap.size, 1, none⟩ = some (.pointer (some ⟨Q, 0, none⟩)) ∧ W.cell? ⟨w.heap.size + 1, 0, none⟩ = some (.int .i64 kind) ∧ W.cell? ⟨w.heap.size + 1, 1, none⟩ = some (.bool sec) ∧ W.cell? ⟨w.heap.size + 1, 2, none⟩ = some (.int .u64 xs) ∧ W.cell? ⟨w.heap.size + 1, 3, none⟩ = some (.string xk) ∧ W.cell? ⟨w.heap.size + 1, 4, none⟩ = some (.slice a n c) ∧ W.cell? ⟨w.heap.size + 1, 5, none⟩ = some (.int .i64 nn)) := fun W hW => by
    have k1 := (hW.block _ (by omega : w.heap.size < W1.heap.size)).trans g1
    have k2 := (hW.block _ (by omega : w.heap.size + 1 < W1.heap.size)).trans g2
    exact ⟨by rw [cell_of_obj k1]; rfl, by rw [cell_of_obj k1]; rfl, by rw [cell_of_obj k2]; rfl, by rw [cell_of_obj k2]; rfl, by rw [cell_of_obj k2]; rfl, by rw [cell_of_obj k2]; rfl, by rw [cell_of_obj k2]; rfl, by rw [cell_of_obj k2]; rfl⟩
  have HBG : Hid (W1.heap[w.heap.size]? = some (.cells #[.pointer (some ⟨M, 0, none⟩), .pointer (some ⟨Q, 0, none⟩)] 49)) := g1
  have HB1 : Hid (Below w.heap.size w W1 ∧ W1.heap.size = w.heap.size + 2) := ⟨hb1, hs1⟩
  have HP1 : Hid (Pm t u T W1 M L Q R ds ns hs bs fz) := HP.out.below hb1
  have HPD : Hid (Pm t u T W1.drew M L Q R ds ns hs bs fz) := HP1.out.below (Below.refl _ _).drew
  have HZ1 : Hid (∀ b, W1.heap.size ≤ b → T b = 0) := fun b hb => HZ.out b (by omega)
  clear hb1 g1 g2 hs1
  obtain ⟨p0, p1, o0, o1, o2, o3, o4, o5⟩ := HBX.out W1 (Below.refl _ _)
  have HF : Hid (PmAns t u T w M L Q R ds ns W1) := PmAns.same HP.out HB1.out.1
  go_wp2
  go_ret
  exact ⟨rfl, HF.out⟩
theorem plays_any (t u : Nat) (ht : 0 < t) (hu : 0 < u) (htu : t ≠ u ∧ t + 1 ≠ u ∧ t + 2 ≠ u) (T : Nat → Nat) (w : World) (M L Q R : Nat) (ds : List Nat) (ns : List Nd) (hs : List Int) (bs : List Nat) (fz : Bool) (h : Pm t u T w M L Q R ds ns hs bs fz) (hz : ∀ b, w.heap.size ≤ b → T b = 0) (hd47 : ds.length ≤ 140737488355328) (hn : ns.length ≤ 100000000)
    (kind : Int) (sec : Bool) (xs : Int) (hxs : 0 ≤ xs ∧ xs ≤ 18446744073709551615) (xk : ByteArray) (a : Option Addr) (n c : Nat) (ws : List Wr) (hw : IsWr w a ws) (hwn : ws.length = n) (hwc : a = none → c = 0) (hwl : n ≤ 100000) (hwz : ∀ b off, ws ≠ [] → a = some ⟨b, off, none⟩ → T b = 0) (nn : Int) :
    Calls Try.prog 12 #[.agg #[.pointer (some ⟨M, 0, none⟩), .pointer (some ⟨Q, 0, none⟩)], .agg #[.int .i64 kind, .bool sec, .int .u64 xs, .string xk, .slice a n c, .int .i64 nn]] w fun e w' => e = .returned (.bool true) ∧ PmAns t u T w M L Q R ds ns w' := by
  by_cases h1 : kind = 1
  · subst h1; exact plays_add t u ht hu htu T w M L Q R ds ns hs bs fz h hz hd47 hn sec xs hxs xk a n c ws hw hwn hwc hwl hwz nn
  by_cases h2 : kind = 2
  · subst h2; exact plays_get t u ht hu htu T w M L Q R ds ns hs bs fz h hz hd47 hn sec xs hxs xk a n c ws hw hwn hwc hwl hwz nn
  by_cases h3 : kind = 3
  · subst h3; exact plays_from t u ht hu htu T w M L Q R ds ns hs bs fz h hz hd47 hn sec xs hxs xk a n c ws hw hwn hwc hwl hwz nn
  by_cases h4 : kind = 4
  · subst h4; exact plays_all t u ht hu htu T w M L Q R ds ns hs bs fz h hz hd47 hn sec xs hxs xk a n c ws hw hwn hwc hwl hwz nn
  by_cases h5 : kind = 5
  · subst h5; exact plays_wei t u ht hu htu T w M L Q R ds ns hs bs fz h hz hd47 hn sec xs hxs xk a n c ws hw hwn hwc hwl hwz nn
  by_cases h6 : kind = 6
  · subst h6; exact plays_last t u ht hu htu T w M L Q R ds ns hs bs fz h hz hd47 hn sec xs hxs xk a n c ws hw hwn hwc hwl hwz nn
  by_cases h7 : kind = 7
  · subst h7; exact plays_freeze t u ht hu htu T w M L Q R ds ns hs bs fz h hz hd47 hn sec xs hxs xk a n c ws hw hwn hwc hwl hwz nn
  by_cases h8 : kind = 8
  · subst h8; exact plays_froz t u ht hu htu T w M L Q R ds ns hs bs fz h hz hd47 hn sec xs hxs xk a n c ws hw hwn hwc hwl hwz nn
  exact plays_not t u ht hu htu T w M L Q R ds ns hs bs fz h hz hd47 hn kind (by simpa using h1) (by simpa using h2) (by simpa using h3) (by simpa using h4) (by simpa using h5) (by simpa using h6) (by simpa using h7) (by simpa using h8) sec xs hxs xk a n c ws hw hwn hwc hwl hwz nn
end Mem
end Go.Proofs.Ytcioaoanhmpdkaa
