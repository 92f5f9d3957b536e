import Derived.Test.YtcioaoanhmpdkaaPm6
import Derived.Deep.RegionLaw
import Derived.Deep.RegionHeld3
import Derived.Deep.DeepCutAuto
import Derived.BigQuiet
import Derived.Test.YtcioaoanhmpdkaaUnd
namespace Go.Proofs.Ytcioaoanhmpdkaa
namespace Mem
open Go.RowKit Laws Irw Erw KMath Skm Byt Sk Grp Crw Chk Mq
set_option linter.unusedVariables false
set_option maxRecDepth 100000
set_option linter.unusedSimpArgs false
set_option maxHeartbeats 8000000 in
theorem holds_any (t u : Nat) (ht : 0 < t) (T : Nat → Nat) (w : World) (M L Q R : Nat) (ds : List Nat) (ns : List Nd) (hs : List Int) (bs : List Nat) (fz : Bool) (h : Pm t u T w M L Q R ds ns hs bs fz) (hz : ∀ b, w.heap.size ≤ b → T b = 0) (hn : ns.length ≤ 100000000) :
    Calls Try.prog 16 #[.agg #[.pointer (some ⟨M, 0, none⟩), .pointer (some ⟨Q, 0, none⟩)]] w fun e w' => e = .returned (.bool true) ∧ Below w.heap.size w w' := by
  have HP : Hid (Pm t u T w M L Q R ds ns hs bs fz) := h
  have HZ : Hid (∀ b, w.heap.size ≤ b → T b = 0) := hz
  have HLN : Hid (0 < t ∧ ns.length ≤ 100000000) := ⟨ht, hn⟩
  have hb1 : Below w.heap.size w (w.alloc (.cells #[.pointer (some ⟨M, 0, none⟩), .pointer (some ⟨Q, 0, none⟩)] 49)) := (Below.refl _ _).alloc (Nat.le_refl _) _
  have g1 : (w.alloc (.cells #[.pointer (some ⟨M, 0, none⟩), .pointer (some ⟨Q, 0, none⟩)] 49)).heap[w.heap.size]? = some (.cells #[.pointer (some ⟨M, 0, none⟩), .pointer (some ⟨Q, 0, none⟩)] 49) := World.alloc_heap_new _ _
  clear h hz hn ht
  go_enter Try.func16, Try.ntmps16
  go_upto_region 1 with (fail)
  generalize w.alloc (.cells #[.pointer (some ⟨M, 0, none⟩), .pointer (some ⟨Q, 0, none⟩)] 49) = W1 at *
  have HB1 : Hid (Below w.heap.size w W1) := hb1
  have HP1 : Hid (Pm t u T W1 M L Q R ds ns hs bs fz) := HP.out.below hb1
  have HZ1 : Hid (∀ b, W1.heap.size ≤ b → T b = 0) := fun b hb => HZ.out b (Nat.le_trans hb1.size hb)
  have HBX : Hid (∀ W, Below W1.heap.size W1 W → W.cell? ⟨w.heap.size, 0, none⟩ = some (.pointer (some ⟨M, 0, none⟩)) ∧ W.cell? ⟨w.heap.size, 1, none⟩ = some (.pointer (some ⟨Q, 0, none⟩))) := fun W hW => by
    have k1 := (hW.block _ (Array.getElem?_eq_some_iff.1 g1).1).trans g1
    exact ⟨by rw [cell_of_obj k1]; rfl, by rw [cell_of_obj k1]; rfl⟩
  clear hb1 g1
  obtain ⟨K, hK⟩ : ∃ K, ns.length = K := ⟨_, rfl⟩
  obtain ⟨J, hJ⟩ : ∃ J, (frm ⟨#[]⟩ 18446744073709551615 (ns.map Nd.e)).length = J := ⟨_, rfl⟩
  obtain ⟨V, hV⟩ : ∃ V : Int, (wS ns : Int) = V := ⟨_, rfl⟩
  obtain ⟨V2, hV2⟩ : ∃ V : Int, lM ns = V := ⟨_, rfl⟩
  have HA : Hid (∀ W, Below W1.heap.size W1 W → Calls Try.prog 30 #[.pointer (some ⟨M, 0, none⟩)] W fun e w' => ∃ fv, e = .returned fv ∧ Below W1.heap.size W1 w' ∧ ∀ W, Below w'.heap.size w' W → Calls Try.prog 48 #[.pointer (some ⟨Q, 0, none⟩)] W fun r w'' => ∃ a c, r = .returned (.slice a K c) ∧ Below W1.heap.size W1 w'' ∧ ∀ W, Below w''.heap.size w'' W → Calls Try.prog 46 #[fv, .slice a K c, .int .i64 (-1)] W fun e w3 => e = .returned (.bool true) ∧ Below W1.heap.size W1 w3) := fun W hW => by
    refine (all_mem2 (HP1.out.below hW).mt rfl).mono ?_
    rintro e w' ⟨rfl, hb, k1, k2, k3⟩
    have hb' := keepB hb hW
    refine ⟨fvS W.heap.size, rfl, hb', fun W2 hW2 => ?_⟩
    have hb2' := keepB hW2 hb'
    refine (alls (HP1.out.below hb2') HLN.out.2 (B := W.heap.size) hK (Und.cell k1 ⟨W2, hW2⟩) (Und.cell k2 ⟨W2, hW2⟩) (Und.cell k3 ⟨W2, hW2⟩) (-1)).mono ?_
    rintro r w'' ⟨a9, c9, rfl, hb2, hwk⟩
    exact ⟨a9, c9, rfl, keepB hb2 hb2', fun W3 hW3 => (hwk W3 hW3).mono fun e w3 ⟨h1, h2⟩ => ⟨h1, keepB h2 (keepB hW3 (keepB hb2 hb2'))⟩⟩
  have HF : Hid (∀ W, Below W1.heap.size W1 W → Calls Try.prog 27 #[.pointer (some ⟨M, 0, none⟩), .string ⟨#[]⟩, .int .u64 18446744073709551615] W fun e w' => ∃ fv, e = .returned fv ∧ Below W1.heap.size W1 w' ∧ ∀ W, Below w'.heap.size w' W → Calls Try.prog 47 #[.pointer (some ⟨Q, 0, none⟩), .string ⟨#[]⟩, .int .u64 18446744073709551615] W fun r w'' => ∃ a c, r = .returned (.slice a J c) ∧ Below W1.heap.size W1 w'' ∧ ∀ W, Below w''.heap.size w'' W → Calls Try.prog 46 #[fv, .slice a J c, .int .i64 (-1)] W fun e w3 => e = .returned (.bool true) ∧ Below W1.heap.size W1 w3) := fun W hW => by
    refine (from_mem M ⟨#[]⟩ 18446744073709551615 W rfl).mono ?_
    rintro e w' ⟨rfl, hb, k1, k2, k3⟩
    have hb' := keepB hb hW
    refine ⟨fvM W.heap.size, rfl, hb', fun W2 hW2 => ?_⟩
    have hb2' := keepB hW2 hb'
    refine (froms (HP1.out.below hb2') HLN.out.1 HLN.out.2 (B := W.heap.size) (HZ1.out _ (by have := hW.size; omega)) hJ (Und.cell k1 ⟨W2, hW2⟩) (Und.cell k2 ⟨W2, hW2⟩) (Und.cell k3 ⟨W2, hW2⟩) (-1)).mono ?_
    rintro r w'' ⟨a9, c9, rfl, hb2, hwk⟩
    exact ⟨a9, c9, rfl, keepB hb2 hb2', fun W3 hW3 => (hwk W3 hW3).mono fun e w3 ⟨h1, h2⟩ => ⟨h1, keepB h2 (keepB hW3 (keepB hb2 hb2'))⟩⟩
  have HW1 : Hid (∀ W, Below W1.heap.size W1 W → Calls Try.prog 31 #[.pointer (some ⟨M, 0, none⟩)] W fun r w' => r = .returned (.int .i64 V) ∧ Below W1.heap.size W1 w') := fun W hW => by
    have := weight_mem (HP1.out.below hW).mt
    rw [hV] at this
    exact this.mono fun r w' ⟨h1, h2⟩ => ⟨h1, by rw [h2]; exact hW⟩
  have HW2 : Hid (∀ W, Below W1.heap.size W1 W → Calls Try.prog 49 #[.pointer (some ⟨Q, 0, none⟩)] W fun r w' => r = .returned (.int .i64 V) ∧ Below W1.heap.size W1 w') := fun W hW => by
    have := refWeightT6 (n := (ns.map Nd.e).length) (HP1.out.below hW).rt (by have := HLN.out.2; simp; omega) rfl
    rw [← wS_sum, hV] at this
    exact this.mono fun r w' ⟨h1, h2⟩ => ⟨h1, keepB h2 hW⟩
  have HL1 : Hid (∀ W, Below W1.heap.size W1 W → Calls Try.prog 32 #[.pointer (some ⟨M, 0, none⟩)] W fun r w' => r = .returned (.int .u64 V2) ∧ Below W1.heap.size W1 w') := fun W hW => by
    have := last_mem (HP1.out.below hW).mt
    rw [hV2] at this
    exact this.mono fun r w' ⟨h1, h2⟩ => ⟨h1, by rw [h2]; exact hW⟩
  have HL2 : Hid (∀ W, Below W1.heap.size W1 W → Calls Try.prog 50 #[.pointer (some ⟨Q, 0, none⟩)] W fun r w' => r = .returned (.int .u64 V2) ∧ Below W1.heap.size W1 w') := fun W hW => by
    have := refLast6 (n := (ns.map Nd.e).length) (HP1.out.below hW).rt (by have := HLN.out.2; simp; omega) rfl
    rw [← lM_last, hV2] at this
    exact this.mono fun r w' ⟨h1, h2⟩ => ⟨h1, keepB h2 hW⟩
  have HZ9 : Hid (∀ W, Below W1.heap.size W1 W → Calls Try.prog 33 #[.pointer (some ⟨M, 0, none⟩)] W fun r w' => r = .returned (.bool fz) ∧ Below W1.heap.size W1 w') := fun W hW => by
    exact (frozen_mem (HP1.out.below hW).mt).mono fun r w' ⟨h1, h2⟩ => ⟨h1, by rw [h2]; exact hW⟩
  have HZ8 : Hid (∀ W, Below W1.heap.size W1 W → Calls Try.prog 52 #[.pointer (some ⟨Q, 0, none⟩)] W fun r w' => r = .returned (.bool fz) ∧ Below W1.heap.size W1 w') := fun W hW => by
    exact (refFrozen6 (HP1.out.below hW).rt).mono fun r w' ⟨h1, h2⟩ => ⟨h1, by rw [h2]; exact hW⟩
  clear hK hJ hV hV2
  obtain ⟨p0, p1⟩ := HBX.out W1 (Below.refl _ _)
  have hS1 := HBX.out W1.drew (Below.refl _ _).drew
  go_wp2
  go_region_held3 (fun W => W.cell? ⟨w.heap.size, 0, none⟩ = some (.pointer (some ⟨M, 0, none⟩)) ∧ W.cell? ⟨w.heap.size, 1, none⟩ = some (.pointer (some ⟨Q, 0, none⟩))) (first | assumption | exact hS1)
    (first
    | (go_at_call 30; go_loud (refine (HA.out _ (Below.refl _ _).drew).mono ?_; rintro e w4 ⟨f4, rfl, hb4, hc4⟩; have HC4 := HID5 hc4; have hS_w4 := HBX.out w4 hb4; clear hb4 hc4))
    | (go_at_call 48; go_loud (refine (HC4.out _ (Below.refl _ _)).mono ?_; rintro e w5 ⟨a5, c5, rfl, hb5, hc5⟩; have HC5 := HID5 hc5; have hS_w5 := HBX.out w5 hb5; clear hb5 hc5))
    | (go_at_call 46; go_loud (refine (HC8.out _ (Below.refl _ _)).mono ?_; rintro e w9 ⟨rfl, hb9⟩; have HB9 := HID5 hb9; have hS_w9 := HBX.out w9 hb9; clear hb9))
    | (go_at_call 46; go_loud (refine (HC5.out _ (Below.refl _ _)).mono ?_; rintro e w6 ⟨rfl, hb6⟩; have HB6 := HID5 hb6; have hS_w6 := HBX.out w6 hb6; clear hb6))
    | (go_at_call 27; go_loud (refine (HF.out w6 HB6.out).mono ?_; rintro e w7 ⟨f7, rfl, hb7, hc7⟩; have HC7 := HID5 hc7; have hS_w7 := HBX.out w7 hb7; clear hb7 hc7))
    | (go_at_call 47; go_loud (refine (HC7.out _ (Below.refl _ _)).mono ?_; rintro e w8 ⟨a8, c8, rfl, hb8, hc8⟩; have HC8 := HID5 hc8; have hS_w8 := HBX.out w8 hb8; clear hb8 hc8))
    | (go_at_call 31; go_loud (refine (HW1.out w9 HB9.out).mono ?_; rintro e w10 ⟨rfl, hb10⟩; have HB10 := HID5 hb10; have hS_w10 := HBX.out w10 hb10; clear hb10))
    | (go_at_call 49; go_loud (refine (HW2.out w10 HB10.out).mono ?_; rintro e w11 ⟨rfl, hb11⟩; have HB11 := HID5 hb11; have hS_w11 := HBX.out w11 hb11; clear hb11))
    | (go_at_call 32; go_loud (refine (HL1.out w11 HB11.out).mono ?_; rintro e w12 ⟨rfl, hb12⟩; have HB12 := HID5 hb12; have hS_w12 := HBX.out w12 hb12; clear hb12))
    | (go_at_call 50; go_loud (refine (HL2.out w12 HB12.out).mono ?_; rintro e w13 ⟨rfl, hb13⟩; have HB13 := HID5 hb13; have hS_w13 := HBX.out w13 hb13; clear hb13))
    | (go_at_call 33; go_loud (refine (HZ9.out w13 HB13.out).mono ?_; rintro e w14 ⟨rfl, hb14⟩; have HB14 := HID5 hb14; have hS_w14 := HBX.out w14 hb14; clear hb14))
    | (go_at_call 52; go_loud (refine (HZ8.out w14 HB14.out).mono ?_; rintro e w15 ⟨rfl, hb15⟩; have hS_w15 := HBX.out w15 hb15; have HB15 : Hid (Below w.heap.size w w15) := keepB hb15 HB1.out; clear hb15)))
  all_goals (
    go_wp2
    go_ret
    exact ⟨rfl, HB15.out⟩)
/-- the boxes of a kept iterator -/
def NowAt (W : World) (wh : Bool) (B M L : Nat) (key : ByteArray) (at_ : Int) : Prop :=
  if wh = true then W.cell? ⟨B, 0, none⟩ = some (.pointer (some ⟨L, 0, none⟩)) ∧ W.cell? ⟨B + 1, 0, none⟩ = some (.string ⟨#[]⟩) ∧ W.cell? ⟨B + 2, 0, none⟩ = some (.int .u64 18446744073709551615) else W.cell? ⟨B, 0, none⟩ = some (.pointer (some ⟨M, 0, none⟩)) ∧ W.cell? ⟨B + 1, 0, none⟩ = some (.string key) ∧ W.cell? ⟨B + 2, 0, none⟩ = some (.int .u64 at_)
def fvK (wh : Bool) (B : Nat) : Value := if wh = true then fvS B else fvM B
set_option maxHeartbeats 8000000 in
theorem now_any (t u : Nat) (ht : 0 < t) (T : Nat → Nat) (w : World) (M L Q R : Nat) (ds : List Nat) (ns : List Nd) (hs : List Int) (bs : List Nat) (fz : Bool) (h : Pm t u T w M L Q R ds ns hs bs fz) (hn : ns.length ≤ 100000000) (wh : Bool) (B : Nat) (hTB : T (B + 2) = 0)
    (kind : Int) (hkd : decide (kind = 10) = wh) (sec : Bool) (xs : Int) (xk : ByteArray) (sl : Value) (nn : Int) (hat : NowAt w wh B M L xk xs) :
    Calls Try.prog 15 #[.agg #[fvK wh B, .pointer (some ⟨M, 0, none⟩), .pointer (some ⟨Q, 0, none⟩), .int .i64 kind, .bool sec, .int .u64 xs, .string xk, sl, .int .i64 nn]] w fun e w' => e = .returned (.bool true) ∧ Below w.heap.size w w' := by
  have HP : Hid (Pm t u T w M L Q R ds ns hs bs fz) := h
  have HLN : Hid (0 < t ∧ ns.length ≤ 100000000 ∧ T (B + 2) = 0) := ⟨ht, hn, hTB⟩
  generalize hfv : fvK wh B = fv
  have hb1 : Below w.heap.size w (w.alloc (.cells #[fv, .pointer (some ⟨M, 0, none⟩), .pointer (some ⟨Q, 0, none⟩), .int .i64 kind, .bool sec, .int .u64 xs, .string xk, sl, .int .i64 nn] 60)) := (Below.refl _ _).alloc (Nat.le_refl _) _
  have g1 : (w.alloc (.cells #[fv, .pointer (some ⟨M, 0, none⟩), .pointer (some ⟨Q, 0, none⟩), .int .i64 kind, .bool sec, .int .u64 xs, .string xk, sl, .int .i64 nn] 60)).heap[w.heap.size]? = some (.cells #[fv, .pointer (some ⟨M, 0, none⟩), .pointer (some ⟨Q, 0, none⟩), .int .i64 kind, .bool sec, .int .u64 xs, .string xk, sl, .int .i64 nn] 60) := World.alloc_heap_new _ _
  have HAT : Hid (NowAt w wh B M L xk xs ∧ fvK wh B = fv) := ⟨hat, hfv⟩
  clear h ht hn hTB hfv hat
  go_enter Try.func15, Try.ntmps15
  go_upto_region 1 with (fail)
  generalize w.alloc (.cells #[fv, .pointer (some ⟨M, 0, none⟩), .pointer (some ⟨Q, 0, none⟩), .int .i64 kind, .bool sec, .int .u64 xs, .string xk, sl, .int .i64 nn] 60) = W1 at *
  have HB1 : Hid (Below w.heap.size w W1) := hb1
  have HP1 : Hid (Pm t u T W1 M L Q R ds ns hs bs fz) := HP.out.below hb1
  have HBX : Hid (∀ W, Below W1.heap.size W1 W → W.cell? ⟨w.heap.size, 0, none⟩ = some fv ∧ W.cell? ⟨w.heap.size, 2, none⟩ = some (.pointer (some ⟨Q, 0, none⟩)) ∧ W.cell? ⟨w.heap.size, 3, none⟩ = some (.int .i64 kind) ∧ W.cell? ⟨w.heap.size, 5, none⟩ = some (.int .u64 xs) ∧ W.cell? ⟨w.heap.size, 6, none⟩ = some (.string xk)) := fun W hW => by
    have k1 := (hW.block _ (Array.getElem?_eq_some_iff.1 g1).1).trans g1
    exact ⟨by rw [cell_of_obj k1]; rfl, by rw [cell_of_obj k1]; rfl, by rw [cell_of_obj k1]; rfl, by rw [cell_of_obj k1]; rfl, by rw [cell_of_obj k1]; rfl⟩
  clear hb1 g1
  obtain ⟨c0, c2, c3, c5, c6⟩ := HBX.out W1 (Below.refl _ _)
  cases wh with
  | true =>
    have hk : kind = 10 := of_decide_eq_true hkd
    subst hk
    clear hkd
    obtain ⟨K, hK⟩ : ∃ K, ns.length = K := ⟨_, rfl⟩
    have HA : Hid (∀ W, Below W1.heap.size W1 W → Calls Try.prog 48 #[.pointer (some ⟨Q, 0, none⟩)] W fun r w'' => ∃ a c, r = .returned (.slice a K c) ∧ Below W1.heap.size W1 w'' ∧ ∀ W, Below w''.heap.size w'' W → Calls Try.prog 46 #[fv, .slice a K c, .int .i64 (-1)] W fun e w3 => e = .returned (.bool true) ∧ Below W1.heap.size W1 w3) := fun W hW => by
      have hf : fvS B = fv := HAT.out.2
      obtain ⟨k1, k2, k3⟩ : _ ∧ _ ∧ _ := HAT.out.1
      have hb := keepB hW HB1.out
      rw [← hf]
      refine (alls (HP1.out.below hW) HLN.out.2.1 (B := B) hK (Und.cell k1 ⟨W, hb⟩) (Und.cell k2 ⟨W, hb⟩) (Und.cell k3 ⟨W, hb⟩) (-1)).mono ?_
      rintro r w'' ⟨a9, c9, rfl, hb2, hwk⟩
      exact ⟨a9, c9, rfl, keepB hb2 hW, fun W3 hW3 => (hwk W3 hW3).mono fun e w3 ⟨h1, h2⟩ => ⟨h1, keepB h2 (keepB hW3 (keepB hb2 hW))⟩⟩
    clear hK
    have hS1 := HBX.out W1.drew (Below.refl _ _).drew
    go_wp2
    go_region_held3 (fun W => W.cell? ⟨w.heap.size, 0, none⟩ = some fv ∧ W.cell? ⟨w.heap.size, 2, none⟩ = some (.pointer (some ⟨Q, 0, none⟩)) ∧ W.cell? ⟨w.heap.size, 3, none⟩ = some (.int .i64 10) ∧ W.cell? ⟨w.heap.size, 5, none⟩ = some (.int .u64 xs) ∧ W.cell? ⟨w.heap.size, 6, none⟩ = some (.string xk)) (first | assumption | exact hS1)
      (first
      | (go_at_call 48; go_loud (refine (HA.out _ (Below.refl _ _).drew).mono ?_; rintro e w5 ⟨a5, c5', rfl, hb5, hc5⟩; have HC5 := HID5 hc5; have hS5 := HBX.out w5 hb5; clear hb5 hc5))
      | (go_at_call 46; go_loud (refine (HC5.out _ (Below.refl _ _)).mono ?_; rintro e w6 ⟨rfl, hb6⟩; have hS6 := HBX.out w6 hb6; have HB6 : Hid (Below w.heap.size w w6) := keepB hb6 HB1.out; clear hb6)))
    all_goals (
      go_wp2
      go_ret
      exact ⟨rfl, HB6.out⟩)
  | false =>
    have hk : (kind == 10) = false := by simpa using hkd
    clear hkd
    obtain ⟨K, hK⟩ : ∃ K, (frm xk xs (ns.map Nd.e)).length = K := ⟨_, rfl⟩
    have HA : Hid (∀ W, Below W1.heap.size W1 W → Calls Try.prog 47 #[.pointer (some ⟨Q, 0, none⟩), .string xk, .int .u64 xs] W fun r w'' => ∃ a c, r = .returned (.slice a K c) ∧ Below W1.heap.size W1 w'' ∧ ∀ W, Below w''.heap.size w'' W → Calls Try.prog 46 #[fv, .slice a K c, .int .i64 (-1)] W fun e w3 => e = .returned (.bool true) ∧ Below W1.heap.size W1 w3) := fun W hW => by
      have hf : fvM B = fv := HAT.out.2
      obtain ⟨k1, k2, k3⟩ : _ ∧ _ ∧ _ := HAT.out.1
      have hb := keepB hW HB1.out
      rw [← hf]
      refine (froms (HP1.out.below hW) HLN.out.1 HLN.out.2.1 (B := B) HLN.out.2.2 hK (Und.cell k1 ⟨W, hb⟩) (Und.cell k2 ⟨W, hb⟩) (Und.cell k3 ⟨W, hb⟩) (-1)).mono ?_
      rintro r w'' ⟨a9, c9, rfl, hb2, hwk⟩
      exact ⟨a9, c9, rfl, keepB hb2 hW, fun W3 hW3 => (hwk W3 hW3).mono fun e w3 ⟨h1, h2⟩ => ⟨h1, keepB h2 (keepB hW3 (keepB hb2 hW))⟩⟩
    clear hK
    have hS1 := HBX.out W1.drew (Below.refl _ _).drew
    go_wp2
    go_region_held3 (fun W => W.cell? ⟨w.heap.size, 0, none⟩ = some fv ∧ W.cell? ⟨w.heap.size, 2, none⟩ = some (.pointer (some ⟨Q, 0, none⟩)) ∧ W.cell? ⟨w.heap.size, 3, none⟩ = some (.int .i64 kind) ∧ W.cell? ⟨w.heap.size, 5, none⟩ = some (.int .u64 xs) ∧ W.cell? ⟨w.heap.size, 6, none⟩ = some (.string xk)) (first | assumption | exact hS1)
      (first
      | (go_at_call 47; go_loud (refine (HA.out _ (Below.refl _ _).drew).mono ?_; rintro e w5 ⟨a5, c5', rfl, hb5, hc5⟩; have HC5 := HID5 hc5; have hS5 := HBX.out w5 hb5; clear hb5 hc5))
      | (go_at_call 46; go_loud (refine (HC5.out _ (Below.refl _ _)).mono ?_; rintro e w6 ⟨rfl, hb6⟩; have hS6 := HBX.out w6 hb6; have HB6 : Hid (Below w.heap.size w w6) := keepB hb6 HB1.out; clear hb6)))
    all_goals (
      go_wp2
      go_ret
      exact ⟨rfl, HB6.out⟩)
end Mem
end Go.Proofs.Ytcioaoanhmpdkaa
namespace Go.Proofs.Ytcioaoanhmpdkaa
namespace Mem
open Go.RowKit Laws Irw Erw KMath Skm Byt Sk Grp Crw Chk Mq
set_option linter.unusedVariables false
set_option maxRecDepth 100000
set_option linter.unusedSimpArgs false
/-- an iterator that was kept: of which memtable, by which call; its boxes -/
structure Lt where
  B : Nat
  M : Nat
  L : Nat
  Q : Nat
  R : Nat
  wh : Bool
  o : OpM
def Lt.fv (k : Lt) : Value := fvK k.wh k.B
def Lt.cells (k : Lt) : List Value := [k.fv, .pointer (some ⟨k.M, 0, none⟩), .pointer (some ⟨k.Q, 0, none⟩), .int .i64 k.o.1, .bool k.o.2.1, .int .u64 k.o.2.2.1, .string k.o.2.2.2.1, .slice k.o.2.2.2.2.1.1 k.o.2.2.2.2.1.2.2.length k.o.2.2.2.2.1.2.1, .int .i64 k.o.2.2.2.2.2]
def cellsK (l : List Lt) : List Value := l.flatMap Lt.cells
theorem cellsK_length (l : List Lt) : (cellsK l).length = l.length * 9 := by
  induction l with
  | nil => rfl
  | cons a r ih => simp only [cellsK, List.flatMap_cons, List.length_append, List.length_cons] at ih ⊢; rw [ih]; simp [Lt.cells]; omega
theorem cellsK_append (l r : List Lt) : cellsK (l ++ r) = cellsK l ++ cellsK r := by simp [cellsK]
theorem cellsK_get : ∀ (l : List Lt) (i j : Nat) (k : Lt), l[i]? = some k → j < 9 → (cellsK l)[i * 9 + j]? = k.cells[j]?
  | [], i, j, k, h, _ => by simp at h
  | a :: l, 0, j, k, h, hj => by
    simp at h
    subst h
    show (a.cells ++ cellsK l)[0 * 9 + j]? = _
    rw [Nat.zero_mul, Nat.zero_add, List.getElem?_append_left (by simp [Lt.cells]; omega)]
  | a :: l, i + 1, j, k, h, hj => by
    show (a.cells ++ cellsK l)[(i + 1) * 9 + j]? = _
    have e : (i + 1) * 9 + j = a.cells.length + (i * 9 + j) := by simp [Lt.cells]; omega
    rw [e, List.getElem?_append_right (by omega), Nat.add_sub_cancel_left]
    exact cellsK_get l i j k (by simpa using h) hj
theorem cellsK_one (l : List Lt) : ∀ u ∈ cellsK l, u.oneCell' = true := by
  intro u hu
  simp only [cellsK, List.mem_flatMap] at hu
  obtain ⟨k, _, hk⟩ := hu
  simp only [Lt.cells, Lt.fv, List.mem_cons, List.not_mem_nil, or_false] at hk
  rcases hk with rfl | rfl | rfl | rfl | rfl | rfl | rfl | rfl | rfl
  · cases k.wh <;> rfl
  all_goals rfl
theorem infoK : (Try.prog.info? 60).map (fun i => (i.zero, i.size, i.bytes)) = some (some (.agg #[.nilFunc, .pointer none, .pointer none, .int .i64 0, .bool false, .int .u64 0, .string ⟨#[]⟩, .slice none 0 0, .int .i64 0]), 9, 96) := by kernel_rfl
theorem undK : Try.prog.underlying 50 = some (.slice 60) := by kernel_rfl
/-- the list of kept iterators -/
def OwnK (T : Nat → Nat) (w : World) (v : Value) (l : List Lt) : Prop := w.ownsRow 0 60 9 v l.length (cellsK l) ∧ ∀ g, v.ownBlock = some g → T g = 9
theorem OwnK.goes {t : Nat → Prop} {T T' : Nat → Nat} {w w' : World} {v : Value} {l : List Lt} (h : OwnK T w v l) (hg : Goes t T w T' w') (hs : ¬ t 9) : OwnK T' w' v l := by
  have hb : ∀ g, v.ownBlock = some g → w'.heap[g]? = w.heap[g]? ∧ T' g = 9 := fun g e => by
    have h1 := (h.1.lt g e).2
    have h2 := h.2 g e
    exact ⟨hg.block g h1 (by rw [h2]; exact hs), (hg.tag g h1 (by rw [h2]; exact hs)).trans h2⟩
  refine ⟨⟨h.1.1, ?_⟩, fun g e => (hb g e).2⟩
  rcases h.1.2 with h1 | ⟨g, cap, cur, hv, hb', hh, hr⟩
  · exact .inl h1
  · have hv' : v.ownBlock = some g := by rw [hv]; rfl
    exact .inr ⟨g, cap, cur, hv, hb', (hb g hv').1.trans hh, hr⟩
theorem OwnK.nil (T : Nat → Nat) (w : World) : OwnK T w (.slice none 0 0) [] := ⟨World.ownsRow_nil _ _ _ _, by simp [Value.ownBlock]⟩
theorem OwnK.form {T : Nat → Nat} {w : World} {v : Value} {l : List Lt} (h : OwnK T w v l) : ∃ a c, v = .slice a l.length c ∧ l.length ≤ c := by
  rcases h.1.2 with ⟨h1, h2⟩ | ⟨g, cap, cur, hv, _, _, hc, _⟩
  · have : l = [] := List.length_eq_zero_iff.1 h2
    subst this
    exact ⟨none, 0, h1, Nat.le_refl _⟩
  · exact ⟨_, cap, hv, hc⟩
/-- one of them, as it lies -/
theorem OwnK.cell {T : Nat → Nat} {w : World} {a : Option Addr} {n c : Nat} {l : List Lt} (h : OwnK T w (.slice a n c) l) {i : Nat} {k : Lt} (hi : l[i]? = some k) : ∃ g, a = some ⟨g, 0, none⟩ ∧ ∀ j u, j < 9 → k.cells[j]? = some u → w.cell? ⟨g, i * 9 + j, none⟩ = some u := by
  have hl := (List.getElem?_eq_some_iff.1 hi).1
  rcases h.1.2 with ⟨h1, h2⟩ | ⟨g, cap, cur, hv, _, hh, hc, hm, hs, ht⟩
  · omega
  · simp only [Value.slice.injEq] at hv
    refine ⟨g, hv.1, fun j u hj hu => ?_⟩
    have h3 := cellsK_get l i j k hi hj
    rw [hu, ← ht] at h3
    rw [cell_of_obj hh]
    rw [List.getElem?_take] at h3
    split at h3
    · rw [← Array.getElem?_toList]; exact h3
    · cases h3

/-- one more is kept -/
theorem run_appK {P : Program} (w : World) (t ty : TypeId) (i : TypeInfo) (ht : P.underlying t = some (.slice 60)) (hi : P.info? 60 = some i) (hz : i.zero = some (.agg #[.nilFunc, .pointer none, .pointer none, .int .i64 0, .bool false, .int .u64 0, .string ⟨#[]⟩, .slice none 0 0, .int .i64 0])) (hsize : i.size = 9) (hby : i.bytes = 96)
    (T : Nat → Nat) (v : Value) (l : List Lt) (hown : OwnK T w v l) (b : Nat) (k : Lt) (hnews : ∀ j u, k.cells[j]? = some u → w.cell? ⟨b, j, none⟩ = some u) (hl : l.length + 1 ≤ 1000000) :
    ∃ a' c' T' w', (Builtin.append_ #[t, t] ty #[v, .slice (some ⟨b, 0, none⟩) 1 1]).run P w = .ok (.slice a' (l.length + 1) c') w' ∧ OwnK T' w' (.slice a' (l.length + 1) c') (l ++ [k]) ∧ Goes (· = 9) T w T' w' := by
  have hc : cellsK [k] = k.cells := by simp [cellsK]
  obtain ⟨v', w', hrun, h2, h3, h4, h5⟩ := run_append_own_at (P := P) w 0 t ty 60 i (.agg #[.nilFunc, .pointer none, .pointer none, .int .i64 0, .bool false, .int .u64 0, .string ⟨#[]⟩, .slice none 0 0, .int .i64 0]) 9 96 ht hi hz hsize hby rfl (by omega) v l.length (cellsK l) hown.1 ⟨b, 0, none⟩ 1 1 (cellsK [k]) (by rw [cellsK_length]; rfl) (fun j u hu => by rw [hc] at hu; rw [Byt.add_plain', Nat.zero_add]; exact hnews j u hu) (cellsK_one _) (by unfold maxLen; omega) (by omega) (Nat.zero_le _)
  rcases h2.2 with ⟨e1, e2⟩ | ⟨g, cap, cur, hv, _⟩
  · omega
  · subst hv
    have hat : v.ownBlock = some g ∨ g = w.heap.size := by
      rcases h5 with h5 | h5
      · exact .inl (by rw [← h5]; rfl)
      · exact .inr (by simpa [Value.ownBlock] using h5)
    have hgl := (h2.lt g rfl).2
    refine ⟨_, _, upd T g 9, w', hrun, ⟨by rw [List.length_append, cellsK_append]; exact h2, fun g' e => ?_⟩, ⟨h3.os, h3.tape, h3.output, h3.size, fun b hb ht => h3.block b hb (fun e => ht (hown.2 b e.symm)), fun b hb _ => ?_, fun b hb h0 => ?_⟩⟩
    · simp only [Value.ownBlock, Option.some.injEq] at e
      subst e; exact upd_same _ _ _
    · by_cases e : b = g
      · subst e
        rcases hat with e | e
        · rw [upd_same, hown.2 _ e]
        · omega
      · exact upd_other _ _ e
    · rw [upd_other _ _ (by omega)]; exact h0
theorem step_appK {P : Program} (w : World) {ops : Array Oper} {o : Oper} {a : Act} {K : Act → World → Prop} {Q : Exit → Act → World → Prop} {E : Prop} (hgd : o.guard = none) (s x : Operand) (t : TypeId)
    (ho : o.op = .call { callee := .builtin .append, args := #[s, x], argTypes := #[t, t] })
    (i : TypeInfo) (ht : P.underlying t = some (.slice 60)) (hi : P.info? 60 = some i) (hz : i.zero = some (.agg #[.nilFunc, .pointer none, .pointer none, .int .i64 0, .bool false, .int .u64 0, .string ⟨#[]⟩, .slice none 0 0, .int .i64 0])) (hsize : i.size = 9) (hby : i.bytes = 96)
    (T : Nat → Nat) (v : Value) (l : List Lt) (hs : a.eval s = v) (hown : OwnK T w v l) (b : Nat) (k : Lt) (hx : a.eval x = .slice (some ⟨b, 0, none⟩) 1 1) (hnews : ∀ j u, k.cells[j]? = some u → w.cell? ⟨b, j, none⟩ = some u) (hl : l.length + 1 ≤ 1000000)
    (h : ∀ a' c' T' w', OwnK T' w' (.slice a' (l.length + 1) c') (l ++ [k]) → Goes (· = 9) T w T' w' → K (a.put o.dst (.slice a' (l.length + 1) c')) w') :
    if Region.wanted o (yielded ops a.tmps) = true then Oper.wp P o a w K Q else E := by
  have hw : Region.wanted o (yielded ops a.tmps) = true := by simp [Region.wanted, hgd]
  rw [if_pos hw]
  obtain ⟨a', c', T', w', hr, h2, h3⟩ := run_appK (P := P) w t o.type i ht hi hz hsize hby T v l hown b k hnews hl
  unfold Oper.wp execOp
  simp only [ho, resolve, invoke, builtin, Sem.run_bind, Sem.run_pure, Result.andThen_ok, List.map_toArray, List.map_cons, List.map_nil, hs, hx, hr]
  exact h a' c' T' w' h2 h3
/-- what holds of each of them -/
structure LtOk (T : Nat → Nat) (W : World) (k : Lt) : Prop where
  at_ : NowAt W k.wh k.B k.M k.L k.o.2.2.2.1 k.o.2.2.1
  tag : T k.B = 0 ∧ T (k.B + 1) = 0 ∧ T (k.B + 2) = 0
  kd : decide (k.o.1 = 10) = k.wh
theorem NowAt.lt {W : World} {wh : Bool} {B M L : Nat} {key : ByteArray} {s : Int} (h : NowAt W wh B M L key s) : B < W.heap.size ∧ B + 1 < W.heap.size ∧ B + 2 < W.heap.size := by
  unfold NowAt at h
  split at h
  · exact ⟨World.block_lt_of_cell? W _ h.1, World.block_lt_of_cell? W _ h.2.1, World.block_lt_of_cell? W _ h.2.2⟩
  · exact ⟨World.block_lt_of_cell? W _ h.1, World.block_lt_of_cell? W _ h.2.1, World.block_lt_of_cell? W _ h.2.2⟩
theorem NowAt.blocks {W W' : World} {wh : Bool} {B M L : Nat} {key : ByteArray} {s : Int} (h : NowAt W wh B M L key s) (h0 : W'.heap[B]? = W.heap[B]?) (h1 : W'.heap[B + 1]? = W.heap[B + 1]?) (h2 : W'.heap[B + 2]? = W.heap[B + 2]?) : NowAt W' wh B M L key s := by
  unfold NowAt at *
  rw [World.cell?_of_block (a := ⟨B, 0, none⟩) h0, World.cell?_of_block (a := ⟨B + 1, 0, none⟩) h1, World.cell?_of_block (a := ⟨B + 2, 0, none⟩) h2]
  exact h
theorem LtOk.goes {v : Nat → Prop} {T T' : Nat → Nat} {W W' : World} {k : Lt} (h : LtOk T W k) (hg : Goes v T W T' W') (hv : ¬ v 0) : LtOk T' W' k := by
  obtain ⟨b0, b1, b2⟩ := h.at_.lt
  have n0 : ¬ v (T k.B) := by rw [h.tag.1]; exact hv
  have n1 : ¬ v (T (k.B + 1)) := by rw [h.tag.2.1]; exact hv
  have n2 : ¬ v (T (k.B + 2)) := by rw [h.tag.2.2]; exact hv
  exact ⟨h.at_.blocks (hg.block _ b0 n0) (hg.block _ b1 n1) (hg.block _ b2 n2), ⟨(hg.tag _ b0 n0).trans h.tag.1, (hg.tag _ b1 n1).trans h.tag.2.1, (hg.tag _ b2 n2).trans h.tag.2.2⟩, h.kd⟩
theorem late_news (w : World) (k : Lt) {t : TypeId} : ∀ j u, k.cells[j]? = some u → (w.alloc (.cells #[k.fv, .pointer (some ⟨k.M, 0, none⟩), .pointer (some ⟨k.Q, 0, none⟩), .int .i64 k.o.1, .bool k.o.2.1, .int .u64 k.o.2.2.1, .string k.o.2.2.2.1, .slice k.o.2.2.2.2.1.1 k.o.2.2.2.2.1.2.2.length k.o.2.2.2.2.1.2.1, .int .i64 k.o.2.2.2.2.2] t)).cell? ⟨w.heap.size, j, none⟩ = some u := fun j u h => by
  rw [World.cell?_alloc_at _ _ _ _ rfl, ← Array.getElem?_toList]
  exact h
set_option maxHeartbeats 1000000 in
theorem place6 (a : Int) (n : Nat) (w : World) (h1 : -9223372036854775808 ≤ a) (h2 : a ≤ 9223372036854775807) (hn : 0 < n) (hn2 : n ≤ 1954687338268) :
    Calls Try.prog 14 #[.int .i64 a, .int .i64 (n : Int)] w fun e w' => ∃ p : Nat, e = .returned (.int .i64 (p : Int)) ∧ p < n ∧ w' = w := by
  have q0 : ¬ n = 0 := by omega
  have q1 : (0 : Int) < (n : Int) := by omega
  have q2 : (n : Int) ≤ 1954687338268 := by omega
  have HN : Hid (0 < n) := hn
  by_cases h0 : a < 0
  · obtain ⟨m, hm⟩ : ∃ m : Nat, -(a + 1) = (m : Int) := ⟨(-(a + 1)).toNat, by omega⟩
    have t1 : Int.tmod (m : Int) (n : Int) = ((m % n : Nat) : Int) := by rw [Int.tmod_eq_emod_of_nonneg (by omega)]; omega
    have HF : Hid (m % n < n) := Nat.mod_lt _ hn
    generalize m % n = p at *
    have q3 : IntKind.i64.wrap (a + 1) = a + 1 := IntWalk.i64_in _ (by omega)
    have q4 : IntKind.i64.wrap (-(a + 1)) = (m : Int) := by rw [IntWalk.i64_in _ (by omega)]; exact hm
    clear hn hn2 h1 h2 hm
    go_enter Try.func14, Try.ntmps14
    go_wp2
    go_ret
    exact ⟨p, rfl, HF.out, rfl⟩
  · obtain ⟨m, rfl⟩ : ∃ m : Nat, a = (m : Int) := ⟨a.toNat, by omega⟩
    have t1 : Int.tmod (m : Int) (n : Int) = ((m % n : Nat) : Int) := by rw [Int.tmod_eq_emod_of_nonneg (by omega)]; omega
    have HF : Hid (m % n < n) := Nat.mod_lt _ hn
    generalize m % n = p at *
    clear hn hn2 h1 h2
    go_enter Try.func14, Try.ntmps14
    go_wp2
    go_ret
    exact ⟨p, rfl, HF.out, rfl⟩

/-- what keeps leaves -/
def KpAns (T : Nat → Nat) (w : World) (M L Q R : Nat) (ks : List Lt) (r : Ending) (w' : World) : Prop :=
  ∃ a' c' T' ks', r = .returned (.slice a' ks'.length c') ∧ OwnK T' w' (.slice a' ks'.length c') ks' ∧ Goes (· = 9) T w T' w' ∧ (ks' = ks ∨ ∃ k : Lt, ks' = ks ++ [k] ∧ LtOk T' w' k ∧ k.M = M ∧ k.L = L ∧ k.Q = Q ∧ k.R = R)
theorem s8_alloc {W : World} {P O : Nat} {v0 v1 v2 v3 v4 v5 v6 v7 : Value} (h : W.cell? ⟨P, 0, none⟩ = some v0 ∧ W.cell? ⟨P, 1, none⟩ = some v1 ∧ W.cell? ⟨O, 0, none⟩ = some v2 ∧ W.cell? ⟨O, 1, none⟩ = some v3 ∧ W.cell? ⟨O, 2, none⟩ = some v4 ∧ W.cell? ⟨O, 3, none⟩ = some v5 ∧ W.cell? ⟨O, 4, none⟩ = some v6 ∧ W.cell? ⟨O, 5, none⟩ = some v7) (o : Obj) : (W.alloc o).cell? ⟨P, 0, none⟩ = some v0 ∧ (W.alloc o).cell? ⟨P, 1, none⟩ = some v1 ∧ (W.alloc o).cell? ⟨O, 0, none⟩ = some v2 ∧ (W.alloc o).cell? ⟨O, 1, none⟩ = some v3 ∧ (W.alloc o).cell? ⟨O, 2, none⟩ = some v4 ∧ (W.alloc o).cell? ⟨O, 3, none⟩ = some v5 ∧ (W.alloc o).cell? ⟨O, 4, none⟩ = some v6 ∧ (W.alloc o).cell? ⟨O, 5, none⟩ = some v7 := by
  have hb : Below W.heap.size W (W.alloc o) := (Below.refl _ _).alloc (Nat.le_refl _) _
  exact ⟨Und.cell h.1 ⟨_, hb⟩, Und.cell h.2.1 ⟨_, hb⟩, Und.cell h.2.2.1 ⟨_, hb⟩, Und.cell h.2.2.2.1 ⟨_, hb⟩, Und.cell h.2.2.2.2.1 ⟨_, hb⟩, Und.cell h.2.2.2.2.2.1 ⟨_, hb⟩, Und.cell h.2.2.2.2.2.2.1 ⟨_, hb⟩, Und.cell h.2.2.2.2.2.2.2 ⟨_, hb⟩⟩
set_option maxHeartbeats 8000000 in
theorem keeps_from (t u : Nat) (T : Nat → Nat) (w : World) (M L Q R : Nat) (ds : List Nat) (ns : List Nd) (hs : List Int) (bs : List Nat) (fz : Bool) (h : Pm t u T w M L Q R ds ns hs bs fz) (hz : ∀ b, w.heap.size ≤ b → T b = 0) (sec : Bool) (xs : Int) (xk : ByteArray) (a : Option Addr) (n c : Nat) (ws : List Wr) (hwn : ws.length = n) (nn : Int) (ka : Option Addr) (kn kc : Nat) (ks : List Lt) (hk : OwnK T w (.slice ka kn kc) ks) (hkn : ks.length = kn) (hk6 : kn + 1 ≤ 1000000) :
    Calls Try.prog 13 #[.agg #[.pointer (some ⟨M, 0, none⟩), .pointer (some ⟨Q, 0, none⟩)], .agg #[.int .i64 9, .bool sec, .int .u64 xs, .string xk, .slice a n c, .int .i64 nn], .slice ka kn kc] w fun e w' => KpAns T w M L Q R ks e w' := by
  have HP : Hid (Pm t u T w M L Q R ds ns hs bs fz) := h
  have HZ : Hid (∀ b, w.heap.size ≤ b → T b = 0) := hz
  have HK : Hid (OwnK T w (.slice ka kn kc) ks ∧ ks.length = kn ∧ kn + 1 ≤ 1000000 ∧ ws.length = n) := ⟨hk, hkn, hk6, hwn⟩
  obtain ⟨iK, hiK, hzK0, hzK1, hzK2⟩ := info_parts infoK
  have hb1 : Below w.heap.size w ((w.alloc (.cells #[.pointer (some ⟨M, 0, none⟩), .pointer (some ⟨Q, 0, none⟩)] 49)).alloc (.cells #[.int .i64 9, .bool sec, .int .u64 xs, .string xk, .slice a n c, .int .i64 nn] 54)) := ((Below.refl _ _).alloc (Nat.le_refl _) _).alloc (by simp) _
  have g1 : ((w.alloc (.cells #[.pointer (some ⟨M, 0, none⟩), .pointer (some ⟨Q, 0, none⟩)] 49)).alloc (.cells #[.int .i64 9, .bool sec, .int .u64 xs, .string xk, .slice a n c, .int .i64 nn] 54)).heap[w.heap.size]? = some (.cells #[.pointer (some ⟨M, 0, none⟩), .pointer (some ⟨Q, 0, none⟩)] 49) := by
    rw [Below.heap_alloc _ _ _ (by simp)]; exact World.alloc_heap_new _ _
  have g2 : ((w.alloc (.cells #[.pointer (some ⟨M, 0, none⟩), .pointer (some ⟨Q, 0, none⟩)] 49)).alloc (.cells #[.int .i64 9, .bool sec, .int .u64 xs, .string xk, .slice a n c, .int .i64 nn] 54)).heap[w.heap.size + 1]? = some (.cells #[.int .i64 9, .bool sec, .int .u64 xs, .string xk, .slice a n c, .int .i64 nn] 54) := by
    have := World.alloc_heap_new (w.alloc (.cells #[.pointer (some ⟨M, 0, none⟩), .pointer (some ⟨Q, 0, none⟩)] 49)) (.cells #[.int .i64 9, .bool sec, .int .u64 xs, .string xk, .slice a n c, .int .i64 nn] 54)
    rwa [World.size_alloc] at this
  have hs1 : ((w.alloc (.cells #[.pointer (some ⟨M, 0, none⟩), .pointer (some ⟨Q, 0, none⟩)] 49)).alloc (.cells #[.int .i64 9, .bool sec, .int .u64 xs, .string xk, .slice a n c, .int .i64 nn] 54)).heap.size = w.heap.size + 2 := by simp
  clear h hz hk hkn hk6 hwn
  go_enter Try.func13, Try.ntmps13
  go_upto_region 1 with (fail)
  generalize ((w.alloc (.cells #[.pointer (some ⟨M, 0, none⟩), .pointer (some ⟨Q, 0, none⟩)] 49)).alloc (.cells #[.int .i64 9, .bool sec, .int .u64 xs, .string xk, .slice a n c, .int .i64 nn] 54)) = W1 at *
  have HBX : Hid (∀ W : World, (∀ b, w.heap.size ≤ b → b < w.heap.size + 2 → W.heap[b]? = W1.heap[b]?) → W.cell? ⟨w.heap.size, 0, none⟩ = some (.pointer (some ⟨M, 0, none⟩)) ∧ W.cell? ⟨w.heap.size, 1, none⟩ = some (.pointer (some ⟨Q, 0, none⟩)) ∧ W.cell? ⟨w.heap.size + 1, 0, none⟩ = some (.int .i64 9) ∧ W.cell? ⟨w.heap.size + 1, 1, none⟩ = some (.bool sec) ∧ W.cell? ⟨w.heap.size + 1, 2, none⟩ = some (.int .u64 xs) ∧ W.cell? ⟨w.heap.size + 1, 3, none⟩ = some (.string xk) ∧ W.cell? ⟨w.heap.size + 1, 4, none⟩ = some (.slice a n c) ∧ W.cell? ⟨w.heap.size + 1, 5, none⟩ = some (.int .i64 nn)) := fun W hW => by
    have k1 := (hW _ (by omega) (by omega)).trans g1
    have k2 := (hW _ (by omega) (by omega)).trans g2
    exact ⟨by rw [cell_of_obj k1]; rfl, by rw [cell_of_obj k1]; rfl, by rw [cell_of_obj k2]; rfl, by rw [cell_of_obj k2]; rfl, by rw [cell_of_obj k2]; rfl, by rw [cell_of_obj k2]; rfl, by rw [cell_of_obj k2]; rfl, by rw [cell_of_obj k2]; rfl⟩
  have HB1 : Hid (Below w.heap.size w W1 ∧ W1.heap.size = w.heap.size + 2) := ⟨hb1, hs1⟩
  have HP1 : Hid (Pm t u T W1 M L Q R ds ns hs bs fz) := HP.out.below hb1
  clear hb1 g1 g2 hs1
  obtain ⟨p0, p1, o0, o1, o2, o3, o4, o5⟩ := HBX.out W1 (fun _ _ _ => rfl)
  have HFR : Hid (Calls Try.prog 27 #[.pointer (some ⟨M, 0, none⟩), .string xk, .int .u64 xs] W1.drew fun e w' => e = .returned (fvK false W1.heap.size) ∧ Below W1.heap.size W1 w' ∧ NowAt w' false W1.heap.size M L xk xs) := by
    refine (from_mem M xk xs W1.drew rfl).mono ?_
    rintro e w' ⟨rfl, hb, k1, k2, k3⟩
    exact ⟨rfl, (Below.refl _ _).drew.trans hb, k1, k2, k3⟩
  obtain ⟨k0, hk0⟩ : ∃ k0 : Lt, k0 = (⟨W1.heap.size, M, L, Q, R, false, (9, sec, xs, xk, (a, c, ws), nn)⟩ : Lt) := ⟨_, rfl⟩
  have HK0 : Hid (k0 = (⟨W1.heap.size, M, L, Q, R, false, (9, sec, xs, xk, (a, c, ws), nn)⟩ : Lt)) := hk0
  have hfv : fvK false W1.heap.size = (Value.func (.func 73) #[] #[.pointer (some ⟨W1.heap.size, 0, none⟩), .pointer (some ⟨W1.heap.size + 1, 0, none⟩), .pointer (some ⟨W1.heap.size + 2, 0, none⟩)]) := rfl
  rw [hfv] at HFR
  have HNW : Hid (∀ (w6 : World) (t : TypeId), ∀ j u, k0.cells[j]? = some u → (w6.alloc (.cells #[(Value.func (.func 73) #[] #[.pointer (some ⟨W1.heap.size, 0, none⟩), .pointer (some ⟨W1.heap.size + 1, 0, none⟩), .pointer (some ⟨W1.heap.size + 2, 0, none⟩)]), .pointer (some ⟨M, 0, none⟩), .pointer (some ⟨Q, 0, none⟩), .int .i64 9, .bool sec, .int .u64 xs, .string xk, .slice a n c, .int .i64 nn] t)).cell? ⟨w6.heap.size, j, none⟩ = some u) := fun w6 t => by
    have := late_news w6 k0 (t := t)
    rw [hk0] at this ⊢
    have e : ((⟨W1.heap.size, M, L, Q, R, false, (9, sec, xs, xk, (a, c, ws), nn)⟩ : Lt)).fv = (Value.func (.func 73) #[] #[.pointer (some ⟨W1.heap.size, 0, none⟩), .pointer (some ⟨W1.heap.size + 1, 0, none⟩), .pointer (some ⟨W1.heap.size + 2, 0, none⟩)]) := hfv
    have e2 : ws.length = n := HK.out.2.2.2
    rw [e] at this
    dsimp only at this
    rw [e2] at this
    exact this
  have HL6 : Hid (ks.length + 1 ≤ 1000000) := by show _ ≤ _; rw [HK.out.2.1]; exact HK.out.2.2.1
  have HKK : Hid (∀ W, Below W1.heap.size W1 W → OwnK T W (.slice ka kn kc) ks) := fun W hW => (HK.out.1.goes (Goes.below (t := fun _ => False) HB1.out.1) (fun z => z)).goes (Goes.below (t := fun _ => False) hW) (fun z => z)
  have HBB : Hid (∀ W, Below W1.heap.size W1 W → ∀ b, w.heap.size ≤ b → b < w.heap.size + 2 → W.heap[b]? = W1.heap[b]?) := fun W hW b h1 h2 => hW.block b (by rw [HB1.out.2]; exact h2)
  have HBG : Hid (∀ W W' T', Below W1.heap.size W1 W → Goes (· = 9) T W T' W' → ∀ b, w.heap.size ≤ b → b < w.heap.size + 2 → W'.heap[b]? = W1.heap[b]?) := fun W W' T' hW hg b h1 h2 => by
    have hlt : b < W1.heap.size := by rw [HB1.out.2]; exact h2
    have := hW.size
    exact (hg.block b (by omega) (by rw [HZ.out b h1]; omega)).trans (HBB.out W hW b h1 h2)
  have HFIN : Hid (∀ W W' T' a7 c7, Below W1.heap.size W1 W → NowAt W false W1.heap.size M L xk xs → OwnK T' W' (.slice a7 (ks.length + 1) c7) (ks ++ [k0]) → Goes (· = 9) T W T' W' → KpAns T w M L Q R ks (.returned (.slice a7 (kn + 1) c7)) W') := fun W W' T' a7 c7 hW hn ho hg => by
    have hl : (ks ++ [k0]).length = ks.length + 1 := by simp
    have hlk : LtOk T W k0 := by
      rw [hk0]
      have hs := HB1.out.2
      exact ⟨hn, ⟨HZ.out W1.heap.size (by omega), HZ.out (W1.heap.size + 1) (by omega), HZ.out (W1.heap.size + 2) (by omega)⟩, by show decide ((9 : Int) = 10) = false; decide⟩
    refine ⟨a7, c7, T', ks ++ [k0], by rw [hl, HK.out.2.1], by rw [hl]; exact ho, ((Goes.below HB1.out.1).trans (Goes.below hW)).trans hg, .inr ⟨k0, rfl, hlk.goes hg (by omega), ?_⟩⟩
    rw [hk0]
    exact ⟨rfl, rfl, rfl, rfl⟩
  have hS1 := HBX.out W1.drew (fun _ _ _ => rfl)
  clear hk0 hfv HK0 HP HP1
  go_wp2
  go_region_held3 (fun W => W.cell? ⟨w.heap.size, 0, none⟩ = some (.pointer (some ⟨M, 0, none⟩)) ∧ W.cell? ⟨w.heap.size, 1, none⟩ = some (.pointer (some ⟨Q, 0, none⟩)) ∧ W.cell? ⟨w.heap.size + 1, 0, none⟩ = some (.int .i64 9) ∧ W.cell? ⟨w.heap.size + 1, 1, none⟩ = some (.bool sec) ∧ W.cell? ⟨w.heap.size + 1, 2, none⟩ = some (.int .u64 xs) ∧ W.cell? ⟨w.heap.size + 1, 3, none⟩ = some (.string xk) ∧ W.cell? ⟨w.heap.size + 1, 4, none⟩ = some (.slice a n c) ∧ W.cell? ⟨w.heap.size + 1, 5, none⟩ = some (.int .i64 nn)) (first | assumption | exact hS1 | exact s8_alloc (by assumption) _)
    (first
    | (go_at_call 27; go_loud (refine HFR.out.mono ?_; rintro r w5 ⟨rfl, hb5, hn5⟩; have HB5 := HID5 hb5; have HN5 := HID5 hn5; have hS5 := HBX.out w5 (HBB.out w5 hb5); clear hb5 hn5))
    | (revert HB5; intro HB5; (refine step_appK _ (by rfl) (.tmp 11) (.tmp 22) 50 (by rfl) iK undK hiK hzK0 hzK1 hzK2 T (.slice ka kn kc) ks (by simp [Act.eval, Act.put]) (HKK.out _ (HB5.out.alloc HB5.out.size _)) w5.heap.size k0 (by simp [Act.eval, Act.put]) (HNW.out w5 _) HL6.out ?_; intro a7 c7 T7 w7 hown7 hgo7; have HFI := HID5 (HFIN.out _ w7 T7 a7 c7 (HB5.out.alloc HB5.out.size _) (HN5.out.blocks (Below.heap_alloc _ _ _ HN5.out.lt.1) (Below.heap_alloc _ _ _ HN5.out.lt.2.1) (Below.heap_alloc _ _ _ HN5.out.lt.2.2)) hown7 hgo7); have hS7 := HBX.out w7 (HBG.out _ w7 T7 (HB5.out.alloc HB5.out.size _) hgo7); clear hown7 hgo7)))
  all_goals (
    rw [HK.out.2.1]
    go_wp2
    go_ret
    exact HFI.out)
set_option maxHeartbeats 8000000 in
theorem keeps_all (t u : Nat) (T : Nat → Nat) (w : World) (M L Q R : Nat) (ds : List Nat) (ns : List Nd) (hs : List Int) (bs : List Nat) (fz : Bool) (h : Pm t u T w M L Q R ds ns hs bs fz) (hz : ∀ b, w.heap.size ≤ b → T b = 0) (sec : Bool) (xs : Int) (xk : ByteArray) (a : Option Addr) (n c : Nat) (ws : List Wr) (hwn : ws.length = n) (nn : Int) (ka : Option Addr) (kn kc : Nat) (ks : List Lt) (hk : OwnK T w (.slice ka kn kc) ks) (hkn : ks.length = kn) (hk6 : kn + 1 ≤ 1000000) :
    Calls Try.prog 13 #[.agg #[.pointer (some ⟨M, 0, none⟩), .pointer (some ⟨Q, 0, none⟩)], .agg #[.int .i64 10, .bool sec, .int .u64 xs, .string xk, .slice a n c, .int .i64 nn], .slice ka kn kc] w fun e w' => KpAns T w M L Q R ks e w' := by
  have HP : Hid (Pm t u T w M L Q R ds ns hs bs fz) := h
  have HZ : Hid (∀ b, w.heap.size ≤ b → T b = 0) := hz
  have HK : Hid (OwnK T w (.slice ka kn kc) ks ∧ ks.length = kn ∧ kn + 1 ≤ 1000000 ∧ ws.length = n) := ⟨hk, hkn, hk6, hwn⟩
  obtain ⟨iK, hiK, hzK0, hzK1, hzK2⟩ := info_parts infoK
  have hb1 : Below w.heap.size w ((w.alloc (.cells #[.pointer (some ⟨M, 0, none⟩), .pointer (some ⟨Q, 0, none⟩)] 49)).alloc (.cells #[.int .i64 10, .bool sec, .int .u64 xs, .string xk, .slice a n c, .int .i64 nn] 54)) := ((Below.refl _ _).alloc (Nat.le_refl _) _).alloc (by simp) _
  have g1 : ((w.alloc (.cells #[.pointer (some ⟨M, 0, none⟩), .pointer (some ⟨Q, 0, none⟩)] 49)).alloc (.cells #[.int .i64 10, .bool sec, .int .u64 xs, .string xk, .slice a n c, .int .i64 nn] 54)).heap[w.heap.size]? = some (.cells #[.pointer (some ⟨M, 0, none⟩), .pointer (some ⟨Q, 0, none⟩)] 49) := by
    rw [Below.heap_alloc _ _ _ (by simp)]; exact World.alloc_heap_new _ _
  have g2 : ((w.alloc (.cells #[.pointer (some ⟨M, 0, none⟩), .pointer (some ⟨Q, 0, none⟩)] 49)).alloc (.cells #[.int .i64 10, .bool sec, .int .u64 xs, .string xk, .slice a n c, .int .i64 nn] 54)).heap[w.heap.size + 1]? = some (.cells #[.int .i64 10, .bool sec, .int .u64 xs, .string xk, .slice a n c, .int .i64 nn] 54) := by
    have := World.alloc_heap_new (w.alloc (.cells #[.pointer (some ⟨M, 0, none⟩), .pointer (some ⟨Q, 0, none⟩)] 49)) (.cells #[.int .i64 10, .bool sec, .int .u64 xs, .string xk, .slice a n c, .int .i64 nn] 54)
    rwa [World.size_alloc] at this
  have hs1 : ((w.alloc (.cells #[.pointer (some ⟨M, 0, none⟩), .pointer (some ⟨Q, 0, none⟩)] 49)).alloc (.cells #[.int .i64 10, .bool sec, .int .u64 xs, .string xk, .slice a n c, .int .i64 nn] 54)).heap.size = w.heap.size + 2 := by simp
  clear h hz hk hkn hk6 hwn
  go_enter Try.func13, Try.ntmps13
  go_upto_region 1 with (fail)
  generalize ((w.alloc (.cells #[.pointer (some ⟨M, 0, none⟩), .pointer (some ⟨Q, 0, none⟩)] 49)).alloc (.cells #[.int .i64 10, .bool sec, .int .u64 xs, .string xk, .slice a n c, .int .i64 nn] 54)) = W1 at *
  have HBX : Hid (∀ W : World, (∀ b, w.heap.size ≤ b → b < w.heap.size + 2 → W.heap[b]? = W1.heap[b]?) → W.cell? ⟨w.heap.size, 0, none⟩ = some (.pointer (some ⟨M, 0, none⟩)) ∧ W.cell? ⟨w.heap.size, 1, none⟩ = some (.pointer (some ⟨Q, 0, none⟩)) ∧ W.cell? ⟨w.heap.size + 1, 0, none⟩ = some (.int .i64 10) ∧ W.cell? ⟨w.heap.size + 1, 1, none⟩ = some (.bool sec) ∧ W.cell? ⟨w.heap.size + 1, 2, none⟩ = some (.int .u64 xs) ∧ W.cell? ⟨w.heap.size + 1, 3, none⟩ = some (.string xk) ∧ W.cell? ⟨w.heap.size + 1, 4, none⟩ = some (.slice a n c) ∧ W.cell? ⟨w.heap.size + 1, 5, none⟩ = some (.int .i64 nn)) := fun W hW => by
    have k1 := (hW _ (by omega) (by omega)).trans g1
    have k2 := (hW _ (by omega) (by omega)).trans g2
    exact ⟨by rw [cell_of_obj k1]; rfl, by rw [cell_of_obj k1]; rfl, by rw [cell_of_obj k2]; rfl, by rw [cell_of_obj k2]; rfl, by rw [cell_of_obj k2]; rfl, by rw [cell_of_obj k2]; rfl, by rw [cell_of_obj k2]; rfl, by rw [cell_of_obj k2]; rfl⟩
  have HB1 : Hid (Below w.heap.size w W1 ∧ W1.heap.size = w.heap.size + 2) := ⟨hb1, hs1⟩
  have HP1 : Hid (Pm t u T W1 M L Q R ds ns hs bs fz) := HP.out.below hb1
  clear hb1 g1 g2 hs1
  obtain ⟨p0, p1, o0, o1, o2, o3, o4, o5⟩ := HBX.out W1 (fun _ _ _ => rfl)
  have HFR : Hid (Calls Try.prog 30 #[.pointer (some ⟨M, 0, none⟩)] W1.drew fun e w' => e = .returned (fvK true W1.heap.size) ∧ Below W1.heap.size W1 w' ∧ NowAt w' true W1.heap.size M L xk xs) := by
    refine (all_mem2 (HP1.out.below (Below.refl _ _).drew).mt rfl).mono ?_
    rintro e w' ⟨rfl, hb, k1, k2, k3⟩
    exact ⟨rfl, (Below.refl _ _).drew.trans hb, k1, k2, k3⟩
  obtain ⟨k0, hk0⟩ : ∃ k0 : Lt, k0 = (⟨W1.heap.size, M, L, Q, R, true, (10, sec, xs, xk, (a, c, ws), nn)⟩ : Lt) := ⟨_, rfl⟩
  have HK0 : Hid (k0 = (⟨W1.heap.size, M, L, Q, R, true, (10, sec, xs, xk, (a, c, ws), nn)⟩ : Lt)) := hk0
  have hfv : fvK true W1.heap.size = (Value.func (.func 88) #[] #[.pointer (some ⟨W1.heap.size, 0, none⟩), .pointer (some ⟨W1.heap.size + 1, 0, none⟩), .pointer (some ⟨W1.heap.size + 2, 0, none⟩)]) := rfl
  rw [hfv] at HFR
  have HNW : Hid (∀ (w6 : World) (t : TypeId), ∀ j u, k0.cells[j]? = some u → (w6.alloc (.cells #[(Value.func (.func 88) #[] #[.pointer (some ⟨W1.heap.size, 0, none⟩), .pointer (some ⟨W1.heap.size + 1, 0, none⟩), .pointer (some ⟨W1.heap.size + 2, 0, none⟩)]), .pointer (some ⟨M, 0, none⟩), .pointer (some ⟨Q, 0, none⟩), .int .i64 10, .bool sec, .int .u64 xs, .string xk, .slice a n c, .int .i64 nn] t)).cell? ⟨w6.heap.size, j, none⟩ = some u) := fun w6 t => by
    have := late_news w6 k0 (t := t)
    rw [hk0] at this ⊢
    have e : ((⟨W1.heap.size, M, L, Q, R, true, (10, sec, xs, xk, (a, c, ws), nn)⟩ : Lt)).fv = (Value.func (.func 88) #[] #[.pointer (some ⟨W1.heap.size, 0, none⟩), .pointer (some ⟨W1.heap.size + 1, 0, none⟩), .pointer (some ⟨W1.heap.size + 2, 0, none⟩)]) := hfv
    have e2 : ws.length = n := HK.out.2.2.2
    rw [e] at this
    dsimp only at this
    rw [e2] at this
    exact this
  have HL6 : Hid (ks.length + 1 ≤ 1000000) := by show _ ≤ _; rw [HK.out.2.1]; exact HK.out.2.2.1
  have HKK : Hid (∀ W, Below W1.heap.size W1 W → OwnK T W (.slice ka kn kc) ks) := fun W hW => (HK.out.1.goes (Goes.below (t := fun _ => False) HB1.out.1) (fun z => z)).goes (Goes.below (t := fun _ => False) hW) (fun z => z)
  have HBB : Hid (∀ W, Below W1.heap.size W1 W → ∀ b, w.heap.size ≤ b → b < w.heap.size + 2 → W.heap[b]? = W1.heap[b]?) := fun W hW b h1 h2 => hW.block b (by rw [HB1.out.2]; exact h2)
  have HBG : Hid (∀ W W' T', Below W1.heap.size W1 W → Goes (· = 9) T W T' W' → ∀ b, w.heap.size ≤ b → b < w.heap.size + 2 → W'.heap[b]? = W1.heap[b]?) := fun W W' T' hW hg b h1 h2 => by
    have hlt : b < W1.heap.size := by rw [HB1.out.2]; exact h2
    have := hW.size
    exact (hg.block b (by omega) (by rw [HZ.out b h1]; omega)).trans (HBB.out W hW b h1 h2)
  have HFIN : Hid (∀ W W' T' a7 c7, Below W1.heap.size W1 W → NowAt W true W1.heap.size M L xk xs → OwnK T' W' (.slice a7 (ks.length + 1) c7) (ks ++ [k0]) → Goes (· = 9) T W T' W' → KpAns T w M L Q R ks (.returned (.slice a7 (kn + 1) c7)) W') := fun W W' T' a7 c7 hW hn ho hg => by
    have hl : (ks ++ [k0]).length = ks.length + 1 := by simp
    have hlk : LtOk T W k0 := by
      rw [hk0]
      have hs := HB1.out.2
      exact ⟨hn, ⟨HZ.out W1.heap.size (by omega), HZ.out (W1.heap.size + 1) (by omega), HZ.out (W1.heap.size + 2) (by omega)⟩, by show decide ((10 : Int) = 10) = true; decide⟩
    refine ⟨a7, c7, T', ks ++ [k0], by rw [hl, HK.out.2.1], by rw [hl]; exact ho, ((Goes.below HB1.out.1).trans (Goes.below hW)).trans hg, .inr ⟨k0, rfl, hlk.goes hg (by omega), ?_⟩⟩
    rw [hk0]
    exact ⟨rfl, rfl, rfl, rfl⟩
  have hS1 := HBX.out W1.drew (fun _ _ _ => rfl)
  clear hk0 hfv HK0 HP HP1
  go_wp2
  go_region_held3 (fun W => W.cell? ⟨w.heap.size, 0, none⟩ = some (.pointer (some ⟨M, 0, none⟩)) ∧ W.cell? ⟨w.heap.size, 1, none⟩ = some (.pointer (some ⟨Q, 0, none⟩)) ∧ W.cell? ⟨w.heap.size + 1, 0, none⟩ = some (.int .i64 10) ∧ W.cell? ⟨w.heap.size + 1, 1, none⟩ = some (.bool sec) ∧ W.cell? ⟨w.heap.size + 1, 2, none⟩ = some (.int .u64 xs) ∧ W.cell? ⟨w.heap.size + 1, 3, none⟩ = some (.string xk) ∧ W.cell? ⟨w.heap.size + 1, 4, none⟩ = some (.slice a n c) ∧ W.cell? ⟨w.heap.size + 1, 5, none⟩ = some (.int .i64 nn)) (first | assumption | exact hS1 | exact s8_alloc (by assumption) _)
    (first
    | (go_at_call 30; go_loud (refine HFR.out.mono ?_; rintro r w5 ⟨rfl, hb5, hn5⟩; have HB5 := HID5 hb5; have HN5 := HID5 hn5; have hS5 := HBX.out w5 (HBB.out w5 hb5); clear hb5 hn5))
    | (revert HB5; intro HB5; (refine step_appK _ (by rfl) (.tmp 26) (.tmp 33) 50 (by rfl) iK undK hiK hzK0 hzK1 hzK2 T (.slice ka kn kc) ks (by simp [Act.eval, Act.put]) (HKK.out _ (HB5.out.alloc HB5.out.size _)) w5.heap.size k0 (by simp [Act.eval, Act.put]) (HNW.out w5 _) HL6.out ?_; intro a7 c7 T7 w7 hown7 hgo7; have HFI := HID5 (HFIN.out _ w7 T7 a7 c7 (HB5.out.alloc HB5.out.size _) (HN5.out.blocks (Below.heap_alloc _ _ _ HN5.out.lt.1) (Below.heap_alloc _ _ _ HN5.out.lt.2.1) (Below.heap_alloc _ _ _ HN5.out.lt.2.2)) hown7 hgo7); have hS7 := HBX.out w7 (HBG.out _ w7 T7 (HB5.out.alloc HB5.out.size _) hgo7); clear hown7 hgo7)))
  all_goals (
    rw [HK.out.2.1]
    go_wp2
    go_ret
    exact HFI.out)
set_option maxHeartbeats 8000000 in
theorem keeps_not (t u : Nat) (T : Nat → Nat) (w : World) (M L Q R : Nat) (ds : List Nat) (ns : List Nd) (hs : List Int) (bs : List Nat) (fz : Bool) (h : Pm t u T w M L Q R ds ns hs bs fz) (hz : ∀ b, w.heap.size ≤ b → T b = 0) (kind : Int) (hk9 : (kind == 9) = false) (hk10 : (kind == 10) = false) (sec : Bool) (xs : Int) (xk : ByteArray) (a : Option Addr) (n c : Nat) (ws : List Wr) (hwn : ws.length = n) (nn : Int) (ka : Option Addr) (kn kc : Nat) (ks : List Lt) (hk : OwnK T w (.slice ka kn kc) ks) (hkn : ks.length = kn) (hk6 : kn + 1 ≤ 1000000) :
    Calls Try.prog 13 #[.agg #[.pointer (some ⟨M, 0, none⟩), .pointer (some ⟨Q, 0, none⟩)], .agg #[.int .i64 kind, .bool sec, .int .u64 xs, .string xk, .slice a n c, .int .i64 nn], .slice ka kn kc] w fun e w' => KpAns T w M L Q R ks e w' := by
  have HP : Hid (Pm t u T w M L Q R ds ns hs bs fz) := h
  have HZ : Hid (∀ b, w.heap.size ≤ b → T b = 0) := hz
  have HK : Hid (OwnK T w (.slice ka kn kc) ks ∧ ks.length = kn ∧ kn + 1 ≤ 1000000 ∧ ws.length = n) := ⟨hk, hkn, hk6, hwn⟩
  obtain ⟨iK, hiK, hzK0, hzK1, hzK2⟩ := info_parts infoK
  have hb1 : Below w.heap.size w ((w.alloc (.cells #[.pointer (some ⟨M, 0, none⟩), .pointer (some ⟨Q, 0, none⟩)] 49)).alloc (.cells #[.int .i64 kind, .bool sec, .int .u64 xs, .string xk, .slice a n c, .int .i64 nn] 54)) := ((Below.refl _ _).alloc (Nat.le_refl _) _).alloc (by simp) _
  have g1 : ((w.alloc (.cells #[.pointer (some ⟨M, 0, none⟩), .pointer (some ⟨Q, 0, none⟩)] 49)).alloc (.cells #[.int .i64 kind, .bool sec, .int .u64 xs, .string xk, .slice a n c, .int .i64 nn] 54)).heap[w.heap.size]? = some (.cells #[.pointer (some ⟨M, 0, none⟩), .pointer (some ⟨Q, 0, none⟩)] 49) := by
    rw [Below.heap_alloc _ _ _ (by simp)]; exact World.alloc_heap_new _ _
  have g2 : ((w.alloc (.cells #[.pointer (some ⟨M, 0, none⟩), .pointer (some ⟨Q, 0, none⟩)] 49)).alloc (.cells #[.int .i64 kind, .bool sec, .int .u64 xs, .string xk, .slice a n c, .int .i64 nn] 54)).heap[w.heap.size + 1]? = some (.cells #[.int .i64 kind, .bool sec, .int .u64 xs, .string xk, .slice a n c, .int .i64 nn] 54) := by
    have := World.alloc_heap_new (w.alloc (.cells #[.pointer (some ⟨M, 0, none⟩), .pointer (some ⟨Q, 0, none⟩)] 49)) (.cells #[.int .i64 kind, .bool sec, .int .u64 xs, .string xk, .slice a n c, .int .i64 nn] 54)
    rwa [World.size_alloc] at this
  have hs1 : ((w.alloc (.cells #[.pointer (some ⟨M, 0, none⟩), .pointer (some ⟨Q, 0, none⟩)] 49)).alloc (.cells #[.int .i64 kind, .bool sec, .int .u64 xs, .string xk, .slice a n c, .int .i64 nn] 54)).heap.size = w.heap.size + 2 := by simp
  clear h hz hk hkn hk6 hwn
  go_enter Try.func13, Try.ntmps13
  go_upto_region 1 with (fail)
  generalize ((w.alloc (.cells #[.pointer (some ⟨M, 0, none⟩), .pointer (some ⟨Q, 0, none⟩)] 49)).alloc (.cells #[.int .i64 kind, .bool sec, .int .u64 xs, .string xk, .slice a n c, .int .i64 nn] 54)) = W1 at *
  have HBX : Hid (∀ W : World, (∀ b, w.heap.size ≤ b → b < w.heap.size + 2 → W.heap[b]? = W1.heap[b]?) → W.cell? ⟨w.heap.size, 0, none⟩ = some (.pointer (some ⟨M, 0, none⟩)) ∧ W.cell? ⟨w.heap.size, 1, none⟩ = some (.pointer (some ⟨Q, 0, none⟩)) ∧ W.cell? ⟨w.heap.size + 1, 0, none⟩ = some (.int .i64 kind) ∧ W.cell? ⟨w.heap.size + 1, 1, none⟩ = some (.bool sec) ∧ W.cell? ⟨w.heap.size + 1, 2, none⟩ = some (.int .u64 xs) ∧ W.cell? ⟨w.heap.size + 1, 3, none⟩ = some (.string xk) ∧ W.cell? ⟨w.heap.size + 1, 4, none⟩ = some (.slice a n c) ∧ W.cell? ⟨w.heap.size + 1, 5, none⟩ = some (.int .i64 nn)) := fun W hW => by
    have k1 := (hW _ (by omega) (by omega)).trans g1
    have k2 := (hW _ (by omega) (by omega)).trans g2
    exact ⟨by rw [cell_of_obj k1]; rfl, by rw [cell_of_obj k1]; rfl, by rw [cell_of_obj k2]; rfl, by rw [cell_of_obj k2]; rfl, by rw [cell_of_obj k2]; rfl, by rw [cell_of_obj k2]; rfl, by rw [cell_of_obj k2]; rfl, by rw [cell_of_obj k2]; rfl⟩
  have HB1 : Hid (Below w.heap.size w W1 ∧ W1.heap.size = w.heap.size + 2) := ⟨hb1, hs1⟩
  have HP1 : Hid (Pm t u T W1 M L Q R ds ns hs bs fz) := HP.out.below hb1
  clear hb1 g1 g2 hs1
  obtain ⟨p0, p1, o0, o1, o2, o3, o4, o5⟩ := HBX.out W1 (fun _ _ _ => rfl)
  have HF : Hid (KpAns T w M L Q R ks (.returned (.slice ka kn kc)) W1) := ⟨ka, kc, T, ks, by rw [HK.out.2.1], by rw [HK.out.2.1]; exact HK.out.1.goes (Goes.below (t := fun _ => False) HB1.out.1) (fun z => z), Goes.below HB1.out.1, .inl rfl⟩
  go_wp2
  go_ret
  exact HF.out
theorem keeps_any (t u : Nat) (T : Nat → Nat) (w : World) (M L Q R : Nat) (ds : List Nat) (ns : List Nd) (hs : List Int) (bs : List Nat) (fz : Bool) (h : Pm t u T w M L Q R ds ns hs bs fz) (hz : ∀ b, w.heap.size ≤ b → T b = 0) (kind : Int) (sec : Bool) (xs : Int) (xk : ByteArray) (a : Option Addr) (n c : Nat) (ws : List Wr) (hwn : ws.length = n) (nn : Int) (ka : Option Addr) (kn kc : Nat) (ks : List Lt) (hk : OwnK T w (.slice ka kn kc) ks) (hkn : ks.length = kn) (hk6 : kn + 1 ≤ 1000000) :
    Calls Try.prog 13 #[.agg #[.pointer (some ⟨M, 0, none⟩), .pointer (some ⟨Q, 0, none⟩)], .agg #[.int .i64 kind, .bool sec, .int .u64 xs, .string xk, .slice a n c, .int .i64 nn], .slice ka kn kc] w fun e w' => KpAns T w M L Q R ks e w' := by
  by_cases h9 : kind = 9
  · subst h9; exact keeps_from t u T w M L Q R ds ns hs bs fz h hz sec xs xk a n c ws hwn nn ka kn kc ks hk hkn hk6
  by_cases h10 : kind = 10
  · subst h10; exact keeps_all t u T w M L Q R ds ns hs bs fz h hz sec xs xk a n c ws hwn nn ka kn kc ks hk hkn hk6
  exact keeps_not t u T w M L Q R ds ns hs bs fz h hz kind (by simpa using h9) (by simpa using h10) sec xs xk a n c ws hwn nn ka kn kc ks hk hkn hk6
end Mem
end Go.Proofs.Ytcioaoanhmpdkaa
