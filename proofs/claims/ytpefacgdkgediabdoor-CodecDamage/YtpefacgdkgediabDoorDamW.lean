import Derived.Test.YtpefacgdkgediabDoorProg
import Derived.Test.YtpefacgdkgediabDoorKno
import Derived.Test.YtpefacgdkgediabDoorDamM
import Derived.Test.YtpefacgdkgediabDoorBSet
import Derived.WalkKit
import Derived.WalkSpells
import Derived.WalkLawsBesides
import Derived.Deep.Cut
namespace Go.Proofs.YtpefacgdkgediabDoor
namespace CodecDamage
open Go.RowKit CMath Byt Cod
set_option linter.unusedVariables false
set_option maxRecDepth 20000

theorem frame_len (l : List Nat) : (frame l).length = (num l.length).length + l.length + 4 := by simp [frame, four]; omega
theorem rd_frame (p : List Nat) (h : p.length ≤ 262144) : rd (frame p) 0 0 = (p.length, (num p.length).length, 0) := by
  have e := rd_words p.length (p ++ four (crc (num p.length ++ p))) (by omega)
  rw [← List.append_assoc] at e
  exact e
theorem bit_mod (t j : Nat) : ((t : Int) / 2 ^ j).tmod 2 = ((t / 2 ^ j % 2 : Nat) : Int) := by
  have e : (t : Int) / 2 ^ j = ((t / 2 ^ j : Nat) : Int) := by simp
  rw [e]
  generalize t / 2 ^ j = q
  rw [Int.tmod_eq_emod_of_nonneg (by omega)]
  omega
theorem xorP {z r : Nat} (hz : z < 256) (hr : r < 8) : bits .xor .u8 (z : Int) ((2 : Int) ^ r % 256) = ((z ^^^ 2 ^ r : Nat) : Int) := by
  have h := pow_lt8 hr
  have e : (2 : Int) ^ r % 256 = ((2 ^ r : Nat) : Int) := by
    have e1 : (2 : Int) ^ r = ((2 ^ r : Nat) : Int) := by simp
    rw [e1]
    generalize 2 ^ r = q at *
    omega
  rw [e]
  exact u8_xor_nat z (2 ^ r) hz h
/-- The frame when i bits of the span have been gone through. -/
structure Dm (p c : List Nat) (T t room i : Nat) : Prop where
  byte : ∀ x ∈ c, x < 256
  len : c.length = (frame p).length
  head : c.take (num p.length).length = num p.length
  val : CMath.val c = CMath.val (frame p) ^^^ 2 ^ (8 * (num p.length).length + T) * span t room i
theorem Dm.start {p : List Nat} (hp : ∀ x ∈ p, x < 256) (T t room : Nat) : Dm p (frame p) T t room 0 := by
  refine ⟨?_, rfl, ?_, ?_⟩
  · intro x hx
    simp only [frame, List.mem_append] at hx
    rcases hx with (hx | hx) | hx
    · exact num_byte _ x hx
    · exact hp x hx
    · exact four_byte _ x hx
  · rw [frame, List.append_assoc, take_len]
  · rw [span_zero]; simp
theorem Dm.off {p c : List Nat} {T t room i : Nat} (h : Dm p c T t room i) (hb : i < room → t / 2 ^ i % 2 ≠ 1) : Dm p c T t room (i + 1) :=
  ⟨h.byte, h.len, h.head, by rw [span_off hb]; exact h.val⟩
theorem Dm.on {p c : List Nat} {T t room i z k : Nat} (h : Dm p c T t room i) (hk : (num p.length).length = k) (hi : i < room) (hb : t / 2 ^ i % 2 = 1) (hz : c[k + (T + i) / 8]? = some z) : Dm p (c.set (k + (T + i) / 8) (z ^^^ 2 ^ ((T + i) % 8))) T t room (i + 1) := by
  subst hk
  have hzb := h.byte z (List.mem_of_getElem? hz)
  refine ⟨?_, by rw [List.length_set]; exact h.len, by rw [take_set_ge (by omega)]; exact h.head, ?_⟩
  · intro x hx
    rcases List.mem_or_eq_of_mem_set hx with hx | rfl
    · exact h.byte x hx
    · exact xor_byte hzb (by omega)
  · rw [val_set c h.byte _ z _ hz (by omega), h.val, span_on hi hb, mul_xor, Nat.xor_assoc, ← Nat.pow_add]
    congr 3
    omega

set_option maxHeartbeats 1000000 in

theorem walk_neg (a : Option Addr) (cap : Nat) (x : List Nat) (at' : Int) (t : Nat) (w : World) (hx : IsB w a x) (nx : a = none → cap = 0) (cx : x.length ≤ cap) (mx : cap ≤ 9223372036854775807) (ht : Tab w) (hat : -9223372036854775808 ≤ at' ∧ at' ≤ 9223372036854775807) (ht32 : t < 4294967296) (hv : at' < 0) :
    Calls Tryd.prog 3 #[.slice a x.length cap, .int .i64 at', .int .u32 t] w fun e w' => e = .returned (.bool true) ∧ Below w.heap.size w w' := by
  have HX : Hid (IsB w a x) := hx
  have HP : Hid (IsB w a (x.take 262144)) := hx.take _
  have NX : Hid (a = none → cap = 0) := nx
  have HT : Hid (Tab w) := ht
  have HB : Hid (Below w.heap.size w w) := Below.refl _ _
  have hp1 : (x.take 262144).length ≤ 262144 := by simp; omega
  clear hx nx ht
  go_enter Tryd.func3, Tryd.ntmps3
  go_wp2_with fail
  refine (known_any w HT.out).mono ?_
  rintro e w1 ⟨rfl, hb⟩
  have HB' : Hid (Below w.heap.size w w1) := HB.out.trans (hb.mono HB.out.size)
  clear HB
  have HB := HB'
  clear HB'
  clear hb
  go_wp2_with fail
  refine (part_any a cap _ x _ (HX.out.below HB.out) NX.out cx mx rfl).mono ?_
  rintro e w' ⟨rfl, hw⟩
  have hw2 := hw.symm
  clear hw
  subst hw2
  generalize x.take 262144 = p at *
  have hfl1 : (frame p).length ≤ (num p.length).length + p.length + 4 := Nat.le_of_eq (frame_len p)
  have hfl2 : (num p.length).length + p.length + 4 ≤ (frame p).length := Nat.le_of_eq (frame_len p).symm
  have hn10 := num_le10 (n := p.length) (by omega)
  have hnp := num_pos p.length
  go_wp2_with fail
  refine (frame_any a cap _ p w1 (HP.out.below HB.out) (HT.out.below HB.out HT.out.lt) NX.out (by omega) (by omega)).mono ?_
  rintro e w2 ⟨v2, rfl, ho, hb⟩
  obtain ⟨a2, c2, rfl, hn2⟩ := New.ofOwn ho
  have HB' : Hid (Below w.heap.size w w2) := HB.out.trans (hb.mono HB.out.size)
  have HB1S : Hid (w.heap.size ≤ w1.heap.size) := HB.out.size
  clear HB
  have HB := HB'
  clear HB'
  have F2 : Hid (New 5 w1.heap.size w2 a2 c2 (frame p)) := hn2
  clear ho hb hn2
  have hcl := F2.out.le
  have hcm := F2.out.max
  obtain ⟨gf, rfl, hgf, hrf, hff⟩ := Byt.New.at F2.out (by omega)
  have hgw : w.heap.size ≤ gf := Nat.le_trans HB1S.out hgf
  have HR : Hid (BRow w2 gf 0 (frame p)) := hrf
  have HFF : Hid (∀ j, w2.frozen? ⟨gf, j, none⟩ = false) := hff
  have HFB : Hid (∀ z ∈ frame p, z < 256) := F2.out.byte
  have CU : Hid (Calls Tryd.prog 7 #[.slice (some ⟨gf, 0, none⟩) (frame p).length c2] w2 fun e w' => e = .returned (.tuple #[.int .u64 p.length, .int .i64 ((num p.length).length : Nat), .int .i64 0]) ∧ w' = w2) := by
    have h := uint_any (some ⟨gf, 0, none⟩) c2 (frame p).length (frame p) w2 F2.out.isB hcl hcm rfl
    rw [rd_frame p hp1] at h
    exact h
  clear hrf hff F2
  generalize hk : (num p.length).length = k at *
  go_wp2_with fail
  refine CU.out.mono ?_
  rintro e w' ⟨rfl, hw⟩
  have hw2 := hw.symm
  clear hw
  subst hw2
  clear CU
  go_upto_region 11 with fail
  obtain ⟨B, hB⟩ : ∃ B : Nat, B = 8 * (p.length + 4) := ⟨_, rfl⟩
  obtain ⟨Q, hQ⟩ : ∃ Q : Nat, (Q : Int) = -(at' + 1) := ⟨(-(at' + 1)).toNat, by omega⟩
  have eB : (8 * (((frame p).length : Int) - (k : Int))) = (B : Int) := by omega
  have hB0 : ((B : Int) == 0) = false := beq_eq_false_iff_ne.2 (by omega)
  have hB1 : 0 < B := by omega
  have hB2 : B ≤ 2097184 := by omega
  have hQ2 : Q ≤ 9223372036854775807 := by omega
  rw [eB, ← hQ]
  have HBL : Hid (B = 8 * (p.length + 4)) := hB
  clear eB hQ hB
  go_wp2_with fail
  obtain ⟨T, hT⟩ : ∃ T : Nat, T = Q % B := ⟨_, rfl⟩
  have eT : (Q : Int) % (B : Int) = (T : Int) := by rw [hT]; exact (Int.natCast_emod Q B).symm
  have hT1 : T < B := by rw [hT]; exact Nat.mod_lt _ hB1
  rw [eT]
  clear eT hT
  have d1 : decide ((k : Int) < 1) = false := by simp; omega
  have d2 : decide ((frame p).length ≤ k) = false := by simp; omega
  simp only [d1, d2, Bool.or_false]
  go_loopw [12, 13] (fun tb i wr => ∃ (j : Nat) (c : List Nat), j ≤ 32 ∧ i = .int .i64 j ∧ tb = .bool (decide (span t (B - T) j ≠ 0)) ∧ Dm p c T t (B - T) j ∧ BRow wr gf 0 c ∧ (∀ q, wr.frozen? ⟨gf, q, none⟩ = false) ∧ Below w.heap.size w wr) (fun _ i _ => 32 - (intOf i).toNat)
  case atStart => exact ⟨0, frame p, by omega, rfl, by rw [span_zero]; rfl, Dm.start HP.out.2 _ _ _, HR.out, HFF.out, HB.out⟩
  case round =>
    obtain ⟨j, c, hj, rfl, rfl, hdm, hrow, hfz, hbw⟩ := hrel
    have HD : Hid (Dm p c T t (B - T) j) := hdm
    have HRW : Hid (BRow wr gf 0 c) := hrow
    have HFZ : Hid (∀ q, wr.frozen? ⟨gf, q, none⟩ = false) := hfz
    have HBW : Hid (Below w.heap.size w wr) := hbw
    have hcln : c.length = (frame p).length := hdm.len
    have hcl1 : c.length ≤ (frame p).length := Nat.le_of_eq hcln
    have hcl2 : (frame p).length ≤ c.length := Nat.le_of_eq hcln.symm
    clear hdm hrow hfz hbw HR HFF HB hcln
    by_cases hlt : j < 32
    · by_cases h1 : T + j < B
      · by_cases h2 : t / 2 ^ j % 2 = 1
        · have h8 : (T + j) / 8 < p.length + 4 := by have := HBL.out; omega
          obtain ⟨z, hz⟩ : ∃ z, c[k + (T + j) / 8]? = some z := ⟨_, List.getElem?_eq_getElem (by omega)⟩
          have hzb : z < 256 := HD.out.byte z (List.mem_of_getElem? hz)
          have c0 := HRW.out.2 _ z hz
          rw [Nat.zero_add] at c0
          have f0 := HFZ.out (k + (T + j) / 8)
          have HZ : Hid (c[k + (T + j) / 8]? = some z) := hz
          have g1 : (((t : Int) / 2 ^ j).tmod 2 == 1) = true := by
            rw [bit_mod, h2]; rfl
          clear hz
          go_wp2_with fail
          go_roundw
          case rel =>
            exact ⟨j + 1, c.set (k + (T + j) / 8) (z ^^^ 2 ^ ((T + j) % 8)), by omega, by go_num, by rw [decide_eq_true (span_ne (by omega) h2)], HD.out.on hk (by omega) h2 HZ.out, Byt.BRow.set HRW.out (by omega) _ _ (xorP hzb (by omega)), fun q => by rw [World.frozen?_setCell]; exact HFZ.out q, HBW.out.setCell hgw _⟩
          case measure => simp [intOf]; omega
        · have g1 : (((t : Int) / 2 ^ j).tmod 2 == 1) = false := by
            rw [bit_mod]
            generalize t / 2 ^ j % 2 = q at *
            exact beq_eq_false_iff_ne.2 (by omega)
          go_wp2_with fail
          go_roundw
          case rel =>
            exact ⟨j + 1, c, by omega, by go_num, by rw [span_off (fun _ => h2)] <;> simp, HD.out.off (fun _ => h2), HRW.out, HFZ.out, HBW.out⟩
          case measure => simp [intOf]; omega
      · go_wp2_with fail
        go_roundw
        case rel =>
          exact ⟨j + 1, c, by omega, by go_num, by rw [span_off (fun h => by omega)] <;> simp, HD.out.off (fun h => by omega), HRW.out, HFZ.out, HBW.out⟩
        case measure => simp [intOf]; omega
    · obtain rfl : j = 32 := by omega
      clear hj hlt
      have hlt2 : span t (B - T) 32 < 4294967296 := Nat.lt_of_lt_of_le (span_lt _ _ _) (Nat.pow_le_pow_right (by omega) (Nat.min_le_left 32 _))
      have CN := unframe_any (some ⟨gf, 0, none⟩) c2 (frame p).length c wr (IsB.some HRW.out HD.out.byte) (HT.out.below HBW.out HT.out.lt) (by omega) hcm HD.out.len.symm
      unfold unfV at CN
      by_cases he : span t (B - T) 32 = 0
      · have hc : c = frame p := by
          refine val_inj _ _ HD.out.byte HFB.out HD.out.len ?_
          rw [HD.out.val, he]
          simp
        have hu := unframe_back p [] hp1
        rw [List.append_nil] at hu
        rw [hc, hu] at CN
        have CNH : Hid (Calls Tryd.prog 8 #[.slice (some ⟨gf, 0, none⟩) (frame p).length c2] wr fun e w' => ∃ a' c', e = .returned (.tuple #[.slice a' p.length c', .int .i64 ((frame p).length : Nat), .int .i64 0]) ∧ New 5 wr.heap.size w' a' c' p ∧ Below wr.heap.size wr w') := CN
        have hd : decide (span t (B - T) 32 ≠ 0) = false := by simp [he]
        rw [hd]
        clear CN hc hu hd he
        go_wp2_with fail
        refine CNH.out.mono ?_
        rintro e w6 ⟨a6, c6, rfl, hn6, hb6⟩
        have F6 : Hid (New 5 wr.heap.size w6 a6 c6 p) := hn6
        have HB6 : Hid (Below w.heap.size w w6) := HBW.out.trans (hb6.mono HBW.out.size)
        clear hn6 hb6
        go_wp2_with fail
        refine (same_any a6 a c6 cap _ _ p w6 F6.out.isB (HP.out.below HB6.out) (by omega) (by omega) (by omega)).mono ?_
        rintro e w7 ⟨rfl, d7, rfl⟩
        go_wp2_with fail
        go_ret
        exact ⟨by simp, below_drewN HB6.out _⟩
      · have hu := damage HP.out.2 hp1 HD.out.byte HD.out.len HD.out.head hlt2 he HD.out.val
        rw [hu] at CN
        have CNH : Hid (Calls Tryd.prog 8 #[.slice (some ⟨gf, 0, none⟩) (frame p).length c2] wr fun e w' => ∃ a' c', e = .returned (.tuple #[.slice a' 0 c', .int .i64 0, .int .i64 23]) ∧ New 5 wr.heap.size w' a' c' [] ∧ Below wr.heap.size wr w') := CN
        have hd : decide (span t (B - T) 32 ≠ 0) = true := by simp [he]
        rw [hd]
        clear CN hu hd he
        go_wp2_with fail
        refine CNH.out.mono ?_
        rintro e w6 ⟨a6, c6, rfl, _, hb6⟩
        have HB6 : Hid (Below w.heap.size w w6) := HBW.out.trans (hb6.mono HBW.out.size)
        clear hb6
        go_wp2_with fail
        go_ret
        exact ⟨by simp, HB6.out⟩

set_option maxHeartbeats 1000000 in
theorem walk_pos (a : Option Addr) (cap : Nat) (x : List Nat) (at' : Int) (t : Nat) (w : World) (hx : IsB w a x) (nx : a = none → cap = 0) (cx : x.length ≤ cap) (mx : cap ≤ 9223372036854775807) (ht : Tab w) (hat : -9223372036854775808 ≤ at' ∧ at' ≤ 9223372036854775807) (ht32 : t < 4294967296) (hv : 0 ≤ at') :
    Calls Tryd.prog 3 #[.slice a x.length cap, .int .i64 at', .int .u32 t] w fun e w' => e = .returned (.bool true) ∧ Below w.heap.size w w' := by
  have HX : Hid (IsB w a x) := hx
  have HP : Hid (IsB w a (x.take 262144)) := hx.take _
  have NX : Hid (a = none → cap = 0) := nx
  have HT : Hid (Tab w) := ht
  have HB : Hid (Below w.heap.size w w) := Below.refl _ _
  have hp1 : (x.take 262144).length ≤ 262144 := by simp; omega
  clear hx nx ht
  go_enter Tryd.func3, Tryd.ntmps3
  go_wp2_with fail
  refine (known_any w HT.out).mono ?_
  rintro e w1 ⟨rfl, hb⟩
  have HB' : Hid (Below w.heap.size w w1) := HB.out.trans (hb.mono HB.out.size)
  clear HB
  have HB := HB'
  clear HB'
  clear hb
  go_wp2_with fail
  refine (part_any a cap _ x _ (HX.out.below HB.out) NX.out cx mx rfl).mono ?_
  rintro e w' ⟨rfl, hw⟩
  have hw2 := hw.symm
  clear hw
  subst hw2
  generalize x.take 262144 = p at *
  have hfl1 : (frame p).length ≤ (num p.length).length + p.length + 4 := Nat.le_of_eq (frame_len p)
  have hfl2 : (num p.length).length + p.length + 4 ≤ (frame p).length := Nat.le_of_eq (frame_len p).symm
  have hn10 := num_le10 (n := p.length) (by omega)
  have hnp := num_pos p.length
  go_wp2_with fail
  refine (frame_any a cap _ p w1 (HP.out.below HB.out) (HT.out.below HB.out HT.out.lt) NX.out (by omega) (by omega)).mono ?_
  rintro e w2 ⟨v2, rfl, ho, hb⟩
  obtain ⟨a2, c2, rfl, hn2⟩ := New.ofOwn ho
  have HB' : Hid (Below w.heap.size w w2) := HB.out.trans (hb.mono HB.out.size)
  have HB1S : Hid (w.heap.size ≤ w1.heap.size) := HB.out.size
  clear HB
  have HB := HB'
  clear HB'
  have F2 : Hid (New 5 w1.heap.size w2 a2 c2 (frame p)) := hn2
  clear ho hb hn2
  have hcl := F2.out.le
  have hcm := F2.out.max
  obtain ⟨gf, rfl, hgf, hrf, hff⟩ := Byt.New.at F2.out (by omega)
  have hgw : w.heap.size ≤ gf := Nat.le_trans HB1S.out hgf
  have HR : Hid (BRow w2 gf 0 (frame p)) := hrf
  have HFF : Hid (∀ j, w2.frozen? ⟨gf, j, none⟩ = false) := hff
  have HFB : Hid (∀ z ∈ frame p, z < 256) := F2.out.byte
  have CU : Hid (Calls Tryd.prog 7 #[.slice (some ⟨gf, 0, none⟩) (frame p).length c2] w2 fun e w' => e = .returned (.tuple #[.int .u64 p.length, .int .i64 ((num p.length).length : Nat), .int .i64 0]) ∧ w' = w2) := by
    have h := uint_any (some ⟨gf, 0, none⟩) c2 (frame p).length (frame p) w2 F2.out.isB hcl hcm rfl
    rw [rd_frame p hp1] at h
    exact h
  clear hrf hff F2
  generalize hk : (num p.length).length = k at *
  go_wp2_with fail
  refine CU.out.mono ?_
  rintro e w' ⟨rfl, hw⟩
  have hw2 := hw.symm
  clear hw
  subst hw2
  clear CU
  go_upto_region 11 with fail
  obtain ⟨B, hB⟩ : ∃ B : Nat, B = 8 * (p.length + 4) := ⟨_, rfl⟩
  obtain ⟨Q, hQ⟩ : ∃ Q : Nat, (Q : Int) = at' := ⟨(at').toNat, by omega⟩
  have eB : (8 * (((frame p).length : Int) - (k : Int))) = (B : Int) := by omega
  have hB0 : ((B : Int) == 0) = false := beq_eq_false_iff_ne.2 (by omega)
  have hB1 : 0 < B := by omega
  have hB2 : B ≤ 2097184 := by omega
  have hQ2 : Q ≤ 9223372036854775807 := by omega
  rw [eB, ← hQ]
  have HBL : Hid (B = 8 * (p.length + 4)) := hB
  clear eB hQ hB
  go_wp2_with fail
  obtain ⟨T, hT⟩ : ∃ T : Nat, T = Q % B := ⟨_, rfl⟩
  have eT : (Q : Int) % (B : Int) = (T : Int) := by rw [hT]; exact (Int.natCast_emod Q B).symm
  have hT1 : T < B := by rw [hT]; exact Nat.mod_lt _ hB1
  rw [eT]
  clear eT hT
  have d1 : decide ((k : Int) < 1) = false := by simp; omega
  have d2 : decide ((frame p).length ≤ k) = false := by simp; omega
  simp only [d1, d2, Bool.or_false]
  go_loopw [12, 13] (fun tb i wr => ∃ (j : Nat) (c : List Nat), j ≤ 32 ∧ i = .int .i64 j ∧ tb = .bool (decide (span t (B - T) j ≠ 0)) ∧ Dm p c T t (B - T) j ∧ BRow wr gf 0 c ∧ (∀ q, wr.frozen? ⟨gf, q, none⟩ = false) ∧ Below w.heap.size w wr) (fun _ i _ => 32 - (intOf i).toNat)
  case atStart => exact ⟨0, frame p, by omega, rfl, by rw [span_zero]; rfl, Dm.start HP.out.2 _ _ _, HR.out, HFF.out, HB.out⟩
  case round =>
    obtain ⟨j, c, hj, rfl, rfl, hdm, hrow, hfz, hbw⟩ := hrel
    have HD : Hid (Dm p c T t (B - T) j) := hdm
    have HRW : Hid (BRow wr gf 0 c) := hrow
    have HFZ : Hid (∀ q, wr.frozen? ⟨gf, q, none⟩ = false) := hfz
    have HBW : Hid (Below w.heap.size w wr) := hbw
    have hcln : c.length = (frame p).length := hdm.len
    have hcl1 : c.length ≤ (frame p).length := Nat.le_of_eq hcln
    have hcl2 : (frame p).length ≤ c.length := Nat.le_of_eq hcln.symm
    clear hdm hrow hfz hbw HR HFF HB hcln
    by_cases hlt : j < 32
    · by_cases h1 : T + j < B
      · by_cases h2 : t / 2 ^ j % 2 = 1
        · have h8 : (T + j) / 8 < p.length + 4 := by have := HBL.out; omega
          obtain ⟨z, hz⟩ : ∃ z, c[k + (T + j) / 8]? = some z := ⟨_, List.getElem?_eq_getElem (by omega)⟩
          have hzb : z < 256 := HD.out.byte z (List.mem_of_getElem? hz)
          have c0 := HRW.out.2 _ z hz
          rw [Nat.zero_add] at c0
          have f0 := HFZ.out (k + (T + j) / 8)
          have HZ : Hid (c[k + (T + j) / 8]? = some z) := hz
          have g1 : (((t : Int) / 2 ^ j).tmod 2 == 1) = true := by
            rw [bit_mod, h2]; rfl
          clear hz
          go_wp2_with fail
          go_roundw
          case rel =>
            exact ⟨j + 1, c.set (k + (T + j) / 8) (z ^^^ 2 ^ ((T + j) % 8)), by omega, by go_num, by rw [decide_eq_true (span_ne (by omega) h2)], HD.out.on hk (by omega) h2 HZ.out, Byt.BRow.set HRW.out (by omega) _ _ (xorP hzb (by omega)), fun q => by rw [World.frozen?_setCell]; exact HFZ.out q, HBW.out.setCell hgw _⟩
          case measure => simp [intOf]; omega
        · have g1 : (((t : Int) / 2 ^ j).tmod 2 == 1) = false := by
            rw [bit_mod]
            generalize t / 2 ^ j % 2 = q at *
            exact beq_eq_false_iff_ne.2 (by omega)
          go_wp2_with fail
          go_roundw
          case rel =>
            exact ⟨j + 1, c, by omega, by go_num, by rw [span_off (fun _ => h2)] <;> simp, HD.out.off (fun _ => h2), HRW.out, HFZ.out, HBW.out⟩
          case measure => simp [intOf]; omega
      · go_wp2_with fail
        go_roundw
        case rel =>
          exact ⟨j + 1, c, by omega, by go_num, by rw [span_off (fun h => by omega)] <;> simp, HD.out.off (fun h => by omega), HRW.out, HFZ.out, HBW.out⟩
        case measure => simp [intOf]; omega
    · obtain rfl : j = 32 := by omega
      clear hj hlt
      have hlt2 : span t (B - T) 32 < 4294967296 := Nat.lt_of_lt_of_le (span_lt _ _ _) (Nat.pow_le_pow_right (by omega) (Nat.min_le_left 32 _))
      have CN := unframe_any (some ⟨gf, 0, none⟩) c2 (frame p).length c wr (IsB.some HRW.out HD.out.byte) (HT.out.below HBW.out HT.out.lt) (by omega) hcm HD.out.len.symm
      unfold unfV at CN
      by_cases he : span t (B - T) 32 = 0
      · have hc : c = frame p := by
          refine val_inj _ _ HD.out.byte HFB.out HD.out.len ?_
          rw [HD.out.val, he]
          simp
        have hu := unframe_back p [] hp1
        rw [List.append_nil] at hu
        rw [hc, hu] at CN
        have CNH : Hid (Calls Tryd.prog 8 #[.slice (some ⟨gf, 0, none⟩) (frame p).length c2] wr fun e w' => ∃ a' c', e = .returned (.tuple #[.slice a' p.length c', .int .i64 ((frame p).length : Nat), .int .i64 0]) ∧ New 5 wr.heap.size w' a' c' p ∧ Below wr.heap.size wr w') := CN
        have hd : decide (span t (B - T) 32 ≠ 0) = false := by simp [he]
        rw [hd]
        clear CN hc hu hd he
        go_wp2_with fail
        refine CNH.out.mono ?_
        rintro e w6 ⟨a6, c6, rfl, hn6, hb6⟩
        have F6 : Hid (New 5 wr.heap.size w6 a6 c6 p) := hn6
        have HB6 : Hid (Below w.heap.size w w6) := HBW.out.trans (hb6.mono HBW.out.size)
        clear hn6 hb6
        go_wp2_with fail
        refine (same_any a6 a c6 cap _ _ p w6 F6.out.isB (HP.out.below HB6.out) (by omega) (by omega) (by omega)).mono ?_
        rintro e w7 ⟨rfl, d7, rfl⟩
        go_wp2_with fail
        go_ret
        exact ⟨by simp, below_drewN HB6.out _⟩
      · have hu := damage HP.out.2 hp1 HD.out.byte HD.out.len HD.out.head hlt2 he HD.out.val
        rw [hu] at CN
        have CNH : Hid (Calls Tryd.prog 8 #[.slice (some ⟨gf, 0, none⟩) (frame p).length c2] wr fun e w' => ∃ a' c', e = .returned (.tuple #[.slice a' 0 c', .int .i64 0, .int .i64 23]) ∧ New 5 wr.heap.size w' a' c' [] ∧ Below wr.heap.size wr w') := CN
        have hd : decide (span t (B - T) 32 ≠ 0) = true := by simp [he]
        rw [hd]
        clear CN hu hd he
        go_wp2_with fail
        refine CNH.out.mono ?_
        rintro e w6 ⟨a6, c6, rfl, _, hb6⟩
        have HB6 : Hid (Below w.heap.size w w6) := HBW.out.trans (hb6.mono HBW.out.size)
        clear hb6
        go_wp2_with fail
        go_ret
        exact ⟨by simp, HB6.out⟩

end CodecDamage
end Go.Proofs.YtpefacgdkgediabDoor
