import Derived.Test.YtnoipjeoclkeoabDoorQg3
import Derived.Test.YtnoipjeoclkeoabDoorQbT
import Derived.Test.YtnoipjeoclkeoabDoorDamM
import Derived.Test.YtnoipjeoclkeoabDoorBSet
import Derived.Test.YtnoipjeoclkeoabDoorSam
namespace Go.Proofs.YtnoipjeoclkeoabDoor
namespace BlockTurned
open Go.RowKit Go.Shelf CMath Byt Laws Irw Crw Cod Qe Qb
set_option linter.unusedVariables false
set_option linter.unusedSimpArgs false
set_option maxRecDepth 100000

theorem sz_of {l : List Qg.En} (h : (l.map Qg.bulkE).sum ≤ 32768) : ∀ e ∈ l, e.1.size ≤ 32768 ∧ e.2.2.2.size ≤ 32768 := fun e he => by
  have h1 := Qg.sum_mem he
  have h2 : Qg.bulkE e = 1 + e.1.size + e.2.2.2.size := rfl
  omega
/-- Two lists of bytes of one length that are not alike. -/
theorem same_ne (a b : Option Addr) (ca cb n m : Nat) (l l' : List Nat) (w : World) (ha : IsB w a l) (hb : IsB w b l') (hlen : l.length ≤ 9223372036854775807) (hll : l'.length = l.length) (hne0 : l ≠ l') (hn : n = l.length) (hm : m = l.length) :
    Calls Tryd.prog 11 #[.slice a n ca, .slice b m cb] w fun e w' => e = .returned (.bool false) ∧ ∃ n, w' = w.drewN n := by
  obtain rfl : m = n := by omega
  have HA : Hid (l ≠ [] → ∃ b off, a = some ⟨b, off, none⟩ ∧ BRow w b off l) := ha.1
  have HB : Hid (l' ≠ [] → ∃ b' off, b = some ⟨b', off, none⟩ ∧ BRow w b' off l') := hb.1
  have HN : Hid (m = l.length ∧ l'.length = l.length ∧ l ≠ l') := ⟨hn, hll, hne0⟩
  have hmx : (m : Int) ≤ 9223372036854775807 := by omega
  clear ha hb hn hm hll hne0 hlen
  go_enter Tryd.func11, Tryd.ntmps11
  go_wp2
  go_loopw [5] (fun i wr => ∃ k n : Nat, k ≤ m ∧ i = .int .i64 k ∧ wr = w.drewN n ∧ Hid (l.take k = l'.take k)) (fun i _ => m - (intOf i).toNat)
  case atStart => exact ⟨0, 0, Nat.zero_le _, rfl, rfl, rfl⟩
  case round =>
    obtain ⟨k, n, hk, rfl, rfl, HTK⟩ := hrel
    by_cases hlt : k < m
    · have h1 : k < l.length := by have := HN.out.1; omega
      have h2 : k < l'.length := by have := HN.out; omega
      obtain ⟨b1, o1, rfl, hr1⟩ := HA.out (by intro e; rw [e] at h1; simp at h1)
      obtain ⟨b2, o2, rfl, hr2⟩ := HB.out (by intro e; rw [e] at h2; simp at h2)
      obtain ⟨x, hx⟩ : ∃ x, l[k]? = some x := ⟨_, List.getElem?_eq_getElem h1⟩
      obtain ⟨y, hy⟩ : ∃ y, l'[k]? = some y := ⟨_, List.getElem?_eq_getElem h2⟩
      have c0 := hr1.2 k _ hx
      have e0 := hr2.2 k _ hy
      have q1 : (k : Int) < (m : Int) := by omega
      by_cases hxy : x = y
      · subst hxy
        have HT2 : Hid (l.take (k + 1) = l'.take (k + 1)) := by show _ = _; rw [List.take_add_one, List.take_add_one, hx, hy, HTK.out]
        clear hx hy h1 h2
        go_wp2
        go_quiet (fail)
        go_wp2
        go_roundw
        case rel => exact ⟨k + 1, _, by omega, by go_num, rfl, HT2.out⟩
        case measure => simp [intOf]; omega
      · have hxy1 : ¬ ((x : Int) = (y : Int)) := by omega
        have hxy2 : (((x : Int)) == ((y : Int))) = false := by simpa using hxy1
        clear hx hy h1 h2 hxy
        go_wp2
        go_quiet (fail)
        go_wp2
        go_ret
        exact ⟨rfl, _, World.drewN_drewN _ _ _⟩
    · exfalso
      have h9 := HN.out
      have hkm : k = m := by omega
      have := HTK.out
      rw [hkm, List.take_of_length_le (by omega), List.take_of_length_le (by omega)] at this
      exact h9.2.2 this
/-- A place. -/
theorem place_any (k n : Int) (w : World) (hk : -9223372036854775808 ≤ k ∧ k ≤ 9223372036854775807) (hn : 0 < n) (hn2 : n ≤ 1000000000000) :
    Calls Tryd.prog 13 #[.int .i64 k, .int .i64 n] w fun e w' => (∃ q : Nat, e = .returned (.int .i64 (q : Int)) ∧ (q : Int) < n) ∧ w' = w := by
  obtain ⟨t, ht⟩ : ∃ t : Int, Int.tmod k n = t := ⟨_, rfl⟩
  have h1 : t < n := by rw [← ht]; exact Int.tmod_lt_of_pos k hn
  have h2 : -n < t := by
    have := Int.lt_tmod_of_pos k hn
    omega
  have hne : ¬ n = 0 := by omega
  have hne2 : (n == 0) = false := by simpa using hne
  by_cases h0 : t < 0
  · go_enter Tryd.func13, Tryd.ntmps13
    go_wp2
    go_ret
    refine ⟨⟨(t + n).toNat, ?_, by omega⟩, rfl⟩
    rw [Int.toNat_of_nonneg (by omega)]
    rfl
  · go_enter Tryd.func13, Tryd.ntmps13
    go_wp2
    go_ret
    refine ⟨⟨t.toNat, ?_, by omega⟩, rfl⟩
    rw [Int.toNat_of_nonneg (by omega)]
    rfl
theorem bit_mod (t j : Nat) : ((t : Int) / 2 ^ j).tmod 2 = ((t / 2 ^ j % 2 : Nat) : Int) := by
  have e : (t : Int) / 2 ^ j = ((t / 2 ^ j : Nat) : Int) := by simp
  rw [e]
  generalize t / 2 ^ j = q
  rw [Int.tmod_eq_emod_of_nonneg (by omega)]
  omega
theorem xorP {z r : Nat} (hz : z < 256) (hr : r < 8) : bits .xor .u8 (z : Int) ((2 : Int) ^ r % 256) = ((z ^^^ 2 ^ r : Nat) : Int) := by
  have h := pow_lt8 hr
  have e : (2 : Int) ^ r % 256 = ((2 ^ r : Nat) : Int) := by
    have e1 : (2 : Int) ^ r = ((2 ^ r : Nat) : Int) := by simp
    rw [e1]
    generalize 2 ^ r = q at *
    omega
  rw [e]
  exact u8_xor_nat z (2 ^ r) hz h
/-- The bytes when i bits of the span have been gone through. -/
structure Dt (p c : List Nat) (T t room i : Nat) : Prop where
  byte : ∀ x ∈ c, x < 256
  len : c.length = p.length
  val : CMath.val c = CMath.val p ^^^ 2 ^ T * span t room i
theorem Dt.start {p : List Nat} (hp : ∀ x ∈ p, x < 256) (T t room : Nat) : Dt p p T t room 0 := ⟨hp, rfl, by rw [span_zero]; simp⟩
theorem Dt.off {p c : List Nat} {T t room i : Nat} (h : Dt p c T t room i) (hb : i < room → t / 2 ^ i % 2 ≠ 1) : Dt p c T t room (i + 1) :=
  ⟨h.byte, h.len, by rw [span_off hb]; exact h.val⟩
theorem Dt.on {p c : List Nat} {T t room i z : Nat} (h : Dt p c T t room i) (hi : i < room) (hb : t / 2 ^ i % 2 = 1) (hz : c[(T + i) / 8]? = some z) : Dt p (c.set ((T + i) / 8) (z ^^^ 2 ^ ((T + i) % 8))) T t room (i + 1) := by
  have hzb := h.byte z (List.mem_of_getElem? hz)
  refine ⟨?_, by rw [List.length_set]; exact h.len, ?_⟩
  · intro x hx
    rcases List.mem_or_eq_of_mem_set hx with hx | rfl
    · exact h.byte x hx
    · exact xor_byte hzb (by omega)
  · rw [val_set c h.byte _ z _ hz (by omega), h.val, span_on hi hb, mul_xor, Nat.xor_assoc, ← Nat.pow_add]
    congr 3
    omega
theorem opn_turned {R : Nat} {l : List Qb.En} {c : List Nat} {T t room : Nat} (hd : Dt (blk (pushes R st0 l)) c T t room 32) (hne : c ≠ blk (pushes R st0 l)) : opn c = none := by
  cases h : opn c with
  | none => rfl
  | some x =>
    exfalso
    obtain ⟨h1, h2, h3, _⟩ := opn_is (r := x.1) (l := x.2) (by rw [h])
    have hs : span t room 32 < 4294967296 := Nat.lt_of_lt_of_le (span_lt _ _ _) (Nat.pow_le_pow_right (by omega) (Nat.min_le_left 32 _))
    have h0 := no_turned (r := R) (r' := x.1) (l := l) (l' := x.2) (a := T) (e := span t room 32) (by rw [h3]; exact hd.len) (by rw [h3]; exact hd.val) hs
    apply hne
    refine val_inj _ _ hd.byte (blk_byte R l) hd.len ?_
    rw [hd.val, h0]
    simp
theorem opn_part {R : Nat} {l : List Qb.En} {q : Nat} (hR : 1 ≤ R) (hok : ∀ e ∈ l, Ok e ∧ 0 ≤ e.2.1) (hb : (pushes R st0 l).b.length < 4294967296) (hq : q < (blk (pushes R st0 l)).length) : opn ((blk (pushes R st0 l)).take q) = none := by
  cases h : opn ((blk (pushes R st0 l)).take q) with
  | none => rfl
  | some x =>
    exfalso
    obtain ⟨h1, h2, h3, eb, h4⟩ := opn_is (r := x.1) (l := x.2) (by rw [h])
    have hok' : ∀ e ∈ x.2, Ok e ∧ 0 ≤ e.2.1 := fun e he => ⟨chain_ok h2 e he, by
      rw [h4] at he
      obtain ⟨y, hy, rfl⟩ := List.mem_map.1 he
      exact wk_nonneg _ eb [] (Nat.le_refl _) y hy⟩
    have := no_part hR h1 hok hok' hb (more := (blk (pushes R st0 l)).drop q) (by rw [h3, List.take_append_drop])
    have := congrArg List.length this
    rw [List.length_drop] at this
    simp at this
    omega
theorem _root_.Go.Proofs.YtnoipjeoclkeoabDoor.Opn.u32_wf {x : Int} (h : (Lit.int .u32 x).wf = true) : 0 ≤ x ∧ x < 4294967296 := by
  have h1 : IntKind.u32.min = 0 := rfl
  have h2 : IntKind.u32.max = 4294967295 := rfl
  simp only [Lit.wf, Bool.and_eq_true, decide_eq_true_eq] at h
  omega
theorem span_stop {t room j : Nat} (h1 : room ≤ j) (h2 : j ≤ 32) : span t room 32 = span t room j := by
  unfold span
  rw [Nat.min_eq_right (by omega), Nat.min_eq_right h1]
theorem Dt.stop {p c : List Nat} {T t room j : Nat} (h : Dt p c T t room j) (h1 : room ≤ j) (h2 : j ≤ 32) : Dt p c T t room 32 := ⟨h.byte, h.len, by rw [span_stop h1 h2]; exact h.val⟩
theorem own_at {T0 : Nat → Nat} {w3 w4 : World} {a4 : Option Addr} {L c4 : Nat} {B : List Nat} {T4 : Nat → Nat} (ho : OwnB 1 T4 w4 (.slice a4 L c4) B) (hg : Goes (· = 1) (fun _ => 0) w3 T4 w4) (hB : 0 < B.length) : ∃ g, a4 = some ⟨g, 0, none⟩ ∧ w3.heap.size ≤ g ∧ BRow w4 g 0 B ∧ (∀ j, w4.frozen? ⟨g, j, none⟩ = false) ∧ Below w3.heap.size w3 w4 ∧ L ≤ c4 ∧ c4 ≤ 9223372036854775807 := by
  obtain ⟨a, c, e, hi, hc, hn, hm, hb⟩ := ho.form
  simp only [Value.slice.injEq] at e
  obtain ⟨rfl, rfl, rfl⟩ := e
  obtain ⟨g, off, rfl, hr⟩ := hi.1 (by rintro rfl; simp at hB)
  obtain ⟨rfl, ht, hl⟩ := hb g off rfl
  refine ⟨g, rfl, ?_, hr, fun j => ?_, ⟨hg.os, hg.tape, hg.output, hg.size, fun b hb => hg.block b hb (by omega)⟩, hc, hm⟩
  · rcases Nat.lt_or_ge g w3.heap.size with h | h
    · have := hg.tag g h (by omega)
      rw [ht] at this; cases this
    · exact h
  · rcases ho.own.1.2 with ⟨h1, _⟩ | ⟨g', cap, cur, hv, _, hh, _⟩
    · cases h1
    · cases hv; exact froz_of_obj hh
set_option maxHeartbeats 4000000 in
theorem walk (w : World) (ht : Tab w) (r : Int) (hr : -9223372036854775808 ≤ r ∧ r ≤ 9223372036854775807) (a : Option Addr) (cap : Nat) (l : List Qb.En) (hl : Erw.IsE w a l) (hmx : (l.length : Int) ≤ 9223372036854775807) (hsz : ∀ e ∈ l, e.1.size ≤ maxLen ∧ e.2.2.2.size ≤ maxLen ∧ 0 ≤ e.2.1 ∧ e.2.1 ≤ 18446744073709551615)
    (at' : Int) (hat : -9223372036854775808 ≤ at' ∧ at' ≤ 9223372036854775807) (t' : Int) (ht' : 0 ≤ t' ∧ t' < 4294967296) (cut : Int) (hcut : -9223372036854775808 ≤ cut ∧ cut ≤ 9223372036854775807) :
    Calls Tryd.prog 4 #[.int .i64 r, .slice a l.length cap, .int .i64 at', .int .u32 t', .int .i64 cut] w fun e w' => e = .returned (.bool true) ∧ Below w.heap.size w w' := by
  obtain ⟨t, rfl⟩ : ∃ t : Nat, t' = (t : Int) := ⟨t'.toNat, by omega⟩
  have HT : Hid (Tab w) := ht
  have HL : Hid (Erw.IsE w a l ∧ ∀ e ∈ l, 0 ≤ e.2.1) := ⟨hl, fun e he => (hsz e he).2.2.1⟩
  have HR : Hid ((-9223372036854775808 ≤ r ∧ r ≤ 9223372036854775807) ∧ (-9223372036854775808 ≤ at' ∧ at' ≤ 9223372036854775807) ∧ (-9223372036854775808 ≤ cut ∧ cut ≤ 9223372036854775807)) := ⟨hr, hat, hcut⟩
  have HSM : Hid (Calls Tryd.prog 12 #[.slice a l.length cap] w fun r w' => Qg.SmIs w l r w') := Qg.small_any w a cap _ l rfl hmx hl (fun e he => ⟨(hsz e he).1, (hsz e he).2.1⟩)
  clear ht hl hr hsz hat hcut
  go_enter Tryd.func4, Tryd.ntmps4
  go_wp2_with (go_at_call 12; fail)
  refine HSM.out.mono ?_
  rintro e w1 ⟨⟨b, rfl, hbs⟩, hb1⟩
  have HB1 : Hid (Below w.heap.size w w1) := hb1
  dsimp only
  cases b with
  | false =>
    clear hbs hb1
    go_wp2
    go_ret
    exact ⟨rfl, HB1.out⟩
  | true =>
    obtain ⟨h200, hbulk⟩ := hbs rfl
    have hs := sz_of hbulk
    have HS : Hid (∀ e ∈ l, e.1.size ≤ 1000000 ∧ e.2.2.2.size ≤ 1000000 ∧ 0 ≤ e.2.1) := fun e he => ⟨by have := (hs e he).1; omega, by have := (hs e he).2; omega, HL.out.2 e he⟩
    have HT1 : Hid (Tab w1) := HT.out.below hb1 HT.out.lt
    clear hbs hb1 hbulk hs
    go_wp2_with (go_at_call 5; go_loud (refine (known_any w1 HT1.out).mono ?_; rintro e w2 ⟨rfl, hb2⟩; have HB2 : Hid (Below w.heap.size w w2) := HB1.out.trans (hb2.mono HB1.out.size); clear hb2))
    have HT2 : Hid (Tab w2) := HT.out.below HB2.out HT.out.lt
    refine (made_any w2 r a cap _ l HT2.out (HL.out.1.below HB2.out) rfl (by omega) HS.out HR.out.1).mono ?_
    rintro e w3 ⟨g3, c3, a3, d3, rfl, hg3, hlc3, hcm3, hib3, _, _, _, hb3⟩
    have HM : Hid (∀ e ∈ mds l, Ok e ∧ 0 ≤ e.2.1) := fun e he => ⟨chain_ok (mds_all l).1 e he, HL.out.2 e ((mds_all l).2.1 e he)⟩
    have HB3 : Hid (Below w.heap.size w w3) := HB2.out.trans (hb3.mono HB2.out.size)
    have HT3 : Hid (Tab w3) := HT.out.below HB3.out HT.out.lt
    have h1 := pushes_len (Rn r) (mds l) HM.out
    have h2 := pushes_plen (Rn r) (mds l) st0
    have z1 : st0.p.length = 0 := rfl
    have h3 := blk_len (pushes (Rn r) st0 (mds l))
    have h4 := (mds_all l).2.2
    have HBS : Hid ((pushes (Rn r) st0 (mds l)).b.length < 4294967296) := by show _ < _; omega
    have hb8 : ∀ x ∈ blk (pushes (Rn r) st0 (mds l)), x < 256 := blk_byte _ _
    have HTD : Hid (∀ c T room, Dt (blk (pushes (Rn r) st0 (mds l))) c T t room 32 → c ≠ blk (pushes (Rn r) st0 (mds l)) → opn c = none) := fun c T room hd hne => opn_turned hd hne
    have HPT : Hid (∀ q, q < (blk (pushes (Rn r) st0 (mds l))).length → opn ((blk (pushes (Rn r) st0 (mds l))).take q) = none) := fun q hq => opn_part (Rn_pos r) HM.out HBS.out hq
    have HOB : Hid (∃ x, opn (blk (pushes (Rn r) st0 (mds l))) = some x) := by
      obtain ⟨r', _, h5, _⟩ := opn_mk (Rn r) (mds l) (Rn_pos r) (mds_all l).1 (fun e he => (HM.out e he).2) (by omega) (by omega) (by omega)
      exact ⟨_, h5⟩
    have hL8 : 8 ≤ (blk (pushes (Rn r) st0 (mds l))).length := by omega
    have hL9 : (blk (pushes (Rn r) st0 (mds l))).length ≤ 1000000 := by omega
    clear HBS h1 h2 h3 h4 z1 HS HL HSM h200 HM hb3
    generalize blk (pushes (Rn r) st0 (mds l)) = B at *
    obtain ⟨L, hL⟩ : ∃ L, L = B.length := ⟨_, rfl⟩
    have HLL : Hid (L = B.length) := hL
    have HI3 : Hid (IsB w3 (some ⟨g3, 0, none⟩) B) := hib3
    rw [← hL] at hlc3 hL8 hL9 ⊢
    clear hL hib3
    have HG3 : Hid (w2.heap.size ≤ g3 ∧ g3 < w3.heap.size) := ⟨hg3, by
      obtain ⟨b, off, e, h⟩ := HI3.out.1 (by rintro rfl; have := HLL.out; simp at this; omega)
      cases e
      exact h.1⟩
    clear hg3
    have HPL : Hid (Calls Tryd.prog 13 #[.int .i64 at', .int .i64 (8 * (L : Int))] w3 fun e w' => (∃ q : Nat, e = .returned (.int .i64 (q : Int)) ∧ (q : Int) < 8 * (L : Int)) ∧ w' = w3) := place_any at' (8 * (L : Int)) w3 HR.out.2.1 (by omega) (by omega)
    dsimp only
    have hl0 : ¬ ((L : Int) = 0) := by omega
    have hl1 : ((L : Int) == 0) = false := by simpa using hl0
    go_wp2_with (go_at_call 13; fail)
    refine HPL.out.mono ?_
    rintro e w3' ⟨⟨T, rfl, hTL⟩, hw3⟩
    subst hw3
    have hTL2 : T < 8 * L := by omega
    clear hTL
    dsimp only
    go_wp2_with (at_builtin; go_loud (refine wpList_app8 _ (by rfl) (.const (.slice none 0 0)) (.tmp 44) (by rfl) 1 (fun _ => 0) (.slice none 0 0) [] (by rfl) (OwnB.empty _ _ _) (some ⟨g3, 0, none⟩) L c3 B (by rfl) HLL.out (by simp) HI3.out (by simp; have := HLL.out; omega) ?_; intro a4 c4 T4 w4 hown4 hgo4; simp only [List.length_nil, Nat.zero_add, List.nil_append] at hown4 ⊢; rw [← HLL.out] at hown4 ⊢; have HO4 : Hid (OwnB 1 T4 w4 (.slice a4 L c4) B ∧ Goes (· = 1) (fun _ => 0) w3' T4 w4) := ⟨hown4, hgo4⟩; clear hown4 hgo4))
    obtain ⟨g4, rfl, hg4, hrow4, hfz4, hbe4, hc4, hm4⟩ := own_at (T0 := fun _ => 0) HO4.out.1 HO4.out.2 (by have := HLL.out; omega)
    have HR4 : Hid (BRow w4 g4 0 B ∧ (∀ j, w4.frozen? ⟨g4, j, none⟩ = false) ∧ Below w3'.heap.size w3' w4) := ⟨hrow4, hfz4, hbe4⟩
    clear hrow4 hfz4 hbe4 HO4
    go_loopw [15] (fun i wr => ∃ (j : Nat) (c : List Nat), j ≤ 32 ∧ i = .int .i64 (j : Int) ∧ Hid (Dt B c T t (8 * L - T) j ∧ BRow wr g4 0 c ∧ (∀ q, wr.frozen? ⟨g4, q, none⟩ = false) ∧ Below w3'.heap.size w3' wr)) (fun i _ => 32 - (intOf i).toNat)
    case atStart => exact ⟨0, B, by omega, rfl, Dt.start hb8 _ _ _, HR4.out.1, HR4.out.2.1, HR4.out.2.2⟩
    case round =>
      obtain ⟨j, c, hj, rfl, HK⟩ := hrel
      rename World => wr
      by_cases hlt : j < 32
      · by_cases h1 : T + j < 8 * L
        · by_cases h2 : t / 2 ^ j % 2 = 1
          · have h8 : (T + j) / 8 < L := by omega
            have hcl : c.length = L := by rw [HK.out.1.len, HLL.out]
            obtain ⟨z, hz⟩ : ∃ z, c[(T + j) / 8]? = some z := ⟨_, List.getElem?_eq_getElem (by omega)⟩
            have hzb : z < 256 := HK.out.1.byte z (List.mem_of_getElem? hz)
            have c0 := HK.out.2.1.2 _ z hz
            rw [Nat.zero_add] at c0
            have f0 := HK.out.2.2.1 ((T + j) / 8)
            have HZ : Hid (c[(T + j) / 8]? = some z ∧ c.length = L) := ⟨hz, hcl⟩
            have g1 : (((t : Int) / 2 ^ j).tmod 2 == 1) = true := by
              rw [bit_mod, h2]; rfl
            clear hz hcl
            go_wp2_with fail
            go_roundw
            case rel =>
              exact ⟨j + 1, c.set ((T + j) / 8) (z ^^^ 2 ^ ((T + j) % 8)), by omega, by go_num, HK.out.1.on (by omega) h2 HZ.out.1, Byt.BRow.set HK.out.2.1 (by rw [HZ.out.2]; exact h8) _ _ (xorP hzb (by omega)), fun q => by rw [World.frozen?_setCell]; exact HK.out.2.2.1 q, HK.out.2.2.2.setCell (p := ⟨g4, (T + j) / 8, none⟩) hg4 _⟩
            case measure => simp [intOf]; omega
          · have g1 : (((t : Int) / 2 ^ j).tmod 2 == 1) = false := by
              rw [bit_mod]
              generalize t / 2 ^ j % 2 = q at *
              exact beq_eq_false_iff_ne.2 (by omega)
            go_wp2_with fail
            go_roundw
            case rel =>
              exact ⟨j + 1, c, by omega, by go_num, HK.out.1.off (fun _ => h2), HK.out.2.1, HK.out.2.2.1, HK.out.2.2.2⟩
            case measure => simp [intOf]; omega
        · -- left at the end of the bytes
          have HD32 : Hid (Dt B c T t (8 * L - T) 32) := HK.out.1.stop (by omega) hj
          have hclen : c.length = L := by rw [HD32.out.len, HLL.out]
          have HCL : Hid (c.length = L) := hclen
          have HTW : Hid (Tab wr) := HT3.out.below HK.out.2.2.2 HT3.out.lt
          have HIC : Hid (IsB wr (some ⟨g4, 0, none⟩) c) := IsB.some HK.out.2.1 HD32.out.byte
          have HOPC : Hid (Calls Tryd.prog 6 #[.slice (some ⟨g4, 0, none⟩) L c4] wr fun e w' => OpIs c wr e w') := open_any _ c4 L c wr HTW.out HIC.out HCL.out.symm hc4 hm4 (by omega) (by simp)
          have HOPP : Hid (∀ (W : World) (q : Nat), Below w3'.heap.size w3' W → q < L → Calls Tryd.prog 6 #[.slice (some ⟨g3, 0, none⟩) q c3] W fun e w' => e = .returned (.tuple #[.pointer none, .int .i64 91]) ∧ Below W.heap.size W w') := fun W q hb hq => by
            have hl := HLL.out
            refine (open_any _ c3 q (B.take q) W (HT3.out.below hb HT3.out.lt) ((HI3.out.below hb).take q) (by rw [List.length_take]; omega) (by omega) hcm3 (by rw [List.length_take]; omega) (by simp)).mono fun e w' h => ?_
            have h2 := h.2
            rw [HPT.out q (by omega)] at h2
            exact ⟨h2, h.1⟩
          have HPL2 : Hid (∀ W : World, Calls Tryd.prog 13 #[.int .i64 cut, .int .i64 (L : Int)] W fun e w' => (∃ q : Nat, e = .returned (.int .i64 (q : Int)) ∧ (q : Int) < (L : Int)) ∧ w' = W) := fun W => place_any cut (L : Int) W HR.out.2.2 (by omega) (by omega)
          have HBW : Hid (Below w3'.heap.size w3' wr) := HK.out.2.2.2
          clear hclen HK HPL
          by_cases hcB : c = B
          · subst hcB
            obtain ⟨x, hx⟩ := HOB.out
            have HOPC2 : Hid (Calls Tryd.prog 6 #[.slice (some ⟨g4, 0, none⟩) L c4] wr fun e w' => ∃ M, e = .returned (.tuple #[.pointer (some ⟨M, 3, none⟩), .int .i64 0]) ∧ Below wr.heap.size wr w') := HOPC.out.mono fun e w' h => by
              have h2 := h.2
              rw [hx] at h2
              obtain ⟨M, h3, _⟩ := h2
              exact ⟨M, h3, h.1⟩
            clear HOPC hx
            go_wp2_with (go_at_call 6; fail)
            refine HOPC2.out.mono ?_
            rintro e w5 ⟨M5, rfl, hb5⟩
            have HB5 : Hid (Below wr.heap.size wr w5) := hb5
            have HB35 : Hid (Below w3'.heap.size w3' w5) := HBW.out.trans (hb5.mono HBW.out.size)
            clear hb5
            dsimp only
            go_wp2_with (go_at_call 11; go_loud (refine (same_any (some ⟨g4, 0, none⟩) (some ⟨g3, 0, none⟩) c4 c3 L L c w5 (HIC.out.below HB5.out) (HI3.out.below HB35.out) (by have := HLL.out; omega) HLL.out HLL.out).mono ?_; rintro e w6 ⟨rfl, n6, hw6⟩; have HB36 : Hid (Below w3'.heap.size w3' w6) := (by rw [hw6]; exact below_drewN HB35.out _); clear hw6))
            refine (HPL2.out w6).mono ?_
            rintro e w6' ⟨⟨q, rfl, hq⟩, hw6⟩
            subst hw6
            have hqL : q < L := by omega
            have hqc : q ≤ c3 := by omega
            dsimp only
            go_wp2_with (first
              | (go_at_call 6; go_loud (refine (HOPP.out _ q HB36.out hqL).mono ?_; rintro e w7 ⟨rfl, hb7⟩; have HB37 : Hid (Below w3'.heap.size w3' w7) := HB36.out.trans (hb7.mono HB36.out.size); clear hb7))
              | (go_at_call 7; go_loud (refine (num_any _ _).mono ?_; rintro e w9 ⟨rfl, hw⟩; have hw2 := hw.symm; clear hw; subst hw2)))
            go_ret
            exact ⟨rfl, HB3.out.trans (HB37.out.mono HB3.out.size)⟩
          · have HOPC2 : Hid (Calls Tryd.prog 6 #[.slice (some ⟨g4, 0, none⟩) L c4] wr fun e w' => e = .returned (.tuple #[.pointer none, .int .i64 91]) ∧ Below wr.heap.size wr w') := HOPC.out.mono fun e w' h => by
              have h2 := h.2
              rw [HTD.out c T _ HD32.out hcB] at h2
              exact ⟨h2, h.1⟩
            have HNE : Hid (c ≠ B) := hcB
            clear HOPC hcB
            go_wp2_with (go_at_call 6; fail)
            refine HOPC2.out.mono ?_
            rintro e w5 ⟨rfl, hb5⟩
            have HB5 : Hid (Below wr.heap.size wr w5) := hb5
            have HB35 : Hid (Below w3'.heap.size w3' w5) := HBW.out.trans (hb5.mono HBW.out.size)
            clear hb5
            dsimp only
            go_wp2_with (first
              | (go_at_call 11; go_loud (refine (same_ne (some ⟨g4, 0, none⟩) (some ⟨g3, 0, none⟩) c4 c3 L L c B w5 (HIC.out.below HB5.out) (HI3.out.below HB35.out) (by have := HCL.out; omega) (by have := HCL.out; have := HLL.out; omega) HNE.out HCL.out.symm HCL.out.symm).mono ?_; rintro e w6 ⟨rfl, n6, hw6⟩; have HB36 : Hid (Below w3'.heap.size w3' w6) := (by rw [hw6]; exact below_drewN HB35.out _); clear hw6))
              | (go_at_call 7; go_loud (refine (num_any _ _).mono ?_; rintro e w9 ⟨rfl, hw⟩; have hw2 := hw.symm; clear hw; subst hw2)))
            refine (HPL2.out w6).mono ?_
            rintro e w6' ⟨⟨q, rfl, hq⟩, hw6⟩
            subst hw6
            have hqL : q < L := by omega
            have hqc : q ≤ c3 := by omega
            dsimp only
            go_wp2_with (first
              | (go_at_call 6; go_loud (refine (HOPP.out _ q HB36.out hqL).mono ?_; rintro e w7 ⟨rfl, hb7⟩; have HB37 : Hid (Below w3'.heap.size w3' w7) := HB36.out.trans (hb7.mono HB36.out.size); clear hb7))
              | (go_at_call 7; go_loud (refine (num_any _ _).mono ?_; rintro e w9 ⟨rfl, hw⟩; have hw2 := hw.symm; clear hw; subst hw2)))
            go_ret
            exact ⟨rfl, HB3.out.trans (HB37.out.mono HB3.out.size)⟩
      · obtain rfl : j = 32 := by omega
        have hj32 : ((32 : Nat) : Int) = 32 := rfl
        rw [hj32]
        have HD32 : Hid (Dt B c T t (8 * L - T) 32) := HK.out.1
        have hclen : c.length = L := by rw [HD32.out.len, HLL.out]
        have HCL : Hid (c.length = L) := hclen
        have HTW : Hid (Tab wr) := HT3.out.below HK.out.2.2.2 HT3.out.lt
        have HIC : Hid (IsB wr (some ⟨g4, 0, none⟩) c) := IsB.some HK.out.2.1 HD32.out.byte
        have HOPC : Hid (Calls Tryd.prog 6 #[.slice (some ⟨g4, 0, none⟩) L c4] wr fun e w' => OpIs c wr e w') := open_any _ c4 L c wr HTW.out HIC.out HCL.out.symm hc4 hm4 (by omega) (by simp)
        have HOPP : Hid (∀ (W : World) (q : Nat), Below w3'.heap.size w3' W → q < L → Calls Tryd.prog 6 #[.slice (some ⟨g3, 0, none⟩) q c3] W fun e w' => e = .returned (.tuple #[.pointer none, .int .i64 91]) ∧ Below W.heap.size W w') := fun W q hb hq => by
          have hl := HLL.out
          refine (open_any _ c3 q (B.take q) W (HT3.out.below hb HT3.out.lt) ((HI3.out.below hb).take q) (by rw [List.length_take]; omega) (by omega) hcm3 (by rw [List.length_take]; omega) (by simp)).mono fun e w' h => ?_
          have h2 := h.2
          rw [HPT.out q (by omega)] at h2
          exact ⟨h2, h.1⟩
        have HPL2 : Hid (∀ W : World, Calls Tryd.prog 13 #[.int .i64 cut, .int .i64 (L : Int)] W fun e w' => (∃ q : Nat, e = .returned (.int .i64 (q : Int)) ∧ (q : Int) < (L : Int)) ∧ w' = W) := fun W => place_any cut (L : Int) W HR.out.2.2 (by omega) (by omega)
        have HBW : Hid (Below w3'.heap.size w3' wr) := HK.out.2.2.2
        clear hclen HK HPL
        by_cases hcB : c = B
        · subst hcB
          obtain ⟨x, hx⟩ := HOB.out
          have HOPC2 : Hid (Calls Tryd.prog 6 #[.slice (some ⟨g4, 0, none⟩) L c4] wr fun e w' => ∃ M, e = .returned (.tuple #[.pointer (some ⟨M, 3, none⟩), .int .i64 0]) ∧ Below wr.heap.size wr w') := HOPC.out.mono fun e w' h => by
            have h2 := h.2
            rw [hx] at h2
            obtain ⟨M, h3, _⟩ := h2
            exact ⟨M, h3, h.1⟩
          clear HOPC hx
          go_wp2_with (go_at_call 6; fail)
          refine HOPC2.out.mono ?_
          rintro e w5 ⟨M5, rfl, hb5⟩
          have HB5 : Hid (Below wr.heap.size wr w5) := hb5
          have HB35 : Hid (Below w3'.heap.size w3' w5) := HBW.out.trans (hb5.mono HBW.out.size)
          clear hb5
          dsimp only
          go_wp2_with (go_at_call 11; go_loud (refine (same_any (some ⟨g4, 0, none⟩) (some ⟨g3, 0, none⟩) c4 c3 L L c w5 (HIC.out.below HB5.out) (HI3.out.below HB35.out) (by have := HLL.out; omega) HLL.out HLL.out).mono ?_; rintro e w6 ⟨rfl, n6, hw6⟩; have HB36 : Hid (Below w3'.heap.size w3' w6) := (by rw [hw6]; exact below_drewN HB35.out _); clear hw6))
          refine (HPL2.out w6).mono ?_
          rintro e w6' ⟨⟨q, rfl, hq⟩, hw6⟩
          subst hw6
          have hqL : q < L := by omega
          have hqc : q ≤ c3 := by omega
          dsimp only
          go_wp2_with (first
            | (go_at_call 6; go_loud (refine (HOPP.out _ q HB36.out hqL).mono ?_; rintro e w7 ⟨rfl, hb7⟩; have HB37 : Hid (Below w3'.heap.size w3' w7) := HB36.out.trans (hb7.mono HB36.out.size); clear hb7))
            | (go_at_call 7; go_loud (refine (num_any _ _).mono ?_; rintro e w9 ⟨rfl, hw⟩; have hw2 := hw.symm; clear hw; subst hw2)))
          go_ret
          exact ⟨rfl, HB3.out.trans (HB37.out.mono HB3.out.size)⟩
        · have HOPC2 : Hid (Calls Tryd.prog 6 #[.slice (some ⟨g4, 0, none⟩) L c4] wr fun e w' => e = .returned (.tuple #[.pointer none, .int .i64 91]) ∧ Below wr.heap.size wr w') := HOPC.out.mono fun e w' h => by
            have h2 := h.2
            rw [HTD.out c T _ HD32.out hcB] at h2
            exact ⟨h2, h.1⟩
          have HNE : Hid (c ≠ B) := hcB
          clear HOPC hcB
          go_wp2_with (go_at_call 6; fail)
          refine HOPC2.out.mono ?_
          rintro e w5 ⟨rfl, hb5⟩
          have HB5 : Hid (Below wr.heap.size wr w5) := hb5
          have HB35 : Hid (Below w3'.heap.size w3' w5) := HBW.out.trans (hb5.mono HBW.out.size)
          clear hb5
          dsimp only
          go_wp2_with (first
            | (go_at_call 11; go_loud (refine (same_ne (some ⟨g4, 0, none⟩) (some ⟨g3, 0, none⟩) c4 c3 L L c B w5 (HIC.out.below HB5.out) (HI3.out.below HB35.out) (by have := HCL.out; omega) (by have := HCL.out; have := HLL.out; omega) HNE.out HCL.out.symm HCL.out.symm).mono ?_; rintro e w6 ⟨rfl, n6, hw6⟩; have HB36 : Hid (Below w3'.heap.size w3' w6) := (by rw [hw6]; exact below_drewN HB35.out _); clear hw6))
            | (go_at_call 7; go_loud (refine (num_any _ _).mono ?_; rintro e w9 ⟨rfl, hw⟩; have hw2 := hw.symm; clear hw; subst hw2)))
          refine (HPL2.out w6).mono ?_
          rintro e w6' ⟨⟨q, rfl, hq⟩, hw6⟩
          subst hw6
          have hqL : q < L := by omega
          have hqc : q ≤ c3 := by omega
          dsimp only
          go_wp2_with (first
            | (go_at_call 6; go_loud (refine (HOPP.out _ q HB36.out hqL).mono ?_; rintro e w7 ⟨rfl, hb7⟩; have HB37 : Hid (Below w3'.heap.size w3' w7) := HB36.out.trans (hb7.mono HB36.out.size); clear hb7))
            | (go_at_call 7; go_loud (refine (num_any _ _).mono ?_; rintro e w9 ⟨rfl, hw⟩; have hw2 := hw.symm; clear hw; subst hw2)))
          go_ret
          exact ⟨rfl, HB3.out.trans (HB37.out.mono HB3.out.size)⟩
end BlockTurned
end Go.Proofs.YtnoipjeoclkeoabDoor
