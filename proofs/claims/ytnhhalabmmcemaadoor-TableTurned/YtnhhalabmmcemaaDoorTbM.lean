import Derived.Test.YtnhhalabmmcemaaDoorCBackM
import Derived.Test.YtnhhalabmmcemaaDoorSam
import Derived.Lib.FrozenHead
import Derived.Test.YtnhhalabmmcemaaDoorTaX
import Derived.Test.YtnhhalabmmcemaaDoorTg1
namespace Go.Proofs.YtnhhalabmmcemaaDoor
namespace CMath
set_option linter.unusedVariables false

theorem mul_xor (k x y : Nat) : 2 ^ k * (x ^^^ y) = 2 ^ k * x ^^^ 2 ^ k * y := by
  apply Nat.eq_of_testBit_eq
  intro i
  simp only [Nat.testBit_xor, Nat.testBit_two_pow_mul]
  by_cases h : k ≤ i <;> simp [h]
theorem pow_lt8 {r : Nat} (h : r < 8) : 2 ^ r < 256 := by
  have : (2 : Nat) ^ r ≤ 2 ^ 7 := Nat.pow_le_pow_right (by omega) (by omega)
  omega
theorem xor_byte {z r : Nat} (hz : z < 256) (hr : r < 8) : z ^^^ 2 ^ r < 256 := Nat.xor_lt_two_pow (n := 8) (by omega) (pow_lt8 hr)
/-- One bit turned. -/
theorem val_set (l : List Nat) (hl : ∀ x ∈ l, x < 256) : ∀ (i z r : Nat), l[i]? = some z → r < 8 → val (l.set i (z ^^^ 2 ^ r)) = val l ^^^ 2 ^ (8 * i + r) := by
  induction l with
  | nil => intro i z r h _; simp at h
  | cons c l ih =>
    intro i z r h hr
    have hc := hl c (by simp)
    cases i with
    | zero =>
      simp at h
      subst h
      simp only [List.set_cons_zero, val, Nat.mul_zero, Nat.zero_add]
      rw [show 256 * val l = 2 ^ 8 * val l from rfl, split_xor 8 _ _ (xor_byte hc hr), split_xor 8 _ _ (by omega), Nat.xor_assoc, Nat.xor_comm (2 ^ r), ← Nat.xor_assoc]
    | succ i =>
      simp at h
      simp only [List.set_cons_succ, val]
      rw [ih (fun x hx => hl x (by simp [hx])) i z r h hr]
      rw [show 256 * (val l ^^^ 2 ^ (8 * i + r)) = 2 ^ 8 * (val l ^^^ 2 ^ (8 * i + r)) from rfl, show 256 * val l = 2 ^ 8 * val l from rfl, mul_xor, ← Nat.pow_add]
      have hlt : c < 2 ^ 8 := by omega
      have e1 : c + (2 ^ 8 * val l ^^^ 2 ^ (8 + (8 * i + r))) = c ^^^ (2 ^ 8 * val l ^^^ 2 ^ (8 + (8 * i + r))) := by
        have : 2 ^ 8 * val l ^^^ 2 ^ (8 + (8 * i + r)) = 2 ^ 8 * (val l ^^^ 2 ^ (8 * i + r)) := by rw [mul_xor, ← Nat.pow_add]
        rw [this]
        exact split_xor 8 _ _ hlt
      rw [e1, split_xor 8 _ _ hlt, ← Nat.xor_assoc, show 8 + (8 * i + r) = 8 * (i + 1) + r by omega]
theorem take_set_ge {l : List Nat} {k i v : Nat} (h : k ≤ i) : (l.set i v).take k = l.take k := by
  rw [List.take_set]
  exact List.set_eq_of_length_le (by simp; omega)

/-- Which bits are turned when i of the span's have been gone through (room: so many lie in the frame). -/
def span (t room i : Nat) : Nat := t % 2 ^ min i room
theorem span_zero (t room : Nat) : span t room 0 = 0 := by simp [span, Nat.mod_one]
theorem span_lt (t room i : Nat) : span t room i < 2 ^ min i room := Nat.mod_lt _ (Nat.pow_pos (by omega))
theorem mod_succ (t i : Nat) : t % 2 ^ (i + 1) = t % 2 ^ i + 2 ^ i * (t / 2 ^ i % 2) := by
  rw [Nat.pow_succ, Nat.mod_mul]
theorem span_on {t room i : Nat} (h : i < room) (hb : t / 2 ^ i % 2 = 1) : span t room (i + 1) = span t room i ^^^ 2 ^ i := by
  unfold span
  rw [Nat.min_eq_left (by omega), Nat.min_eq_left (by omega), mod_succ, hb, Nat.mul_one]
  have := split_xor i (t % 2 ^ i) 1 (Nat.mod_lt _ (Nat.pow_pos (by omega)))
  rw [Nat.mul_one] at this
  exact this
theorem span_off {t room i : Nat} (h : i < room → t / 2 ^ i % 2 ≠ 1) : span t room (i + 1) = span t room i := by
  unfold span
  by_cases hr : i < room
  · have hb := h hr
    rw [Nat.min_eq_left (by omega), Nat.min_eq_left (by omega), mod_succ]
    have : t / 2 ^ i % 2 = 0 := by omega
    rw [this]; simp
  · rw [Nat.min_eq_right (by omega), Nat.min_eq_right (by omega)]
theorem span_ne {t room i : Nat} (h : i < room) (hb : t / 2 ^ i % 2 = 1) : span t room (i + 1) ≠ 0 := by
  unfold span
  rw [Nat.min_eq_left (by omega), mod_succ, hb]
  have : 0 < 2 ^ i := Nat.pow_pos (by omega)
  omega

/-- P2.8. -/
theorem damage {p c : List Nat} {m e : Nat} (hp : ∀ x ∈ p, x < 256) (hlen : p.length ≤ 262144) (hc : ∀ x ∈ c, x < 256) (hl : c.length = (frame p).length) (hk : c.take (num p.length).length = num p.length) (he : e < 4294967296) (he0 : e ≠ 0) (hv : val c = val (frame p) ^^^ 2 ^ m * e) : unframe c = ([], 0, 23) := by
  have hfl : (frame p).length = (num p.length).length + p.length + 4 := by simp [frame, four]; omega
  have hfb : ∀ x ∈ frame p, x < 256 := by
    intro x hx
    simp only [frame, List.mem_append] at hx
    rcases hx with (hx | hx) | hx
    · exact num_byte _ x hx
    · exact hp x hx
    · exact four_byte _ x hx
  have e0 : c = num p.length ++ c.drop (num p.length).length := by
    conv => lhs; rw [← List.take_append_drop (num p.length).length c, hk]
  have hr : rd c 0 0 = (p.length, (num p.length).length, 0) := by
    rw [e0]
    exact rd_words p.length _ (by omega)
  have hN : (frame p).length = ((num p.length).length + p.length) + 4 := by omega
  have r0 : rest ((num p.length).length + p.length) (frame p) = 0 := by
    rw [rest_zero hfb hN]
    have e2 : (frame p).drop ((num p.length).length + p.length) = four (crc (num p.length ++ p)) := by rw [frame, ← List.length_append, drop_len]
    have e3 : (frame p).take ((num p.length).length + p.length) = num p.length ++ p := by rw [frame, ← List.length_append, take_len]
    rw [e2, e3]
  have r1 := rest_diff hfb hc hN (by omega) (2 ^ m * e) hv
  rw [r0, Nat.zero_xor] at r1
  have r2 : rest ((num p.length).length + p.length) c ≠ 0 := by rw [r1]; exact burst he he0
  rw [Ne, rest_zero hc (by omega)] at r2
  unfold unframe
  rw [hr]
  simp only []
  have e4 : (c.drop ((num p.length).length + p.length)).take 4 = c.drop ((num p.length).length + p.length) := List.take_of_length_le (by simp; omega)
  rw [if_neg (by simp), if_neg (by omega), if_neg (by omega), e4, if_pos r2]

end CMath
end Go.Proofs.YtnhhalabmmcemaaDoor
namespace Go.Proofs.YtnhhalabmmcemaaDoor
namespace Byt
open Go.RowKit CMath Cod
set_option linter.unusedVariables false
theorem BRow.set {w : World} {g i : Nat} {l : List Nat} (h : BRow w g 0 l) (hi : i < l.length) (v : Nat) (z : Int) (hz : z = (v : Int)) : BRow (w.setCell ⟨g, i, none⟩ (.int .u8 z)) g 0 (l.set i v) := by
  subst hz
  refine ⟨by simpa using h.1, fun j x hx => ?_⟩
  by_cases hj : j = i
  · subst hj
    rw [List.getElem?_set_self hi] at hx
    simp at hx
    subst hx
    have := h.2 j _ (List.getElem?_eq_getElem hi)
    rw [Nat.zero_add] at this ⊢
    exact World.cell?_setCell_same _ _ _ this
  · rw [List.getElem?_set_ne (Ne.symm hj)] at hx
    rw [World.cell?_setCell_other _ _ _ _ (fun e => by simp only [Addr.mk.injEq] at e; omega)]
    exact h.2 j x hx
theorem New.at {T base : Nat} {w : World} {a : Option Addr} {c : Nat} {l : List Nat} (h : Cod.New T base w a c l) (hl : 0 < l.length) : ∃ g, a = some ⟨g, 0, none⟩ ∧ base ≤ g ∧ BRow w g 0 l ∧ ∀ j, w.frozen? ⟨g, j, none⟩ = false := by
  rcases h.row.2 with ⟨_, h0⟩ | ⟨g, cap, cur, hv, hg, hh, _⟩
  · omega
  · cases hv
    exact ⟨g, rfl, hg, row_of_own h.row rfl, fun j => Lib.frozen_of_heap hh _⟩
end Byt
end Go.Proofs.YtnhhalabmmcemaaDoor
namespace Go.Proofs.YtnhhalabmmcemaaDoor
namespace TableTurned
open Go.RowKit CMath Byt Laws Irw Crw Cod Qb Tbl
set_option linter.unusedVariables false
set_option linter.unusedSimpArgs false
set_option maxRecDepth 100000

theorem bit_mod (t j : Nat) : ((t : Int) / 2 ^ j).tmod 2 = ((t / 2 ^ j % 2 : Nat) : Int) := by
  have e : (t : Int) / 2 ^ j = ((t / 2 ^ j : Nat) : Int) := by simp
  rw [e]
  generalize t / 2 ^ j = q
  rw [Int.tmod_eq_emod_of_nonneg (by omega)]
  omega
theorem xorP {z r : Nat} (hz : z < 256) (hr : r < 8) : bits .xor .u8 (z : Int) ((2 : Int) ^ r % 256) = ((z ^^^ 2 ^ r : Nat) : Int) := by
  have h := pow_lt8 hr
  have e : (2 : Int) ^ r % 256 = ((2 ^ r : Nat) : Int) := by
    have e1 : (2 : Int) ^ r = ((2 ^ r : Nat) : Int) := by simp
    rw [e1]
    generalize 2 ^ r = q at *
    omega
  rw [e]
  exact u8_xor_nat z (2 ^ r) hz h
/-- The bytes when i bits of the span have been gone through. -/
structure Dt (p c : List Nat) (T t room i : Nat) : Prop where
  byte : ∀ x ∈ c, x < 256
  len : c.length = p.length
  val : CMath.val c = CMath.val p ^^^ 2 ^ T * span t room i
theorem Dt.start {p : List Nat} (hp : ∀ x ∈ p, x < 256) (T t room : Nat) : Dt p p T t room 0 := ⟨hp, rfl, by rw [span_zero]; simp⟩
theorem Dt.off {p c : List Nat} {T t room i : Nat} (h : Dt p c T t room i) (hb : i < room → t / 2 ^ i % 2 ≠ 1) : Dt p c T t room (i + 1) :=
  ⟨h.byte, h.len, by rw [span_off hb]; exact h.val⟩
theorem Dt.on {p c : List Nat} {T t room i z : Nat} (h : Dt p c T t room i) (hi : i < room) (hb : t / 2 ^ i % 2 = 1) (hz : c[(T + i) / 8]? = some z) : Dt p (c.set ((T + i) / 8) (z ^^^ 2 ^ ((T + i) % 8))) T t room (i + 1) := by
  have hzb := h.byte z (List.mem_of_getElem? hz)
  refine ⟨?_, by rw [List.length_set]; exact h.len, ?_⟩
  · intro x hx
    rcases List.mem_or_eq_of_mem_set hx with hx | rfl
    · exact h.byte x hx
    · exact xor_byte hzb (by omega)
  · rw [val_set c h.byte _ z _ hz (by omega), h.val, span_on hi hb, mul_xor, Nat.xor_assoc, ← Nat.pow_add]
    congr 3
    omega
theorem _root_.Go.Proofs.YtnhhalabmmcemaaDoor.Opn.u32_wf {x : Int} (h : (Lit.int .u32 x).wf = true) : 0 ≤ x ∧ x < 4294967296 := by
  have h1 : IntKind.u32.min = 0 := rfl
  have h2 : IntKind.u32.max = 4294967295 := rfl
  simp only [Lit.wf, Bool.and_eq_true, decide_eq_true_eq] at h
  omega
theorem span_stop {t room j : Nat} (h1 : room ≤ j) (h2 : j ≤ 32) : span t room 32 = span t room j := by
  unfold span
  rw [Nat.min_eq_right (by omega), Nat.min_eq_right h1]
theorem Dt.stop {p c : List Nat} {T t room j : Nat} (h : Dt p c T t room j) (h1 : room ≤ j) (h2 : j ≤ 32) : Dt p c T t room 32 := ⟨h.byte, h.len, by rw [span_stop h1 h2]; exact h.val⟩

/-- A table's bytes of which some bits are turned don't end in their sum. -/
theorem bad_sum {x y c : List Nat} {T t room : Nat} (hB : ∀ b ∈ x ++ y, b < 256) (hy : y = four (crc x)) (hd : Dt (x ++ y) c T t room 32) (hs : span t room 32 ≠ 0) : ∃ x' y', c = x' ++ y' ∧ x'.length = x.length ∧ y'.length = 4 ∧ four (crc x') ≠ y' := by
  have hy4 : y.length = 4 := by rw [hy]; rfl
  have hl : (x ++ y).length = x.length + 4 := by rw [List.length_append, hy4]
  have hcl : c.length = x.length + 4 := by rw [hd.len, hl]
  refine ⟨c.take x.length, c.drop x.length, (List.take_append_drop _ _).symm, by rw [List.length_take]; omega, by rw [List.length_drop]; omega, fun he => ?_⟩
  have z2 := (rest_zero hd.byte hcl).2 he.symm
  have z1 := (rest_zero hB hl).2 (by rw [List.drop_left, List.take_left]; exact hy)
  have hlt : span t room 32 < 4294967296 := Nat.lt_of_lt_of_le (span_lt _ _ _) (Nat.pow_le_pow_right (by omega) (Nat.min_le_left 32 _))
  have := rest_diff (N := x.length) hB hd.byte hl hcl _ hd.val
  rw [z1, z2] at this
  simp at this
  exact burst hlt hs this.symm
theorem same_sum {B c : List Nat} {T t room : Nat} (hB : ∀ b ∈ B, b < 256) (hd : Dt B c T t room 32) (hs : span t room 32 = 0) : c = B := by
  refine val_inj _ _ hd.byte hB hd.len ?_
  rw [hd.val, hs]
  simp
/-- How many bits have been turned. -/
structure Dk (B c : List Nat) (T t room j k : Nat) : Prop where
  dt : Dt B c T t room j
  le : k ≤ j
  iff : k = 0 ↔ span t room j = 0
theorem Dk.start {p : List Nat} (hp : ∀ x ∈ p, x < 256) (T t room : Nat) : Dk p p T t room 0 0 := ⟨Dt.start hp _ _ _, Nat.le_refl _, by rw [span_zero]⟩
theorem Dk.off {p c : List Nat} {T t room i k : Nat} (h : Dk p c T t room i k) (hb : i < room → t / 2 ^ i % 2 ≠ 1) : Dk p c T t room (i + 1) k :=
  ⟨h.dt.off hb, by have := h.le; omega, by rw [span_off hb]; exact h.iff⟩
theorem Dk.on {p c : List Nat} {T t room i k z : Nat} (h : Dk p c T t room i k) (hi : i < room) (hb : t / 2 ^ i % 2 = 1) (hz : c[(T + i) / 8]? = some z) : Dk p (c.set ((T + i) / 8) (z ^^^ 2 ^ ((T + i) % 8))) T t room (i + 1) (k + 1) :=
  ⟨h.dt.on hi hb hz, by have := h.le; omega, ⟨fun e => by omega, fun e => absurd e (span_ne hi hb)⟩⟩
theorem Dk.stop {p c : List Nat} {T t room j k : Nat} (h : Dk p c T t room j k) (h1 : room ≤ j) (h2 : j ≤ 32) : Dk p c T t room 32 k := ⟨h.dt.stop h1 h2, by have := h.le; omega, by rw [span_stop h1 h2]; exact h.iff⟩

theorem sz_of {l : List Qg.En} (h : (l.map Qg.bulkE).sum ≤ 65536) : ∀ e ∈ l, e.1.size ≤ 65536 ∧ e.2.2.2.size ≤ 65536 := fun e he => by
  have h1 := Qg.sum_mem he
  have h2 : Qg.bulkE e = 1 + e.1.size + e.2.2.2.size := rfl
  omega
/-- What Open answers, of these bytes at this place, and of them with bits turned. -/
def OpB (g N c : Nat) (B : List Nat) : Prop := ∀ (W : World) (b : List Nat) (T t room k : Nat), Dk B b T t room 32 k → IsB W (some ⟨g, 0, none⟩) b → Tab W →
  Calls Tryd.prog 10 #[.slice (some ⟨g, 0, none⟩) N c] W fun e w' => Below W.heap.size W w' ∧ ((k = 0 ∧ ∃ M, e = .returned (.tuple #[.pointer (some ⟨M, 0, none⟩), .int .i64 0])) ∨ (k ≠ 0 ∧ e = .returned (.tuple #[.pointer none, .int .i64 103])))
/-- What made answers, as this statement looks at it. -/
def MtIs (w : World) (e : Ending) (w' : World) : Prop := Below w.heap.size w w' ∧ ((∃ m : Mt, e = .returned (.tuple #[.slice none 0 0, .slice none 0 0, .agg #[.int .u64 0, .int .i64 m.wt, .int .i64 m.by_, .int .i64 (m.n : Int), .string m.lo, .string m.hi], .bool true])) ∨
  ∃ g c a' c' N n B, ∃ m : Mt, e = .returned (.tuple #[.slice (some ⟨g, 0, none⟩) N c, .slice a' n c', .agg #[.int .u64 0, .int .i64 m.wt, .int .i64 m.by_, .int .i64 (m.n : Int), .string m.lo, .string m.hi], .bool true]) ∧ N = B.length ∧ 0 < n ∧ n ≤ 300 ∧ 9 ≤ N ∧ N ≤ 1000000000 ∧ w.heap.size ≤ g ∧ g < w'.heap.size ∧ BRow w' g 0 B ∧ (∀ j, w'.frozen? ⟨g, j, none⟩ = false) ∧ (∀ x ∈ B, x < 256) ∧ OpB g N c B)
theorem mt_of {w : World} {bb r bits : Int} {l : List En} {e : Ending} {w' : World} (hn : l.length ≤ 300) (h : MdT w bb r bits l e w') : MtIs w e w' := by
  obtain ⟨hb, h | h⟩ := h
  · obtain ⟨_, m, hm⟩ := h
    exact ⟨hb, .inl ⟨m, hm⟩⟩
  · obtain ⟨hne, L, css, T, a, c, a', c', m, hm, he, hi, hf, ho, hoe, hT, hhi⟩ := h
    have hml : (mds l).length ≤ 300 := Nat.le_trans (mds_all l).2.2 hn
    have hwl := whole_len hi (by rw [hf]; omega)
    rw [hf] at hwl
    have hcs : css ≠ [] := by intro z; rw [z] at hf; exact hne (by simpa using hf.symm)
    have hW : Wh (Rn r) bits L css := ⟨hi, Rn_pos r, hcs, by rw [hf]; omega⟩
    have hx5 : 5 ≤ (whole0 bits L).length := by
      unfold whole0 foot
      simp only [List.length_append, List.length_cons, List.length_nil]
      omega
    have hwl4 : (whole bits L).length = (whole0 bits L).length + 4 := by unfold Tbl.whole; rw [List.length_append]; rfl
    have hfz := ho.own.1.2
    obtain ⟨x, c9, e9, hi9, hc9, _, hm9, hb9⟩ := ho.form
    simp only [Value.slice.injEq] at e9
    obtain ⟨rfl, _, rfl⟩ := e9
    obtain ⟨g, off, rfl, hr⟩ := hi9.1 (by intro z; rw [z] at hwl4; simp at hwl4)
    obtain ⟨rfl, ht, hl⟩ := hb9 g off rfl
    have hg : w.heap.size ≤ g := by
      rcases Nat.lt_or_ge g w.heap.size with h | h
      · have := hT g h
        rw [ht] at this; cases this
      · exact h
    refine ⟨hb, .inr ⟨g, c, a', c', _, _, whole bits L, m, he, rfl, List.length_pos_iff.2 hne, hml, by omega, by omega, hg, hr.1, hr, ?_, hi9.2, ?_⟩⟩
    · intro j
      rcases hfz with ⟨h1, _⟩ | ⟨g', cap, cur, hv, _, hh, _⟩
      · cases h1
      · cases hv; exact froz_of_obj hh
    · intro W b T' t room k hk hib htb
      by_cases h0 : k = 0
      · have hbe := same_sum hi9.2 hk.dt (hk.iff.1 h0)
        rw [hbe] at hib
        refine (open_ok g 0 _ c (Rn r) bits L css W hW hib rfl hc9 hm9 htb).mono fun e w' h => ?_
        obtain ⟨M, _, _, _, h1, _, _, _, h2⟩ := h
        exact ⟨h2, .inl ⟨h0, M, h1⟩⟩
      · obtain ⟨x', y', hc', hx', hy', hs'⟩ := bad_sum (x := whole0 bits L) (y := four (crc (whole0 bits L))) hi9.2 rfl hk.dt (fun z => h0 (hk.iff.2 z))
        rw [hc'] at hib
        refine (open_bad g 0 _ c x' y' W hib hy' (by omega) (by rw [hwl4, hx']) hc9 hm9 htb hs').mono fun e w' h => ⟨h.2, .inr ⟨h0, h.1⟩⟩
end TableTurned
end Go.Proofs.YtnhhalabmmcemaaDoor
