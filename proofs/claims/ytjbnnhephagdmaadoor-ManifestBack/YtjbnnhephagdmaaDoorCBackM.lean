import Derived.Test.YtjbnnhephagdmaaDoorProg
import Derived.Test.YtjbnnhephagdmaaDoorByt
import Derived.WalkKit
import Derived.WalkSpells
import Derived.WalkLawsBesides
import Derived.Deep.QuietTactic
import Derived.BigQuiet
import Derived.Test.YtjbnnhephagdmaaDoorCMath
namespace Go.Proofs.YtjbnnhephagdmaaDoor
namespace Cod
open Go.RowKit CMath Byt
set_option linter.unusedVariables false
set_option maxRecDepth 20000

theorem info8 : (Tryd.prog.info? 5).map (fun i => (i.zero, i.size, i.bytes)) = some (some (.int .u8 0), 1, 1) := by kernel_rfl

theorem below_of {base : Nat} {w w1 w' : World} {row : Option Nat} (h : Below base w w1) (hg : w1.grownBy w' row) (hb : base ≤ w.heap.size) (hr : ∀ k, row = some k → base ≤ k) : Below base w w' :=
  h.grown hg (Nat.le_trans hb h.size) hr

set_option maxHeartbeats 1000000 in
theorem grown_any (a : Option Addr) (cap k : Nat) (l : List Nat) (w : World) (h : IsB w a l) (hn : a = none → cap = 0) (hk : l.length + k ≤ 140737488355328) :
    Calls Tryd.prog 70 #[.slice a l.length cap, .int .i64 k] w fun e w' => ∃ v, e = .returned v ∧ Own 5 w.heap.size w' v l ∧ Below w.heap.size w w' := by
  obtain ⟨i8, hi, hz0, hz1, hz2⟩ := info_parts info8
  have HI : Hid (IsB w a l) := h
  have HN : Hid (a = none → cap = 0) := hn
  clear h hn
  go_enter Tryd.func70, Tryd.ntmps70
  go_wp2_with (first | (at_make; refine wpList_make_own _ rfl _ _ 35 rfl w.heap.size 5 i8 _ 1 Tryd.underlying35 hi hz0 hz1 _ _ _ (l.length + k) rfl rfl (by omega) (by rw [hz2]; omega) (by unfold maxLen; omega) (Nat.le_refl _) ?_; intro w1 hown1 hgr1; have HG1 : Hid (w.grownBy w1 none) := hgr1; have HO1 : Hid (w1.ownsRow w.heap.size 5 1 _ 0 []) := hown1; clear hgr1 hown1; have HB1 : Hid (Below w.heap.size w w1) := below_of (Below.refl _ _) HG1.out (Nat.le_refl _) (by simp); have HI1 : Hid (IsB w1 a l) := HI.out.below HB1.out) | (at_builtin; refine wpList_appB (by rfl) (.tmp 9) (.tmp 10) 35 (by rfl) w.heap.size 5 i8 Tryd.underlying35 hi hz0 hz1 hz2 _ [] 0 (by rfl) HO1.out a l.length cap l (by rfl) rfl HN.out HI1.out (by omega) HB1.out.size ?_; intro v2 w2 hown2 hgr2 hnn2; have HG2 : Hid (w1.grownBy w2 _) := hgr2; have HO2 : Hid (w2.ownsRow w.heap.size 5 1 v2 (0 + l.length) (cellsB l)) := hown2; have HNN : Hid (v2 ≠ .slice none 0 0) := hnn2 (by simp); clear hgr2 hown2 hnn2))
  go_ret
  exact ⟨v2, rfl, Own.mk' HO2.out HI.out.2 HNN.out, below_of HB1.out HG2.out (Nat.le_refl _) (fun j hj => (HO1.out.lt j hj).1)⟩

theorem grown_int (a : Option Addr) (cap k : Nat) (K : Int) (l : List Nat) (w : World) (hK : K = k) (h : IsB w a l) (hn : a = none → cap = 0) (hk : l.length + k ≤ 140737488355328) :
    Calls Tryd.prog 70 #[.slice a l.length cap, .int .i64 K] w fun e w' => ∃ v, e = .returned v ∧ Own 5 w.heap.size w' v l ∧ Below w.heap.size w w' := by
  subst hK
  exact grown_any a cap k l w h hn hk

theorem quo128 (m : Nat) : (m : Int) / 128 = ((m / 128 : Nat) : Int) := by omega
theorem shr7 (m : Nat) : (m : Int) / 2 ^ 7 = ((m / 128 : Nat) : Int) := by omega

set_option maxHeartbeats 1000000 in
theorem appendUint_any (base : Nat) (v : Value) (pre : List Nat) (n : Nat) (w : World) (hown : w.ownsRow base 5 1 v pre.length (cellsB pre)) (hpre : ∀ x ∈ pre, x < 256) (hn : n < 18446744073709551616) (hbase : base ≤ w.heap.size) (hk : pre.length + 10 ≤ 140737488355328) :
    Calls Tryd.prog 69 #[v, .int .u64 n] w fun e w' => ∃ v, e = .returned v ∧ Own 5 base w' v (pre ++ num n) ∧ Below base w w' := by
  obtain ⟨i8, hi, hz0, hz1, hz2⟩ := info_parts info8
  have h10 := num_le10 hn
  have HO : Hid (w.ownsRow base 5 1 v pre.length (cellsB pre)) := hown
  have HP : Hid (∀ x ∈ pre, x < 256) := hpre
  clear hown hpre
  go_enter Tryd.func69, Tryd.ntmps69
  go_wp2
  go_loopw [0, 1] (fun v i wr => ∃ (q : List Nat) (m : Nat), q ++ num m = pre ++ num n ∧ i = .int .u64 m ∧ m < 18446744073709551616 ∧ wr.ownsRow base 5 1 v q.length (cellsB q) ∧ Below base w wr) (fun _ i _ => (intOf i).toNat)
  case atStart => exact ⟨pre, n, rfl, rfl, hn, HO.out, Below.refl _ _⟩
  case round =>
    obtain ⟨q, m, hq, rfl, hm, hown, hbe⟩ := hrel
    have hsz := hbe.size
    have HQ : Hid (q ++ num m = pre ++ num n) := hq
    have hlen : q.length + (num m).length = pre.length + (num n).length := by simpa using congrArg List.length hq
    have hpos := num_pos m
    have HW : Hid (wr.ownsRow base 5 1 _ q.length (cellsB q)) := hown
    have HB : Hid (Below base w wr) := hbe
    clear hq hown hbe
    by_cases hlt : m < 128
    · have e1 : num m = [m] := num_small hlt
      go_wp2_with (at_builtin; refine wpList_appB (by rfl) (.tmp 15) (.tmp 18) 35 (by rfl) base 5 i8 Tryd.underlying35 hi hz0 hz1 hz2 _ q q.length (by rfl) (HW.out.alloc _) (some ⟨wr.heap.size, 0, none⟩) 1 1 [m] (by rfl) rfl (by simp) (isB_new (by omega) (by omega)) (by omega) (by simp; omega) ?_; intro v2 w2 hown2 hgr2 hnn2; have HG2 : Hid ((wr.alloc _).grownBy w2 _) := hgr2; have HO2 : Hid (w2.ownsRow base 5 1 v2 (q.length + 1) (cellsB (q ++ [m]))) := hown2; clear hgr2 hown2 hnn2)
      go_ret
      have hall : ∀ x ∈ pre ++ num n, x < 256 := by
        intro x hx
        rcases List.mem_append.1 hx with hx | hx
        · exact HP.out x hx
        · exact num_byte n x hx
      refine ⟨v2, rfl, ?_, below_of (HB.out.alloc (by omega) _) HG2.out (by omega) (fun j hj => (HW.out.lt j hj).1)⟩
      rw [← HQ.out, e1] at hall ⊢
      exact Own.pos HO2.out hall (by omega)
    · have e1 : num m = (m % 128 + 128) :: num (m / 128) := num_great hlt
      go_wp2_with (at_builtin; refine wpList_appB (by rfl) (.tmp 7) (.tmp 11) 35 (by rfl) base 5 i8 Tryd.underlying35 hi hz0 hz1 hz2 _ q q.length (by rfl) (HW.out.alloc _) (some ⟨wr.heap.size, 0, none⟩) 1 1 [m % 128 + 128] (by rfl) rfl (by simp) (isB_new (or128 m) (by omega)) (by omega) (by simp; omega) ?_; intro v2 w2 hown2 hgr2 hnn2; have HG2 : Hid ((wr.alloc _).grownBy w2 _) := hgr2; have HO2 : Hid (w2.ownsRow base 5 1 v2 (q.length + 1) (cellsB (q ++ [m % 128 + 128]))) := hown2; clear hgr2 hown2 hnn2)
      go_roundw
      case rel =>
        refine ⟨q ++ [m % 128 + 128], m / 128, ?_, by rw [quo128], by omega, by simpa using HO2.out, below_of (HB.out.alloc (by omega) _) HG2.out (by omega) (fun j hj => (HW.out.lt j hj).1)⟩
        rw [← HQ.out, e1]; simp
      case measure => simp [intOf]; omega


set_option maxHeartbeats 1000000 in
theorem putUint_any (a : Option Addr) (cap : Nat) (l : List Nat) (n : Nat) (w : World) (h : IsB w a l) (hc : a = none → cap = 0) (hk : l.length + 10 ≤ 140737488355328) (hn : n < 18446744073709551616) :
    Calls Tryd.prog 55 #[.slice a l.length cap, .int .u64 n] w fun e w' => ∃ v, e = .returned v ∧ Own 5 w.heap.size w' v (l ++ num n) ∧ Below w.heap.size w w' := by
  have HI : Hid (IsB w a l) := h
  have HN : Hid (a = none → cap = 0) := hc
  clear h hc
  go_enter Tryd.func55, Tryd.ntmps55
  go_wp2_with (first | (go_at_call 70; refine (grown_int a cap 10 _ l w rfl HI.out HN.out hk).mono ?_; rintro e w1 ⟨v1, rfl, ho1, hb1⟩; have HO1 : Hid (Own 5 w.heap.size w1 v1 l) := ho1; have HB1 : Hid (Below w.heap.size w w1) := hb1; clear ho1 hb1) | (go_at_call 69; refine (appendUint_any w.heap.size v1 l n w1 HO1.out.row HO1.out.byte hn HB1.out.size hk).mono ?_; rintro e w2 ⟨v2, rfl, ho2, hb2⟩; have HO2 : Hid (Own 5 w.heap.size w2 v2 (l ++ num n)) := ho2; have HB2 : Hid (Below w.heap.size w1 w2) := hb2; clear ho2 hb2))
  go_ret
  exact ⟨v2, rfl, HO2.out, HB1.out.trans HB2.out⟩

theorem putUint_n (a : Option Addr) (cap m : Nat) (l : List Nat) (n : Nat) (w : World) (h : IsB w a l) (hc : a = none → cap = 0) (hk : l.length + 10 ≤ 140737488355328) (hn : n < 18446744073709551616) (hm : m = l.length) :
    Calls Tryd.prog 55 #[.slice a m cap, .int .u64 n] w fun e w' => ∃ v, e = .returned v ∧ Own 5 w.heap.size w' v (l ++ num n) ∧ Below w.heap.size w w' := by
  subst hm
  exact putUint_any a cap l n w h hc hk hn

end Cod
end Go.Proofs.YtjbnnhephagdmaaDoor
namespace Go.Proofs.YtjbnnhephagdmaaDoor
namespace Cod
open Go.RowKit CMath Byt
set_option linter.unusedVariables false
set_option maxRecDepth 20000

/-- A slice of bytes of the call's own, which may be nil. -/
structure New (T base : Nat) (w : World) (a : Option Addr) (c : Nat) (l : List Nat) : Prop where
  row : w.ownsRow base T 1 (.slice a l.length c) l.length (cellsB l)
  byte : ∀ x ∈ l, x < 256
theorem New.of {T base : Nat} {w : World} {v : Value} {n : Nat} {l : List Nat} (h : w.ownsRow base T 1 v n (cellsB l)) (hl : ∀ x ∈ l, x < 256) : ∃ a c, v = .slice a l.length c ∧ New T base w a c l := by
  obtain ⟨hn, ⟨h1, h2⟩ | ⟨g, c, h1, _⟩⟩ := isB_of_own h hl
  · refine ⟨none, 0, by rw [h1, h2]; rfl, ⟨?_, hl⟩⟩
    rw [hn] at h
    rw [h1] at h
    rw [h2] at h ⊢
    exact h
  · refine ⟨some ⟨g, 0, none⟩, c, by rw [h1, hn], ⟨?_, hl⟩⟩
    rw [h1, hn] at h
    exact h
theorem New.isB {T base : Nat} {w : World} {a : Option Addr} {c : Nat} {l : List Nat} (h : New T base w a c l) : IsB w a l := by
  obtain ⟨hn, ⟨h1, h2⟩ | ⟨g, c, h1, _, _, h3⟩⟩ := isB_of_own h.row h.byte
  · rw [h2]; exact IsB.nil _ _
  · cases h1
    exact IsB.some h3 h.byte
theorem New.cap {T base : Nat} {w : World} {a : Option Addr} {c : Nat} {l : List Nat} (h : New T base w a c l) : a = none → c = 0 := by
  intro e
  subst e
  rcases h.row.2 with ⟨h1, _⟩ | ⟨g, c, cur, h1, _⟩
  · simp at h1; exact h1.2
  · simp at h1
theorem New.le {T base : Nat} {w : World} {a : Option Addr} {c : Nat} {l : List Nat} (h : New T base w a c l) : l.length ≤ c := by
  rcases h.row.2 with ⟨h1, h2⟩ | ⟨g, c, cur, h1, _, _, h5, _⟩
  · omega
  · cases h1; exact h5
theorem New.max {T base : Nat} {w : World} {a : Option Addr} {c : Nat} {l : List Nat} (h : New T base w a c l) : c ≤ 9223372036854775807 := by
  rcases h.row.2 with ⟨h1, h2⟩ | ⟨g, c, cur, h1, _, _, _, h5, _⟩
  · simp at h1; omega
  · cases h1; exact h5
theorem New.below {T base : Nat} {w w' : World} {a : Option Addr} {c : Nat} {l : List Nat} (h : New T base w a c l) (hb : Below w.heap.size w w') : New T base w' a c l := by
  refine ⟨⟨h.row.1, ?_⟩, h.byte⟩
  rcases h.row.2 with h2 | ⟨g, cap, cur, hv, hg, hh, hr⟩
  · exact .inl h2
  · exact .inr ⟨g, cap, cur, hv, hg, (hb.block g (h.row.lt g (by rw [hv]; rfl)).2).trans hh, hr⟩
theorem New.lower {T base base' : Nat} {w : World} {a : Option Addr} {c : Nat} {l : List Nat} (h : New T base w a c l) (hb : base' ≤ base) : New T base' w a c l := by
  refine ⟨⟨h.row.1, ?_⟩, h.byte⟩
  rcases h.row.2 with h2 | ⟨g, cap, cur, hv, hg, hr⟩
  · exact .inl h2
  · exact .inr ⟨g, cap, cur, hv, by omega, hr⟩
theorem New.ofOwn {T base : Nat} {w : World} {v : Value} {l : List Nat} (h : Own T base w v l) : ∃ a c, v = .slice a l.length c ∧ New T base w a c l := New.of h.row h.byte

theorem byte_app {l r : List Nat} (hl : ∀ x ∈ l, x < 256) (hr : ∀ x ∈ r, x < 256) : ∀ x ∈ l ++ r, x < 256 := by
  intro x hx
  rcases List.mem_append.1 hx with hx | hx
  · exact hl x hx
  · exact hr x hx

end Cod
end Go.Proofs.YtjbnnhephagdmaaDoor
namespace Go.Proofs.YtjbnnhephagdmaaDoor
namespace CMath
set_option linter.unusedVariables false

theorem rd_words (n : Nat) (more : List Nat) (h : n < 18446744073709551616) : rd (num n ++ more) 0 0 = (n, (num n).length, 0) := by
  rw [rd_num more n 0 0 (by simpa using h) (by omega)]; simp
theorem rd_ok0 {l : List Nat} (hl : ∀ x ∈ l, x < 256) {n k : Nat} (h : rd l 0 0 = (n, k, 0)) : n < 18446744073709551616 ∧ k = (num n).length ∧ l.take k = num n := by
  obtain ⟨m, e1, e2, _, e4, e5⟩ := rd_ok l hl 0 0 n k (by omega) h
  simp at e1 e2 e4
  subst e1 e2
  exact ⟨e4, rfl, e5⟩
theorem rd_part0 {l : List Nat} {n k j : Nat} (h : rd l 0 0 = (n, k, 0)) (hj : j < k) : rd (l.take j) 0 0 = (0, 0, 20) := rd_part l 0 0 n k j h (by omega)
theorem rd_bytes {l : List Nat} (hl : ∀ x ∈ l, x < 256) {n k : Nat} (h : rd l 0 0 = (n, k, 0)) : 1 ≤ k ∧ k ≤ l.length ∧ k ≤ 10 := by
  obtain ⟨h1, h2, h3⟩ := rd_ok0 hl h
  have := num_pos n
  have h4 := congrArg List.length h3
  rw [List.length_take] at h4
  have := num_le10 h1
  omega
/-- More bytes behind a number change nothing. -/
theorem rd_more {l : List Nat} (hl : ∀ x ∈ l, x < 256) {n k j : Nat} (h : rd l 0 0 = (n, k, 0)) (hj : k ≤ j) : rd (l.take j) 0 0 = (n, k, 0) := by
  obtain ⟨h1, h2, h3⟩ := rd_ok0 hl h
  have e : l.take j = num n ++ (l.take j).drop k := by
    rw [← h3]
    conv => lhs; rw [← List.take_append_drop k (l.take j), List.take_take, Nat.min_eq_left hj]
  rw [e, rd_words n _ h1, h2]

theorem take_len (a b : List Nat) : (a ++ b).take a.length = a := by simp
theorem drop_len (a b : List Nat) : (a ++ b).drop a.length = b := by simp

/-- P2.6, texts. -/
theorem text_back (s more : List Nat) (most : Int) (h : (s.length : Int) ≤ most) (hs : s.length < 18446744073709551616) : text (words s ++ more) most = (s, (words s).length, 0) := by
  have e := rd_words s.length (s ++ more) hs
  rw [← List.append_assoc] at e
  unfold text words
  rw [e]
  simp only []
  rw [if_neg (by simp), if_neg (by omega), if_neg (by simp)]
  rw [List.append_assoc, drop_len]
  simp
/-- P2.6, frames. -/
theorem unframe_back (s more : List Nat) (h : s.length ≤ 262144) : unframe (frame s ++ more) = (s, (frame s).length, 0) := by
  have e := rd_words s.length (s ++ four (crc (num s.length ++ s)) ++ more) (by omega)
  have e1 : num s.length ++ (s ++ four (crc (num s.length ++ s)) ++ more) = frame s ++ more := by simp [frame]
  rw [e1] at e
  unfold unframe
  rw [e]
  simp only []
  have e2 : (frame s ++ more).drop ((num s.length).length + s.length) = four (crc (num s.length ++ s)) ++ more := by
    rw [frame, List.append_assoc, ← List.length_append, drop_len]
  have e3 : (frame s ++ more).take ((num s.length).length + s.length) = num s.length ++ s := by
    rw [frame, List.append_assoc, ← List.length_append, take_len]
  rw [if_neg (by simp), if_neg (by omega), if_neg (by simp [frame, four]; omega), e2, e3, if_neg (by simp [four])]
  simp [frame, four]
  omega

/-- P2.7, texts. -/
theorem text_form {b : List Nat} (hb : ∀ x ∈ b, x < 256) {most : Int} {s : List Nat} {k : Nat} (h : text b most = (s, k, 0)) :
    1 ≤ k ∧ k ≤ b.length ∧ (s.length : Int) ≤ most ∧ b.take k = words s ∧ s.length < 18446744073709551616 ∧ ∀ i, i < k → (text (b.take i) most).2.2 ≠ 0 := by
  obtain ⟨n, j, e, hr⟩ : ∃ n j e, rd b 0 0 = (n, j, e) := ⟨_, _, _, rfl⟩
  have h0 := h
  unfold text at h
  rw [hr] at h
  simp only [] at h
  by_cases he : e = 0
  · subst he
    rw [if_neg (by simp)] at h
    split at h
    · simp at h
    · rename_i hm
      split at h
      · simp at h
      · rename_i hl
        simp only [Prod.mk.injEq, and_true] at h
        obtain ⟨rfl, rfl⟩ := h
        obtain ⟨h1, h2, h3⟩ := rd_ok0 hb hr
        have hk := rd_bytes hb hr
        have hlen : ((b.drop j).take n).length = n := by simp; omega
        refine ⟨by omega, by omega, by rw [hlen]; omega, ?_, by rw [hlen]; exact h1, ?_⟩
        · unfold words
          rw [hlen, List.take_add, h3]
        · intro i hi
          by_cases hij : i < j
          · have := rd_part0 hr hij
            unfold text
            rw [this]
            simp
          · have := rd_more hb hr (j := i) (by omega)
            unfold text
            rw [this]
            simp only []
            rw [if_neg (by simp), if_neg hm, if_pos (by simp; omega)]
            simp
  · rw [if_pos (by simpa using he)] at h
    simp only [Prod.mk.injEq] at h
    omega
theorem four_len (x : Nat) : (four x).length = 4 := rfl
/-- P2.7, frames. -/
theorem unframe_form {b : List Nat} (hb : ∀ x ∈ b, x < 256) {s : List Nat} {k : Nat} (h : unframe b = (s, k, 0)) :
    5 ≤ k ∧ k ≤ b.length ∧ s.length ≤ 262144 ∧ b.take k = frame s ∧ ∀ i, i < k → (unframe (b.take i)).2.2 ≠ 0 := by
  obtain ⟨n, j, e, hr⟩ : ∃ n j e, rd b 0 0 = (n, j, e) := ⟨_, _, _, rfl⟩
  unfold unframe at h
  rw [hr] at h
  simp only [] at h
  by_cases he : e = 0
  · subst he
    rw [if_neg (by simp)] at h
    split at h
    · simp at h
    · rename_i hm
      split at h
      · simp at h
      · rename_i hl
        split at h
        · simp at h
        · rename_i hf
          simp only [Prod.mk.injEq, and_true] at h
          obtain ⟨rfl, rfl⟩ := h
          obtain ⟨h1, h2, h3⟩ := rd_ok0 hb hr
          have hk := rd_bytes hb hr
          have hlen : ((b.drop j).take n).length = n := by simp; omega
          have hp : b.take (j + n) = num n ++ (b.drop j).take n := by rw [List.take_add, h3]
          refine ⟨by omega, by omega, by rw [hlen]; omega, ?_, ?_⟩
          · unfold frame
            rw [hlen, ← hp, List.take_add]
            congr 1
            exact Decidable.not_not.1 hf
          · intro i hi
            by_cases hij : i < j
            · have := rd_part0 hr hij
              unfold unframe
              rw [this]
              simp
            · have := rd_more hb hr (j := i) (by omega)
              unfold unframe
              rw [this]
              simp only []
              rw [if_neg (by simp), if_neg hm, if_pos (by simp; omega)]
              simp
  · rw [if_pos (by simpa using he)] at h
    simp only [Prod.mk.injEq] at h
    omega
theorem unframe_err {b : List Nat} (h : (unframe b).2.2 ≠ 0) : (unframe b).1 = [] ∧ (unframe b).2.1 = 0 := by
  unfold unframe at h ⊢
  split
  · exact ⟨rfl, rfl⟩
  · rename_i h0
    rw [if_neg h0] at h
    split
    · exact ⟨rfl, rfl⟩
    · rename_i h1
      rw [if_neg h1] at h
      split
      · exact ⟨rfl, rfl⟩
      · rename_i h2
        rw [if_neg h2] at h
        split
        · exact ⟨rfl, rfl⟩
        · rename_i h3
          rw [if_neg h3] at h
          exact absurd rfl h

/-! P2.8: bits turned within a span of 32. -/
theorem val_take_drop (l : List Nat) (n : Nat) (h : n ≤ l.length) : val l = val (l.take n) + 2 ^ (8 * n) * val (l.drop n) := by
  conv => lhs; rw [← List.take_append_drop n l, val_append]
  rw [List.length_take, Nat.min_eq_left h, Nat.pow_mul]
theorem lt_pow8 (l : List Nat) (h : ∀ x ∈ l, x < 256) : val l < 2 ^ (8 * l.length) := by
  have := val_lt l h
  rw [Nat.pow_mul]
  exact this

theorem mem_take {l : List Nat} {n : Nat} (h : ∀ x ∈ l, x < 256) : ∀ x ∈ l.take n, x < 256 := fun x hx => h x (List.mem_of_mem_take hx)
theorem mem_drop {l : List Nat} {n : Nat} (h : ∀ x ∈ l, x < 256) : ∀ x ∈ l.drop n, x < 256 := fun x hx => h x (List.mem_of_mem_drop hx)

/-- What is left over of a frame of N + 4 bytes: 0 where its sum is right. -/
def rest (N : Nat) (l : List Nat) : Nat := val (l.drop N) ^^^ crc (l.take N)
theorem rest_zero {N : Nat} {l : List Nat} (h : ∀ x ∈ l, x < 256) (hn : l.length = N + 4) : rest N l = 0 ↔ l.drop N = four (crc (l.take N)) := by
  have hc := crc_lt (l.take N) (mem_take h)
  constructor
  · intro e
    refine val_inj _ _ (mem_drop h) (four_byte _) (by simp [four]; omega) ?_
    rw [four_val hc]
    have h2 := congrArg (· ^^^ crc (l.take N)) e
    simpa [rest, Nat.xor_assoc] using h2
  · intro e
    unfold rest
    rw [e, four_val hc, Nat.xor_self]
theorem rest_eq {N : Nat} {l : List Nat} (h : ∀ x ∈ l, x < 256) (hn : l.length = N + 4) : rest N l = steps (8 * N) (val l) ^^^ steps (8 * N) 4294967295 ^^^ 4294967295 := by
  have hN : (l.take N).length = N := by simp; omega
  have e1 := val_take_drop l N (by omega)
  have e2 := lt_pow8 (l.take N) (mem_take h)
  rw [hN] at e2
  rw [split_xor _ _ _ e2] at e1
  rw [e1, steps_xor, steps_shift]
  unfold rest crc
  rw [state_val _ (mem_take h), hN, steps_xor]
  generalize steps (8 * N) (val (l.take N)) = A
  generalize val (l.drop N) = B
  generalize steps (8 * N) 4294967295 = C
  rw [Nat.xor_comm C A, Nat.xor_comm A B]
  simp only [Nat.xor_assoc]
theorem rest_diff {N : Nat} {l r : List Nat} (hl : ∀ x ∈ l, x < 256) (hr : ∀ x ∈ r, x < 256) (h1 : l.length = N + 4) (h2 : r.length = N + 4) (e : Nat) (he : val r = val l ^^^ e) : rest N r = rest N l ^^^ steps (8 * N) e := by
  rw [rest_eq hl h1, rest_eq hr h2, he, steps_xor]
  generalize steps (8 * N) (val l) = A
  generalize steps (8 * N) 4294967295 = C
  generalize steps (8 * N) e = D
  simp only [Nat.xor_assoc]
  rw [Nat.xor_comm D (C ^^^ 4294967295), Nat.xor_assoc]
/-- A burst is told. -/
theorem burst {N a e : Nat} (he : e < 4294967296) (h0 : e ≠ 0) : steps (8 * N) (2 ^ a * e) ≠ 0 := by
  by_cases h : a ≤ 8 * N
  · obtain ⟨m, hm⟩ : ∃ m, 8 * N = a + m := ⟨8 * N - a, by omega⟩
    rw [hm, steps_add, steps_shift]
    exact steps_ne m he h0
  · obtain ⟨m, rfl⟩ : ∃ m, a = 8 * N + m := ⟨a - 8 * N, by omega⟩
    rw [Nat.pow_add, Nat.mul_assoc, steps_shift]
    have : 0 < 2 ^ m * e := Nat.mul_pos (Nat.pow_pos (by omega)) (by omega)
    omega

end CMath
end Go.Proofs.YtjbnnhephagdmaaDoor
