import Derived.Test.YtanpbknjnpmmnaaTxp
import Derived.Test.YtanpbknjnpmmnaaMnL
import Derived.Test.YtanpbknjnpmmnaaCRw
import Derived.Deep.QuietTactic
import Derived.BigQuiet
import Derived.Lib.MinMax
namespace Go.Proofs.Ytanpbknjnpmmnaa
namespace Mnf
open Go.RowKit CMath Byt Cod Crw Irw Laws
set_option linter.unusedVariables false
set_option linter.unusedSimpArgs false
set_option maxRecDepth 20000

/-- a reader's answer where it has read something -/
def Sub (a : Option Addr) (l : List Nat) (a' : Option Addr) (r : List Nat) : Prop := ∃ k, r = l.drop k ∧ (r = [] ∨ ∃ b off, a = some ⟨b, off, none⟩ ∧ a' = some ⟨b, off + k, none⟩)
def RdOk (a : Option Addr) (l : List Nat) (v : Value) (r : List Nat) (w : World) (e : Ending) (w' : World) : Prop := ∃ a', e = .returned (.tuple #[v, .slice a' r.length r.length, .bool true]) ∧ Sub a l a' r ∧ Below w.heap.size w w'
/-- .. and where it hasn't -/
def RdNo (v : Value) (w : World) (e : Ending) (w' : World) : Prop := e = .returned (.tuple #[v, .slice none 0 0, .bool false]) ∧ Below w.heap.size w w'
theorem isB_drop' {w : World} {b off : Nat} {l : List Nat} (h : IsB w (some ⟨b, off, none⟩) l) (n : Nat) : IsB w (some ⟨b, off + n, none⟩) (l.drop n) := by
  refine ⟨fun hne => ?_, fun x hx => h.2 x (List.mem_of_mem_drop hx)⟩
  obtain ⟨b', off', e', hr⟩ := h.1 (by rintro rfl; simp at hne)
  cases e'
  exact ⟨b, off + n, rfl, hr.drop n⟩
theorem Sub.isB {w : World} {a a' : Option Addr} {l r : List Nat} (h : Sub a l a' r) (hi : IsB w a l) : IsB w a' r := by
  obtain ⟨k, rfl, h | ⟨b, off, rfl, rfl⟩⟩ := h
  · rw [h]; exact IsB.nil _ _
  · exact isB_drop' hi k
theorem Sub.refl (a : Option Addr) (l : List Nat) (h : l = [] ∨ ∃ b off, a = some ⟨b, off, none⟩) : Sub a l a l := ⟨0, by simp, h.imp id (fun ⟨b, off, e⟩ => ⟨b, off, e, by rw [e]; rfl⟩)⟩
theorem Sub.of {w : World} {a : Option Addr} {l : List Nat} (h : IsB w a l) : Sub a l a l := by
  refine Sub.refl a l ?_
  by_cases hl : l = []
  · exact .inl hl
  · obtain ⟨b, off, e, _⟩ := h.1 hl
    exact .inr ⟨b, off, e⟩
theorem Sub.trans {a a' a'' : Option Addr} {l r s : List Nat} (h : Sub a l a' r) (h2 : Sub a' r a'' s) : Sub a l a'' s := by
  obtain ⟨k, rfl, h⟩ := h
  obtain ⟨k2, rfl, h2⟩ := h2
  refine ⟨k + k2, by rw [List.drop_drop], ?_⟩
  rcases h2 with h2 | ⟨b2, off2, e2, e3⟩
  · exact .inl h2
  · rcases h with h | ⟨b, off, e, e1⟩
    · left; rw [h]; simp
    · rw [e2] at e1
      cases e1
      exact .inr ⟨_, off, e, by rw [e3, Nat.add_assoc]⟩
theorem Sub.len {a a' : Option Addr} {l r : List Nat} (h : Sub a l a' r) : r.length ≤ l.length := by
  obtain ⟨k, rfl, _⟩ := h
  simp
theorem Sub.nil {a a' : Option Addr} {l : List Nat} {k : Nat} (h : l.drop k = []) : Sub a l a' (l.drop k) := ⟨k, rfl, .inl h⟩
theorem isB_at {w : World} {a : Option Addr} {l : List Nat} (h : IsB w a l) (hl : 0 < l.length) : ∃ b off, a = some ⟨b, off, none⟩ := by
  obtain ⟨b, off, e, _⟩ := h.1 (by rintro rfl; simp at hl)
  exact ⟨b, off, e⟩
theorem drewN_below (w : World) (n : Nat) : Below w.heap.size w (w.drewN n) := below_drewN (Below.refl _ _) n

set_option maxHeartbeats 1000000 in
theorem readNumber_ok (a : Option Addr) (L : Nat) (l : List Nat) (most n : Nat) (r : List Nat) (w : World) (h : IsB w a l) (hL : l.length = L) (hm : L ≤ 9223372036854775807) (hmm : most ≤ M64) (hr : rdN most l = some (n, r)) :
    Calls Try.prog 55 #[.slice a L L, .int .u64 (most : Int)] w fun e w' => RdOk a l (.int .u64 (n : Int)) r w e w' := by
  subst hL
  have c1 := uint_any a l.length l.length l w h (Nat.le_refl _) hm rfl
  have HI : Hid (IsB w a l) := h
  unfold rdN at hr
  obtain ⟨⟨n', k, f⟩, hx⟩ : ∃ x, rd l 0 0 = x := ⟨_, rfl⟩
  rw [hx] at hr c1
  dsimp only at hr c1
  split at hr
  · rename_i hc
    obtain ⟨rfl, hn⟩ := hc
    cases hr
    have hk := rd_bytes h.2 hx
    obtain ⟨b, off, rfl⟩ := isB_at h (by omega)
    have hld : (l.drop k).length = l.length - k := by simp
    have C1 : Hid (Calls Try.prog 58 #[.slice (some ⟨b, off, none⟩) l.length l.length] w fun e w' => e = .returned (.tuple #[.int .u64 (n : Nat), .int .i64 (k : Nat), .int .i64 ((0 : Nat) : Int)]) ∧ w' = w) := c1
    have HLD : Hid ((l.drop k).length = l.length - k) := hld
    have HE : Hid (l.length - k = 0 → l.drop k = []) := fun h0 => List.eq_nil_of_length_eq_zero (by rw [hld]; exact h0)
    clear c1 h hx hld
    generalize l.length = L at *
    have q1 : ¬ (most : Int) < (n : Int) := by omega
    have q2 : (k : Int) ≤ (L : Int) := by omega
    unfold M64 at hmm
    by_cases hkL : k = L
    · subst hkL
      go_enter Try.func55, Try.ntmps55
      go_wp2_with (go_at_call 58; refine C1.out.mono ?_; rintro e w1 ⟨rfl, hw1⟩; obtain rfl := hw1.symm)
      go_quiet (fail)
      go_wp2
      go_ret3
      have h0 := HE.out (Nat.sub_self _)
      exact ⟨_, by rw [HLD.out, Nat.sub_self]; rfl, Sub.nil h0, drewN_below _ _⟩
    · have q3 : k < L := by omega
      have q4 : (k : Int) < (L : Int) := by omega
      have q5 : ¬ L - k = 0 := by omega
      go_enter Try.func55, Try.ntmps55
      go_wp2_with (go_at_call 58; refine C1.out.mono ?_; rintro e w1 ⟨rfl, hw1⟩; obtain rfl := hw1.symm)
      go_quiet (fail)
      go_wp2
      go_ret3
      exact ⟨_, by rw [HLD.out]; rfl, ⟨k, rfl, .inr ⟨b, off, rfl, rfl⟩⟩, drewN_below _ _⟩
  · cases hr
set_option maxHeartbeats 1000000 in
theorem readNumber_no (a : Option Addr) (L : Nat) (l : List Nat) (most : Nat) (w : World) (h : IsB w a l) (hL : l.length = L) (hm : L ≤ 9223372036854775807) (hmm : most ≤ M64) (hr : rdN most l = none) :
    Calls Try.prog 55 #[.slice a L L, .int .u64 (most : Int)] w fun e w' => RdNo (.int .u64 0) w e w' := by
  subst hL
  have c1 := uint_any a l.length l.length l w h (Nat.le_refl _) hm rfl
  unfold rdN at hr
  obtain ⟨⟨n', k, f⟩, hx⟩ : ∃ x, rd l 0 0 = x := ⟨_, rfl⟩
  rw [hx] at hr c1
  dsimp only at hr c1
  have C1 : Hid (Calls Try.prog 58 #[.slice a l.length l.length] w fun e w' => e = .returned (.tuple #[.int .u64 (n' : Nat), .int .i64 (k : Nat), .int .i64 (f : Nat)]) ∧ w' = w) := c1
  unfold M64 at hmm
  split at hr
  · cases hr
  · rename_i hc
    clear c1 h hx
    by_cases hf : f = 0
    · subst hf
      have q1 : (most : Int) < (n' : Int) := by
        have : ¬ n' ≤ most := fun h => hc ⟨rfl, h⟩
        omega
      clear hc
      go_enter Try.func55, Try.ntmps55
      go_wp2_with (go_at_call 58; refine C1.out.mono ?_; rintro e w1 ⟨rfl, hw1⟩; obtain rfl := hw1.symm)
      go_ret3
      exact ⟨rfl, Below.refl _ _⟩
    · have g : ((f : Int) != 0) = true := by simp; omega
      clear hc
      go_enter Try.func55, Try.ntmps55
      go_wp2_with (go_at_call 58; refine C1.out.mono ?_; rintro e w1 ⟨rfl, hw1⟩; obtain rfl := hw1.symm)
      go_ret3
      exact ⟨rfl, Below.refl _ _⟩

set_option maxHeartbeats 1000000 in
theorem readInt_ok (a : Option Addr) (L : Nat) (l : List Nat) (most : Nat) (x y : Int) (r : List Nat) (w : World) (h : IsB w a l) (hL : l.length = L) (hm : L ≤ 9223372036854775807) (hmm : most ≤ M63) (hy : y = most) (hr : rdI most l = some (x, r)) :
    Calls Try.prog 56 #[.slice a L L, .int .i64 y] w fun e w' => RdOk a l (.int .i64 x) r w e w' := by
  subst hy
  unfold rdI at hr
  cases hn : rdN most l with
  | none => rw [hn] at hr; cases hr
  | some z =>
    obtain ⟨n, r'⟩ := z
    rw [hn] at hr
    simp only [Option.map_some, Option.some.injEq, Prod.mk.injEq] at hr
    obtain ⟨rfl, rfl⟩ := hr
    have hnm := ((rdN_is most (by unfold M63 at hmm; unfold M64; omega)).form l n r' h.2 hn).2
    have HC : Hid (Calls Try.prog 55 #[.slice a L L, .int .u64 (most : Int)] w fun e w' => RdOk a l (.int .u64 (n : Int)) r' w e w') := readNumber_ok a L l most n r' w h hL hm (by unfold M63 at hmm; unfold M64; omega) hn
    unfold M63 at hmm
    have e1 : IntKind.u64.wrap (most : Int) = (most : Int) := by rw [IntKind.wrap_u64]; omega
    have e2 : IntKind.i64.wrap (n : Int) = (n : Int) := by rw [IntKind.wrap_i64]; omega
    clear h hn
    go_enter Try.func56, Try.ntmps56
    go_wp2_with (go_at_call 55; refine HC.out.mono ?_; rintro e w1 ⟨a', rfl, hi, hb⟩; have HP : Hid (Sub a l a' r' ∧ Below w.heap.size w w1) := ⟨hi, hb⟩; clear hi hb)
    go_ret3
    exact ⟨a', rfl, HP.out⟩
set_option maxHeartbeats 1000000 in
theorem readInt_no (a : Option Addr) (L : Nat) (l : List Nat) (most : Nat) (y : Int) (w : World) (h : IsB w a l) (hL : l.length = L) (hm : L ≤ 9223372036854775807) (hmm : most ≤ M63) (hy : y = most) (hr : rdI most l = none) :
    Calls Try.prog 56 #[.slice a L L, .int .i64 y] w fun e w' => RdNo (.int .i64 0) w e w' := by
  subst hy
  unfold rdI at hr
  cases hn : rdN most l with
  | some z => rw [hn] at hr; cases hr
  | none =>
    have HC : Hid (Calls Try.prog 55 #[.slice a L L, .int .u64 (most : Int)] w fun e w' => RdNo (.int .u64 0) w e w') := readNumber_no a L l most w h hL hm (by unfold M63 at hmm; unfold M64; omega) hn
    unfold M63 at hmm
    have e1 : IntKind.u64.wrap (most : Int) = (most : Int) := by rw [IntKind.wrap_u64]; omega
    clear h hn hr
    go_enter Try.func56, Try.ntmps56
    go_wp2_with (go_at_call 55; refine HC.out.mono ?_; rintro e w1 ⟨rfl, hb⟩; have HP : Hid (Below w.heap.size w w1) := hb; clear hb)
    go_ret3
    exact ⟨rfl, HP.out⟩
set_option maxHeartbeats 1000000 in
theorem readKey_ok (a : Option Addr) (L : Nat) (l : List Nat) (s : ByteArray) (r : List Nat) (w : World) (h : IsB w a l) (hL : l.length = L) (hm : L ≤ 9223372036854775807) (hr : rdK l = some (s, r)) :
    Calls Try.prog 48 #[.slice a L L] w fun e w' => RdOk a l (.string s) r w e w' := by
  subst hL
  have c1 := text_any a l.length l.length l 64 w h (Nat.le_refl _) hm (by omega) rfl
  unfold txt at c1
  unfold rdK at hr
  obtain ⟨⟨t, k, f⟩, hx⟩ : ∃ x, text l 64 = x := ⟨_, rfl⟩
  rw [hx] at hr c1
  dsimp only at hr c1
  split at hr
  · rename_i hc
    subst hc
    cases hr
    obtain ⟨k1, k2, _⟩ := text_form h.2 hx
    obtain ⟨b, off, rfl⟩ := isB_at h (by omega)
    have hld : (l.drop k).length = l.length - k := by simp
    have C1 : Hid (Calls Try.prog 57 #[.slice (some ⟨b, off, none⟩) l.length l.length, .int .i64 64] w fun e w' => e = .returned (.tuple #[.string (ofB t), .int .i64 (k : Nat), .int .i64 ((0 : Nat) : Int)]) ∧ w' = w) := c1
    have HLD : Hid ((l.drop k).length = l.length - k) := hld
    have HE : Hid (l.length - k = 0 → l.drop k = []) := fun h0 => List.eq_nil_of_length_eq_zero (by rw [hld]; exact h0)
    clear c1 h hx hld
    generalize l.length = L at *
    have q2 : (k : Int) ≤ (L : Int) := by omega
    by_cases hkL : k = L
    · subst hkL
      go_enter Try.func48, Try.ntmps48
      go_wp2_with (go_at_call 57; refine C1.out.mono ?_; rintro e w1 ⟨rfl, hw1⟩; obtain rfl := hw1.symm)
      go_quiet (fail)
      go_wp2
      go_ret3
      have h0 := HE.out (Nat.sub_self _)
      exact ⟨_, by rw [HLD.out, Nat.sub_self]; rfl, Sub.nil h0, drewN_below _ _⟩
    · have q3 : k < L := by omega
      have q4 : (k : Int) < (L : Int) := by omega
      have q5 : ¬ L - k = 0 := by omega
      go_enter Try.func48, Try.ntmps48
      go_wp2_with (go_at_call 57; refine C1.out.mono ?_; rintro e w1 ⟨rfl, hw1⟩; obtain rfl := hw1.symm)
      go_quiet (fail)
      go_wp2
      go_ret3
      exact ⟨_, by rw [HLD.out]; rfl, ⟨k, rfl, .inr ⟨b, off, rfl, rfl⟩⟩, drewN_below _ _⟩
  · cases hr
set_option maxHeartbeats 1000000 in
theorem readKey_no (a : Option Addr) (L : Nat) (l : List Nat) (w : World) (h : IsB w a l) (hL : l.length = L) (hm : L ≤ 9223372036854775807) (hr : rdK l = none) :
    Calls Try.prog 48 #[.slice a L L] w fun e w' => RdNo (.string ⟨#[]⟩) w e w' := by
  subst hL
  have c1 := text_any a l.length l.length l 64 w h (Nat.le_refl _) hm (by omega) rfl
  unfold txt at c1
  unfold rdK at hr
  obtain ⟨⟨t, k, f⟩, hx⟩ : ∃ x, text l 64 = x := ⟨_, rfl⟩
  rw [hx] at hr c1
  dsimp only at hr c1
  have C1 : Hid (Calls Try.prog 57 #[.slice a l.length l.length, .int .i64 64] w fun e w' => e = .returned (.tuple #[.string (ofB t), .int .i64 (k : Nat), .int .i64 (f : Nat)]) ∧ w' = w) := c1
  split at hr
  · cases hr
  · rename_i hc
    have g : ((f : Int) != 0) = true := by simp; omega
    clear c1 h hx hc
    go_enter Try.func48, Try.ntmps48
    go_wp2_with (go_at_call 57; refine C1.out.mono ?_; rintro e w1 ⟨rfl, hw1⟩; obtain rfl := hw1.symm)
    go_ret3
    exact ⟨rfl, Below.refl _ _⟩

set_option maxHeartbeats 1000000 in
theorem readLast_ok (a : Option Addr) (L : Nat) (last : Bool) (r : List Nat) (w : World) (h : IsB w a (bit last :: r)) (hL : r.length + 1 = L) (hm : L ≤ 9223372036854775807) :
    Calls Try.prog 41 #[.slice a L L] w fun e w' => RdOk a (bit last :: r) (.bool last) r w e w' := by
  subst hL
  obtain ⟨b, off, rfl, hrow⟩ := h.1 (by simp)
  have d0 := hrow.2 0 _ rfl
  rw [Nat.add_zero] at d0
  have q3 : ¬ ((r.length : Int) + 1 = 0) := by omega
  have q4 : (0 : Int) < (r.length : Int) + 1 := by omega
  have q5 : (1 : Int) ≤ (r.length : Int) + 1 := by omega
  clear hrow h
  by_cases h0 : r.length = 0
  · have hr0 : r = [] := List.eq_nil_of_length_eq_zero h0
    subst hr0
    cases last <;> simp only [bit, if_true, if_neg Bool.false_ne_true] at d0 <;>
    · go_enter Try.func41, Try.ntmps41
      go_wp2
      go_quiet (fail)
      go_wp2
      go_ret3
      exact ⟨_, rfl, ⟨1, rfl, .inl rfl⟩, drewN_below _ _⟩
  · have q6 : (1 : Int) < (r.length : Int) + 1 := by omega
    have q7 : 0 < r.length := by omega
    cases last <;> simp only [bit, if_true, if_neg Bool.false_ne_true] at d0 <;>
    · go_enter Try.func41, Try.ntmps41
      go_wp2
      go_quiet (fail)
      go_wp2
      go_ret3
      exact ⟨_, rfl, ⟨1, rfl, .inr ⟨b, off, rfl, rfl⟩⟩, drewN_below _ _⟩
set_option maxHeartbeats 1000000 in
theorem readLast_none (a : Option Addr) (w : World) :
    Calls Try.prog 41 #[.slice a 0 0] w fun e w' => RdNo (.bool false) w e w' := by
  go_enter Try.func41, Try.ntmps41
  go_wp2
  go_ret3
  exact ⟨rfl, Below.refl _ _⟩
set_option maxHeartbeats 1000000 in
theorem readLast_no (a : Option Addr) (L x : Nat) (r : List Nat) (w : World) (h : IsB w a (x :: r)) (hL : r.length + 1 = L) (hm : L ≤ 9223372036854775807) (h0 : x ≠ 0) (h1 : x ≠ 1) :
    Calls Try.prog 41 #[.slice a L L] w fun e w' => RdNo (.bool false) w e w' := by
  subst hL
  obtain ⟨b, off, rfl, hrow⟩ := h.1 (by simp)
  have d0 := hrow.2 0 _ rfl
  rw [Nat.add_zero] at d0
  have hx : x < 256 := h.2 x (List.mem_cons_self ..)
  have q3 : ¬ ((r.length : Int) + 1 = 0) := by omega
  have q4 : (0 : Int) < (r.length : Int) + 1 := by omega
  have g0 : ((x : Int) != 0) = true := by simp; omega
  have g1 : ((x : Int) != 1) = true := by simp; omega
  clear hrow h
  go_enter Try.func41, Try.ntmps41
  go_wp2
  go_ret3
  exact ⟨rfl, Below.refl _ _⟩
end Mnf
end Go.Proofs.Ytanpbknjnpmmnaa
namespace Go.Proofs.Ytanpbknjnpmmnaa
namespace Mnf
open Go.RowKit CMath Byt Cod Crw Irw Laws
set_option linter.unusedVariables false
set_option linter.unusedSimpArgs false
set_option maxRecDepth 20000

/-! Cells of a block of one's own. -/
def Zb (w : World) (B : Nat) (vs : List Value) : Prop := B < w.heap.size ∧ (∀ j v, vs[j]? = some v → w.cell? ⟨B, j, none⟩ = some v) ∧ ∀ j, w.frozen? ⟨B, j, none⟩ = false
theorem Zb.below {w w' : World} {B : Nat} {vs : List Value} (h : Zb w B vs) (hb : Below w.heap.size w w') : Zb w' B vs :=
  ⟨Nat.lt_of_lt_of_le h.1 hb.size, fun j v hv => (hb.cell (p := ⟨B, j, none⟩) h.1).trans (h.2.1 j v hv), fun j => (hb.frozen (p := ⟨B, j, none⟩) h.1).trans (h.2.2 j)⟩
theorem Zb.keep {w w' : World} {B : Nat} {vs : List Value} (h : Zb w B vs) (hb : w'.heap[B]? = w.heap[B]?) (hs : w.heap.size ≤ w'.heap.size) : Zb w' B vs :=
  ⟨Nat.lt_of_lt_of_le h.1 hs, fun j v hv => (World.cell?_of_block (a := ⟨B, j, none⟩) hb).trans (h.2.1 j v hv), fun j => (World.frozen?_of_block (a := ⟨B, j, none⟩) hb).trans (h.2.2 j)⟩
def sets (w : World) (B : Nat) : Nat → List Value → World
  | _, [] => w
  | j, v :: vs => sets (w.setCell ⟨B, j, none⟩ v) B (j + 1) vs
theorem sets_size (w : World) (B : Nat) (vs : List Value) : ∀ j, (sets w B j vs).heap.size = w.heap.size := by
  induction vs generalizing w with
  | nil => intro j; rfl
  | cons v vs ih => intro j; show (sets _ B (j + 1) vs).heap.size = _; rw [ih]; simp
theorem sets_below {base : Nat} {w0 w : World} (B : Nat) (hB : base ≤ B) (vs : List Value) : ∀ j, Below base w0 w → Below base w0 (sets w B j vs) := by
  induction vs generalizing w with
  | nil => intro j h; exact h
  | cons v vs ih => intro j h; exact ih (j + 1) (h.setCell (p := ⟨B, j, none⟩) hB _)
theorem sets_block (w : World) (B b : Nat) (hb : b ≠ B) (vs : List Value) : ∀ j, (sets w B j vs).heap[b]? = w.heap[b]? := by
  induction vs generalizing w with
  | nil => intro j; rfl
  | cons v vs ih => intro j; show (sets _ B (j + 1) vs).heap[b]? = _; rw [ih]; exact Below.heap_setCell w _ v b (fun e => hb e)
theorem sets_frozen (w : World) (B : Nat) (p : Addr) (vs : List Value) : ∀ j, (sets w B j vs).frozen? p = w.frozen? p := by
  induction vs generalizing w with
  | nil => intro j; rfl
  | cons v vs ih => intro j; show (sets _ B (j + 1) vs).frozen? p = _; rw [ih]; rw [World.frozen?_setCell]
theorem sets_low (w : World) (B : Nat) (vs : List Value) : ∀ j i, i < j → (sets w B j vs).cell? ⟨B, i, none⟩ = w.cell? ⟨B, i, none⟩ := by
  induction vs generalizing w with
  | nil => intro j i _; rfl
  | cons v vs ih =>
    intro j i h
    show (sets _ B (j + 1) vs).cell? ⟨B, i, none⟩ = _
    rw [ih _ _ _ (by omega), World.cell?_setCell_other _ _ _ _ (by simp; try omega)]
theorem sets_at (w : World) (B : Nat) (vs : List Value) : ∀ j, (∀ i, i < vs.length → ∃ u, w.cell? ⟨B, j + i, none⟩ = some u) → ∀ i v, vs[i]? = some v → (sets w B j vs).cell? ⟨B, j + i, none⟩ = some v := by
  induction vs generalizing w with
  | nil => intro j _ i v h; simp at h
  | cons x vs ih =>
    intro j hex i v h
    show (sets _ B (j + 1) vs).cell? ⟨B, j + i, none⟩ = _
    cases i with
    | zero =>
      simp at h
      subst h
      rw [Nat.add_zero, sets_low _ _ _ _ _ (by omega)]
      obtain ⟨u, hu⟩ := hex 0 (by simp)
      rw [Nat.add_zero] at hu
      exact World.cell?_setCell_same _ _ _ hu
    | succ i =>
      rw [show j + (i + 1) = j + 1 + i by omega]
      refine ih _ (j + 1) (fun k hk => ?_) i v (by simpa using h)
      obtain ⟨u, hu⟩ := hex (k + 1) (by simp; omega)
      refine ⟨u, ?_⟩
      rw [World.cell?_setCell_other _ _ _ _ (by simp; try omega), ← hu]
      congr 2
      omega
theorem Zb.sets {w : World} {B : Nat} {us vs : List Value} (h : Zb w B us) (hl : vs.length ≤ us.length) : Zb (sets w B 0 vs) B vs := by
  refine ⟨by rw [sets_size]; exact h.1, fun j v hv => ?_, fun j => by rw [sets_frozen]; exact h.2.2 j⟩
  have := sets_at w B vs 0 (fun i hi => ⟨_, by rw [Nat.zero_add]; exact h.2.1 i _ (List.getElem?_eq_getElem (by omega))⟩) j v hv
  rwa [Nat.zero_add] at this
theorem Zb.new (w : World) (vs : Array Value) (t : TypeId) : Zb (w.alloc (.cells vs t)) w.heap.size vs.toList := by
  refine ⟨by simp, fun j v hv => ?_, fun j => World.frozen?_alloc_at _ _ _ _ rfl⟩
  rw [World.cell?_alloc_at _ _ _ _ rfl]
  simpa using hv

def plV (p : Pl) : Value := .agg #[.int .i64 p.1, .int .u64 p.2]
def tbV (p : Pd) : Value := .agg #[.int .u64 p.no, .int .i64 p.we, .int .i64 p.by_, .int .i64 p.en, .string p.le, .string p.gr]
def pdV (p : Pd) : Value := .agg #[.int .i64 p.lv, .int .u64 p.no, .int .i64 p.we, .int .i64 p.by_, .int .i64 p.en, .string p.le, .string p.gr]
def noPd : Pd := ⟨0, 0, 0, 0, 0, ⟨#[]⟩, ⟨#[]⟩⟩
theorem res_pl {fn : Func} {p u v : Tmp} (h : fn.results = #[.cell p 83, .tmp u, .tmp v]) (tmps : Array Value) (w : World) (B : Nat) (x : Pl) (hp : tmps.getD p undef = .pointer (some ⟨B, 0, none⟩)) (hz : Zb w B [.int .i64 x.1, .int .u64 x.2]) :
    (results fn tmps).run Try.prog w = .ok (.tuple #[plV x, tmps.getD u undef, tmps.getD v undef]) w := by
  have c0 := hz.2.1 0 _ rfl
  have c1 := hz.2.1 1 _ rfl
  simp only [results, h]
  have hp' : tmps[p]?.getD undef = .pointer (some ⟨B, 0, none⟩) := by simpa using hp
  simp [Sem.run_bind, Result.andThen, hp', go_sem, c0, c1, plV]

set_option maxHeartbeats 2000000 in
theorem readPlace_ok (a : Option Addr) (L : Nat) (l : List Nat) (x : Pl) (r : List Nat) (w : World) (h : IsB w a l) (hL : l.length = L) (hm : L ≤ 9223372036854775807) (hr : rdPl l = some (x, r)) :
    Calls Try.prog 44 #[.slice a L L] w fun e w' => RdOk a l (plV x) r w e w' := by
  unfold rdPl rd2 at hr
  cases h1 : rdI 4 l with
  | none => rw [h1] at hr; cases hr
  | some y =>
    obtain ⟨y1, y2⟩ := y
    rw [h1] at hr
    simp only [Option.bind_some] at hr
    cases h2 : rdN M64 y2 with
    | none => rw [h2] at hr; cases hr
    | some z =>
      obtain ⟨z1, z2⟩ := z
      rw [h2] at hr
      simp only [Option.map_some, Option.some.injEq, Prod.mk.injEq] at hr
      obtain ⟨rfl, rfl⟩ := hr
      have HI : Hid (IsB w a l) := h
      have H1 : Hid (rdI 4 l = some (y1, y2)) := h1
      have H2 : Hid (rdN M64 y2 = some (z1, z2)) := h2
      have HL : Hid (l.length = L) := hL
      have hy2 : y2.length ≤ L := by
        have := ((rdI_is 4 (by decide)).form l y1 y2 h.2 h1).1
        rw [← hL, this]
        simp
      clear h h1 h2 hL
      have hle4 : (4 : Nat) ≤ M63 := by decide
      go_enter Try.func44, Try.ntmps44
      go_wp2_with (first
        | (go_at_call 56; go_loud (refine (readInt_ok a L l 4 y1 _ y2 _ (HI.out.below ((Below.refl _ _).alloc (Nat.le_refl _) _)) HL.out hm (by decide) rfl H1.out).mono ?_; rintro e w1 ⟨a1, rfl, hi1, hb1⟩; have HW : Hid (Zb w1 w.heap.size [.int .i64 0, .int .u64 0] ∧ Sub a l a1 y2 ∧ Below w.heap.size w w1) := ⟨(Zb.new w #[.int .i64 0, .int .u64 0] _).below hb1, hi1, ((Below.refl _ _).alloc (Nat.le_refl _) _).trans (hb1.mono (by simp))⟩; clear hi1 hb1))
        | (go_at_call 55; go_loud (refine (readNumber_ok a1 y2.length y2 M64 z1 z2 _ ((HW.out.2.1.isB HI.out).below HW.out.2.2) rfl (by omega) (Nat.le_refl _) H2.out).mono ?_; rintro e w2 ⟨a2, rfl, hi2, hb2⟩; have HX : Hid (Zb w2 w.heap.size [.int .i64 0, .int .u64 0] ∧ Sub a l a2 z2 ∧ Below w.heap.size w w2) := ⟨HW.out.1.below hb2, HW.out.2.1.trans hi2, HW.out.2.2.trans (hb2.mono HW.out.2.2.size)⟩; have d0 := HX.out.1.2.1 0 _ rfl; have d1 := HX.out.1.2.1 1 _ rfl; have f0 := HX.out.1.2.2 0; have f1 := HX.out.1.2.2 1; clear hi2 hb2)))
      have hz := HX.out.1.sets (vs := [.int .i64 y1, .int .u64 z1]) (by simp)
      refine bodyPost_ret (res_pl rfl _ _ w.heap.size (y1, z1) (by rfl) hz) rfl ?_
      exact ⟨a2, rfl, HX.out.2.1, sets_below w.heap.size (Nat.le_refl _) [.int .i64 y1, .int .u64 z1] 0 HX.out.2.2⟩

set_option maxHeartbeats 2000000 in
theorem readPlace_no (a : Option Addr) (L : Nat) (l : List Nat) (w : World) (h : IsB w a l) (hL : l.length = L) (hm : L ≤ 9223372036854775807) (hr : rdPl l = none) :
    Calls Try.prog 44 #[.slice a L L] w fun e w' => RdNo (plV (0, 0)) w e w' := by
  unfold rdPl rd2 at hr
  have HI : Hid (IsB w a l) := h
  have HL : Hid (l.length = L) := hL
  cases h1 : rdI 4 l with
  | none =>
    have H1 : Hid (rdI 4 l = none) := h1
    clear h h1 hL hr
    go_enter Try.func44, Try.ntmps44
    go_wp2_with (first
      | (go_at_call 56; go_loud (refine (readInt_no a L l 4 _ _ (HI.out.below ((Below.refl _ _).alloc (Nat.le_refl _) _)) HL.out hm (by decide) rfl H1.out).mono ?_; rintro e w1 ⟨rfl, hb1⟩; have HX : Hid (Zb w1 w.heap.size [.int .i64 0, .int .u64 0] ∧ Below w.heap.size w w1) := ⟨(Zb.new w #[.int .i64 0, .int .u64 0] _).below hb1, ((Below.refl _ _).alloc (Nat.le_refl _) _).trans (hb1.mono (by simp))⟩; have d0 := HX.out.1.2.1 0 _ rfl; have d1 := HX.out.1.2.1 1 _ rfl; have f0 := HX.out.1.2.2 0; have f1 := HX.out.1.2.2 1; clear hb1)))
    have hz := HX.out.1.sets (vs := [.int .i64 0, .int .u64 0]) (by simp)
    refine bodyPost_ret (res_pl rfl _ _ w.heap.size (0, 0) (by rfl) hz) rfl ?_
    exact ⟨rfl, sets_below w.heap.size (Nat.le_refl _) [.int .i64 0, .int .u64 0] 0 HX.out.2⟩
  | some y =>
    obtain ⟨y1, y2⟩ := y
    rw [h1] at hr
    simp only [Option.bind_some] at hr
    cases h2 : rdN M64 y2 with
    | some z => rw [h2] at hr; cases hr
    | none =>
      have H1 : Hid (rdI 4 l = some (y1, y2)) := h1
      have H2 : Hid (rdN M64 y2 = none) := h2
      have hy2 : y2.length ≤ L := by
        have := ((rdI_is 4 (by decide)).form l y1 y2 h.2 h1).1
        rw [← hL, this]
        simp
      clear h h1 h2 hL hr
      go_enter Try.func44, Try.ntmps44
      go_wp2_with (first
        | (go_at_call 56; go_loud (refine (readInt_ok a L l 4 y1 _ y2 _ (HI.out.below ((Below.refl _ _).alloc (Nat.le_refl _) _)) HL.out hm (by decide) rfl H1.out).mono ?_; rintro e w1 ⟨a1, rfl, hi1, hb1⟩; have HW : Hid (Zb w1 w.heap.size [.int .i64 0, .int .u64 0] ∧ Sub a l a1 y2 ∧ Below w.heap.size w w1) := ⟨(Zb.new w #[.int .i64 0, .int .u64 0] _).below hb1, hi1, ((Below.refl _ _).alloc (Nat.le_refl _) _).trans (hb1.mono (by simp))⟩; clear hi1 hb1))
        | (go_at_call 55; go_loud (refine (readNumber_no a1 y2.length y2 M64 _ ((HW.out.2.1.isB HI.out).below HW.out.2.2) rfl (by omega) (Nat.le_refl _) H2.out).mono ?_; rintro e w2 ⟨rfl, hb2⟩; have HX : Hid (Zb w2 w.heap.size [.int .i64 0, .int .u64 0] ∧ Below w.heap.size w w2) := ⟨HW.out.1.below hb2, HW.out.2.2.trans (hb2.mono HW.out.2.2.size)⟩; have d0 := HX.out.1.2.1 0 _ rfl; have d1 := HX.out.1.2.1 1 _ rfl; have f0 := HX.out.1.2.2 0; have f1 := HX.out.1.2.2 1; clear hb2)))
      have hz := HX.out.1.sets (vs := [.int .i64 0, .int .u64 0]) (by simp)
      refine bodyPost_ret (res_pl rfl _ _ w.heap.size (0, 0) (by rfl) hz) rfl ?_
      exact ⟨rfl, sets_below w.heap.size (Nat.le_refl _) [.int .i64 0, .int .u64 0] 0 HX.out.2⟩

/-! A reading of n things, k of which are read. -/
def Rk {α : Type} (o : List Nat → Option (α × List Nat)) (n : Nat) (l : List Nat) (k : Nat) (xs : List α) (r : List Nat) : Prop := xs.length = k ∧ k ≤ n ∧ rdL o n l = (rdL o (n - k) r).map fun y => (xs ++ y.1, y.2)
variable {α : Type} {o : List Nat → Option (α × List Nat)} {n k : Nat} {l r r' : List Nat} {xs : List α} {x : α}
theorem Rk.start (o : List Nat → Option (α × List Nat)) (n : Nat) (l : List Nat) : Rk o n l 0 [] l := ⟨rfl, Nat.zero_le _, by simp⟩
theorem Rk.step (h : Rk o n l k xs r) (hk : k < n) (hx : o r = some (x, r')) : Rk o n l (k + 1) (xs ++ [x]) r' := by
  obtain ⟨h1, h2, h3⟩ := h
  refine ⟨by simp [h1], hk, ?_⟩
  rw [h3, show n - k = (n - (k + 1)) + 1 by omega]
  show ((o r).bind fun x => (rdL o (n - (k + 1)) x.2).map fun y => (x.1 :: y.1, y.2)).map _ = _
  rw [hx]
  simp [Option.map_map, Function.comp_def]
theorem Rk.no (h : Rk o n l k xs r) (hk : k < n) (hx : o r = none) : rdL o n l = none := by
  obtain ⟨h1, h2, h3⟩ := h
  rw [h3, show n - k = (n - (k + 1)) + 1 by omega]
  show ((o r).bind fun x => (rdL o (n - (k + 1)) x.2).map fun y => (x.1 :: y.1, y.2)).map _ = _
  rw [hx]
  rfl
theorem Rk.done (h : Rk o n l n xs r) : rdL o n l = some (xs, r) := by
  obtain ⟨h1, h2, h3⟩ := h
  rw [h3, Nat.sub_self]
  simp [rdL]
theorem Zb.set {w : World} {B : Nat} {vs : List Value} (h : Zb w B vs) (k : Nat) (v : Value) : Zb (w.setCell ⟨B, k, none⟩ v) B (vs.set k v) := by
  refine ⟨by simpa using h.1, fun j u hu => ?_, fun j => by rw [World.frozen?_setCell]; exact h.2.2 j⟩
  by_cases hj : k = j
  · subst hj
    have hk : k < vs.length := by
      have := (List.getElem?_eq_some_iff.1 hu).1
      simpa using this
    rw [List.getElem?_set_self hk] at hu
    cases hu
    exact World.cell?_setCell_same _ _ _ (h.2.1 k _ (List.getElem?_eq_getElem hk))
  · rw [List.getElem?_set_ne hj] at hu
    rw [World.cell?_setCell_other _ _ _ _ (by simp; try omega)]
    exact h.2.1 j u hu
theorem take_set {vs xs : List Value} {k : Nat} {v : Value} (h : vs.take k = xs) (hk : k < vs.length) : (vs.set k v).take (k + 1) = xs ++ [v] := by
  subst h
  have hl : (vs.take k).length = k := by simp; omega
  rw [List.take_set, List.take_add_one, List.getElem?_eq_getElem hk, List.set_append_right _ _ (by omega), hl, Nat.sub_self]
  rfl
theorem rdRo_L (l : List Nat) : rdRo l = (rdL (rdN M64) 3 l).bind fun y => match y.1 with
    | [a, b, c] => some ((a, b, c), y.2)
    | _ => none := by
  unfold rdRo rd2 rdL
  cases rdN M64 l with
  | none => rfl
  | some x =>
    obtain ⟨x1, x2⟩ := x
    simp only [Option.bind_some]
    unfold rdL
    cases rdN M64 x2 with
    | none => rfl
    | some y =>
      obtain ⟨y1, y2⟩ := y
      simp only [Option.bind_some]
      unfold rdL
      cases rdN M64 y2 with
      | none => rfl
      | some z => rfl
/-- what a reader answers -/
def RdIs {α : Type} (a : Option Addr) (l : List Nat) (V : α → Value) (z : Value) (o : Option (α × List Nat)) (w : World) (e : Ending) (w' : World) : Prop := (∃ x r, o = some (x, r) ∧ RdOk a l (V x) r w e w') ∨ (o = none ∧ RdNo z w e w')
/-- three numbers as they are read -/
def roV (x : Nat × (Nat × Nat)) : Value := .agg #[.int .u64 x.1, .int .u64 x.2.1, .int .u64 x.2.2, .slice none 0 0, .slice none 0 0, .slice none 0 0]
def zE : List Value := [.int .u64 0, .int .u64 0, .int .u64 0, .slice none 0 0, .slice none 0 0, .slice none 0 0]
theorem res_ro {fn : Func} {p u v : Tmp} (h : fn.results = #[.cell p 61, .tmp u, .tmp v]) (tmps : Array Value) (w : World) (B : Nat) (x : Nat × (Nat × Nat)) (hp : tmps.getD p undef = .pointer (some ⟨B, 0, none⟩)) (hz : Zb w B [.int .u64 x.1, .int .u64 x.2.1, .int .u64 x.2.2, .slice none 0 0, .slice none 0 0, .slice none 0 0]) :
    (results fn tmps).run Try.prog w = .ok (.tuple #[roV x, tmps.getD u undef, tmps.getD v undef]) w := by
  have c0 := hz.2.1 0 _ rfl
  have c1 := hz.2.1 1 _ rfl
  have c2 := hz.2.1 2 _ rfl
  have c3 := hz.2.1 3 _ rfl
  have c4 := hz.2.1 4 _ rfl
  have c5 := hz.2.1 5 _ rfl
  simp only [results, h]
  have hp' : tmps[p]?.getD undef = .pointer (some ⟨B, 0, none⟩) := by simpa using hp
  simp [Sem.run_bind, Result.andThen, hp', go_sem, c0, c1, c2, c3, c4, c5, roV]
def u64s (ns : List Nat) : List Value := ns.map fun (n : Nat) => Value.int .u64 (n : Int)
end Mnf
end Go.Proofs.Ytanpbknjnpmmnaa
namespace Go.Proofs.Ytanpbknjnpmmnaa
namespace Mnf
open Go.RowKit CMath Byt Cod Crw Irw Laws
set_option linter.unusedVariables false
set_option linter.unusedSimpArgs false
set_option maxRecDepth 20000
theorem Zb.some {w : World} {B k : Nat} {vs : List Value} (h : Zb w B vs) (hk : k < vs.length) : ∃ u, w.cell? ⟨B, k, none⟩ = .some u := ⟨_, h.2.1 k _ (List.getElem?_eq_getElem hk)⟩
theorem Zb.other {w w' : World} {B g : Nat} {vs : List Value} (h : Zb w B vs) (k : Nat) (v : Value) (hg : B ≠ g) : Zb (w.setCell ⟨g, k, none⟩ v) B vs :=
  h.keep (Below.heap_setCell w _ v B (fun e => hg e)) (by simp)
set_option maxHeartbeats 1000000 in
theorem readRoots_any (a : Option Addr) (L : Nat) (l : List Nat) (w : World) (h : IsB w a l) (hL : l.length = L) (hm : L ≤ 9223372036854775807) :
    Calls Try.prog 42 #[.slice a L L] w fun e w' => RdIs a l roV (roV (0, 0, 0)) (rdRo l) w e w' := by
  subst hL
  have HI : Hid (IsB w a l) := h
  clear h
  go_enter Try.func42, Try.ntmps42
  go_wp2
  obtain ⟨W, hW⟩ : ∃ W, (w.alloc (.cells #[.int .u64 0, .int .u64 0, .int .u64 0, .slice none 0 0, .slice none 0 0, .slice none 0 0] 61)).alloc (.cells #[.int .u64 0, .int .u64 0, .int .u64 0] 129) = W := ⟨_, rfl⟩
  have HZ : Hid (Zb W w.heap.size zE ∧ Zb W (w.heap.size + 1) [.int .u64 0, .int .u64 0, .int .u64 0] ∧ Below w.heap.size w W) := by
    have h1 := Zb.new w #[.int .u64 0, .int .u64 0, .int .u64 0, .slice none 0 0, .slice none 0 0, .slice none 0 0] 61
    have h2 := Zb.new (w.alloc (.cells #[.int .u64 0, .int .u64 0, .int .u64 0, .slice none 0 0, .slice none 0 0, .slice none 0 0] 61)) #[.int .u64 0, .int .u64 0, .int .u64 0] 129
    rw [hW] at h2
    refine ⟨?_, by simpa using h2, ?_⟩
    · rw [← hW]; exact h1.below ((Below.refl _ _).alloc (Nat.le_refl _) _)
    · rw [← hW]; exact ((Below.refl _ _).alloc (Nat.le_refl _) _).alloc (by simp) _
  rw [hW]
  clear hW
  go_loopw [0, 8] (fun b i wr => ∃ (k : Nat) (ns : List Nat) (r : List Nat) (a1 : Option Addr), k ≤ 3 ∧ b = .slice a1 r.length r.length ∧ i = .int .i64 (k : Int) ∧ r.length ≤ l.length ∧ Hid (Rk (rdN M64) 3 l k ns r ∧ Sub a l a1 r ∧ Zb wr w.heap.size zE ∧ (∃ vs, vs.length = 3 ∧ vs.take k = u64s ns ∧ Zb wr (w.heap.size + 1) vs) ∧ Below w.heap.size w wr)) (fun _ i _ => 3 - (intOf i).toNat)
  case atStart => exact ⟨0, [], l, a, by omega, rfl, rfl, Nat.le_refl _, Rk.start _ _ _, Sub.of HI.out, HZ.out.1, ⟨_, rfl, rfl, HZ.out.2.1⟩, HZ.out.2.2⟩
  case round =>
    clear HZ
    obtain ⟨k, ns, r, a1, hk, rfl, rfl, hrl, HX⟩ := hrel
    rename World => wr
    by_cases hlt : k < 3
    · have q1 : (k : Int) < 3 := by omega
      have hB := (HX.out.2.1.isB HI.out).below HX.out.2.2.2.2
      cases hrd : rdN M64 r with
      | some y =>
        obtain ⟨y1, y2⟩ := y
        have hc := readNumber_ok a1 r.length r M64 y1 y2 wr hB rfl (by omega) (Nat.le_refl _) hrd
        have HC : Hid (Calls Try.prog 55 #[.slice a1 r.length r.length, .int .u64 18446744073709551615] wr fun e w' => RdOk a1 r (.int .u64 (y1 : Int)) y2 wr e w') := hc
        have HR : Hid (rdN M64 r = some (y1, y2)) := hrd
        clear hB hc hrd
        go_wp2_with (go_at_call 55; go_loud (refine HC.out.mono ?_; rintro e w1 ⟨a2, rfl, hs1, hb1⟩; obtain ⟨vs, hv1, hv2, hv3⟩ := HX.out.2.2.2.1; have HY : Hid (Sub a l a2 y2 ∧ Zb w1 w.heap.size zE ∧ Zb w1 (w.heap.size + 1) vs ∧ Below w.heap.size w w1 ∧ vs.take k = u64s ns ∧ vs.length = 3) := ⟨HX.out.2.1.trans hs1, HX.out.2.2.1.below hb1, hv3.below hb1, HX.out.2.2.2.2.trans (hb1.mono HX.out.2.2.2.2.size), hv2, hv1⟩; obtain ⟨u0, d0⟩ := HY.out.2.2.1.some (k := k) (by rw [hv1]; exact hlt); have f0 := HY.out.2.2.1.2.2 k; have hsl := hs1.len; clear hs1 hb1 hv1 hv2 hv3))
        go_roundw
        case rel =>
          refine ⟨k + 1, ns ++ [y1], y2, a2, by omega, rfl, by go_num, by omega, HX.out.1.step hlt HR.out, HY.out.1, HY.out.2.1.other (w' := w1) _ _ (by omega), ⟨vs.set k (.int .u64 (y1 : Int)), by rw [List.length_set]; exact HY.out.2.2.2.2.2, ?_, HY.out.2.2.1.set k _⟩, HY.out.2.2.2.1.setCell (p := ⟨w.heap.size + 1, k, none⟩) (by simp) _⟩
          rw [take_set HY.out.2.2.2.2.1 (by rw [HY.out.2.2.2.2.2]; exact hlt)]
          simp [u64s]
        case measure => simp [intOf]; omega
      | none =>
        have hc := readNumber_no a1 r.length r M64 wr hB rfl (by omega) (Nat.le_refl _) hrd
        have HC : Hid (Calls Try.prog 55 #[.slice a1 r.length r.length, .int .u64 18446744073709551615] wr fun e w' => RdNo (.int .u64 0) wr e w') := hc
        have HR : Hid (rdRo l = none) := by
          show _ = _
          rw [rdRo_L, HX.out.1.no hlt hrd]
          rfl
        clear hB hc hrd
        go_wp2_with (go_at_call 55; go_loud (refine HC.out.mono ?_; rintro e w1 ⟨rfl, hb1⟩; obtain ⟨vs, hv1, hv2, hv3⟩ := HX.out.2.2.2.1; have HY : Hid (Zb w1 w.heap.size zE ∧ Zb w1 (w.heap.size + 1) vs ∧ Below w.heap.size w w1) := ⟨HX.out.2.2.1.below hb1, hv3.below hb1, HX.out.2.2.2.2.trans (hb1.mono HX.out.2.2.2.2.size)⟩; obtain ⟨u0, d0⟩ := HY.out.2.1.some (k := k) (by rw [hv1]; exact hlt); have f0 := HY.out.2.1.2.2 k; have e0 := HY.out.1.2.1 0 _ rfl; have e1 := HY.out.1.2.1 1 _ rfl; have e2 := HY.out.1.2.1 2 _ rfl; have e3 := HY.out.1.2.1 3 _ rfl; have e4 := HY.out.1.2.1 4 _ rfl; have e5 := HY.out.1.2.1 5 _ rfl; have g0 := HY.out.1.2.2 0; have g1 := HY.out.1.2.2 1; have g2 := HY.out.1.2.2 2; have g3 := HY.out.1.2.2 3; have g4 := HY.out.1.2.2 4; have g5 := HY.out.1.2.2 5; clear hb1 hv1 hv2 hv3))
        (try simp only [Exit.inBlock, Exit.then])
        have hz0 : Zb (w1.setCell ⟨w.heap.size + 1, k, none⟩ (.int .u64 0)) w.heap.size zE := HY.out.1.other (w' := w1) _ _ (by omega)
        have hz := hz0.sets (vs := zE) (by simp)
        refine bodyPost_ret (res_ro rfl _ _ w.heap.size (0, 0, 0) (by rfl) hz) rfl ?_
        exact .inr ⟨HR.out, rfl, sets_below w.heap.size (Nat.le_refl _) zE 0 (HY.out.2.2.setCell (p := ⟨w.heap.size + 1, k, none⟩) (by simp) _)⟩
    · obtain rfl : k = 3 := by omega
      obtain ⟨vs, hv1, hv2, hv3⟩ := HX.out.2.2.2.1
      have hdone := HX.out.1.done
      obtain ⟨x, y, z, rfl⟩ : ∃ x y z, ns = [x, y, z] := by
        have := HX.out.1.1
        match ns, this with
        | [x, y, z], _ => exact ⟨x, y, z, rfl⟩
      rw [List.take_of_length_le (by omega)] at hv2
      subst hv2
      have d0 := hv3.2.1 0 _ rfl
      have d1 := hv3.2.1 1 _ rfl
      have d2 := hv3.2.1 2 _ rfl
      have e0 := HX.out.2.2.1.2.1 0 _ rfl
      have e1 := HX.out.2.2.1.2.1 1 _ rfl
      have e2 := HX.out.2.2.1.2.1 2 _ rfl
      have e3 := HX.out.2.2.1.2.1 3 _ rfl
      have e4 := HX.out.2.2.1.2.1 4 _ rfl
      have e5 := HX.out.2.2.1.2.1 5 _ rfl
      have g0 := HX.out.2.2.1.2.2 0
      have g1 := HX.out.2.2.1.2.2 1
      have g2 := HX.out.2.2.1.2.2 2
      have g3 := HX.out.2.2.1.2.2 3
      have g4 := HX.out.2.2.1.2.2 4
      have g5 := HX.out.2.2.1.2.2 5
      have HR : Hid (rdRo l = some ((x, y, z), r)) := by
        show _ = _
        rw [rdRo_L, hdone]
        rfl
      clear hv3 hdone hv1
      go_wp2
      have hz := HX.out.2.2.1.sets (vs := [.int .u64 (x : Int), .int .u64 (y : Int), .int .u64 (z : Int), .slice none 0 0, .slice none 0 0, .slice none 0 0]) (by simp [zE])
      refine bodyPost_ret (res_ro rfl _ _ w.heap.size (x, y, z) (by rfl) hz) rfl ?_
      have hbl := sets_below w.heap.size (Nat.le_refl _) [.int .u64 (x : Int), .int .u64 (y : Int), .int .u64 (z : Int), .slice none 0 0, .slice none 0 0, .slice none 0 0] 0 HX.out.2.2.2.2
      exact .inl ⟨(x, y, z), r, HR.out, a1, rfl, HX.out.2.1, hbl⟩
end Mnf
end Go.Proofs.Ytanpbknjnpmmnaa
