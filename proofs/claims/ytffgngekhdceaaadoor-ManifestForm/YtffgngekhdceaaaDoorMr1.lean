import Derived.Test.YtffgngekhdceaaaDoorTxp
import Derived.Test.YtffgngekhdceaaaDoorMnL
import Derived.Test.YtffgngekhdceaaaDoorCRw
import Derived.Deep.QuietTactic
import Derived.BigQuiet
import Derived.Lib.MinMax
namespace Go.Proofs.YtffgngekhdceaaaDoor
namespace Mnf
open Go.RowKit CMath Byt Cod Crw Irw Laws
set_option linter.unusedVariables false
set_option linter.unusedSimpArgs false
set_option maxRecDepth 20000

/-- a reader's answer where it has read something -/
def Sub (a : Option Addr) (l : List Nat) (a' : Option Addr) (r : List Nat) : Prop := ∃ k, r = l.drop k ∧ (r = [] ∨ ∃ b off, a = some ⟨b, off, none⟩ ∧ a' = some ⟨b, off + k, none⟩)
def RdOk (a : Option Addr) (l : List Nat) (v : Value) (r : List Nat) (w : World) (e : Ending) (w' : World) : Prop := ∃ a', e = .returned (.tuple #[v, .slice a' r.length r.length, .bool true]) ∧ Sub a l a' r ∧ Below w.heap.size w w'
/-- .. and where it hasn't -/
def RdNo (v : Value) (w : World) (e : Ending) (w' : World) : Prop := e = .returned (.tuple #[v, .slice none 0 0, .bool false]) ∧ Below w.heap.size w w'
theorem isB_drop' {w : World} {b off : Nat} {l : List Nat} (h : IsB w (some ⟨b, off, none⟩) l) (n : Nat) : IsB w (some ⟨b, off + n, none⟩) (l.drop n) := by
  refine ⟨fun hne => ?_, fun x hx => h.2 x (List.mem_of_mem_drop hx)⟩
  obtain ⟨b', off', e', hr⟩ := h.1 (by rintro rfl; simp at hne)
  cases e'
  exact ⟨b, off + n, rfl, hr.drop n⟩
theorem Sub.isB {w : World} {a a' : Option Addr} {l r : List Nat} (h : Sub a l a' r) (hi : IsB w a l) : IsB w a' r := by
  obtain ⟨k, rfl, h | ⟨b, off, rfl, rfl⟩⟩ := h
  · rw [h]; exact IsB.nil _ _
  · exact isB_drop' hi k
theorem Sub.refl (a : Option Addr) (l : List Nat) (h : l = [] ∨ ∃ b off, a = some ⟨b, off, none⟩) : Sub a l a l := ⟨0, by simp, h.imp id (fun ⟨b, off, e⟩ => ⟨b, off, e, by rw [e]; rfl⟩)⟩
theorem Sub.of {w : World} {a : Option Addr} {l : List Nat} (h : IsB w a l) : Sub a l a l := by
  refine Sub.refl a l ?_
  by_cases hl : l = []
  · exact .inl hl
  · obtain ⟨b, off, e, _⟩ := h.1 hl
    exact .inr ⟨b, off, e⟩
theorem Sub.trans {a a' a'' : Option Addr} {l r s : List Nat} (h : Sub a l a' r) (h2 : Sub a' r a'' s) : Sub a l a'' s := by
  obtain ⟨k, rfl, h⟩ := h
  obtain ⟨k2, rfl, h2⟩ := h2
  refine ⟨k + k2, by rw [List.drop_drop], ?_⟩
  rcases h2 with h2 | ⟨b2, off2, e2, e3⟩
  · exact .inl h2
  · rcases h with h | ⟨b, off, e, e1⟩
    · left; rw [h]; simp
    · rw [e2] at e1
      cases e1
      exact .inr ⟨_, off, e, by rw [e3, Nat.add_assoc]⟩
theorem Sub.len {a a' : Option Addr} {l r : List Nat} (h : Sub a l a' r) : r.length ≤ l.length := by
  obtain ⟨k, rfl, _⟩ := h
  simp
theorem Sub.nil {a a' : Option Addr} {l : List Nat} {k : Nat} (h : l.drop k = []) : Sub a l a' (l.drop k) := ⟨k, rfl, .inl h⟩
theorem isB_at {w : World} {a : Option Addr} {l : List Nat} (h : IsB w a l) (hl : 0 < l.length) : ∃ b off, a = some ⟨b, off, none⟩ := by
  obtain ⟨b, off, e, _⟩ := h.1 (by rintro rfl; simp at hl)
  exact ⟨b, off, e⟩
theorem drewN_below (w : World) (n : Nat) : Below w.heap.size w (w.drewN n) := below_drewN (Below.refl _ _) n

set_option maxHeartbeats 1000000 in
theorem readNumber_ok (a : Option Addr) (L : Nat) (l : List Nat) (most n : Nat) (r : List Nat) (w : World) (h : IsB w a l) (hL : l.length = L) (hm : L ≤ 9223372036854775807) (hmm : most ≤ M64) (hr : rdN most l = some (n, r)) :
    Calls Tryd.prog 57 #[.slice a L L, .int .u64 (most : Int)] w fun e w' => RdOk a l (.int .u64 (n : Int)) r w e w' := by
  subst hL
  have c1 := uint_any a l.length l.length l w h (Nat.le_refl _) hm rfl
  have HI : Hid (IsB w a l) := h
  unfold rdN at hr
  obtain ⟨⟨n', k, f⟩, hx⟩ : ∃ x, rd l 0 0 = x := ⟨_, rfl⟩
  rw [hx] at hr c1
  dsimp only at hr c1
  split at hr
  · rename_i hc
    obtain ⟨rfl, hn⟩ := hc
    cases hr
    have hk := rd_bytes h.2 hx
    obtain ⟨b, off, rfl⟩ := isB_at h (by omega)
    have hld : (l.drop k).length = l.length - k := by simp
    have C1 : Hid (Calls Tryd.prog 71 #[.slice (some ⟨b, off, none⟩) l.length l.length] w fun e w' => e = .returned (.tuple #[.int .u64 (n : Nat), .int .i64 (k : Nat), .int .i64 ((0 : Nat) : Int)]) ∧ w' = w) := c1
    have HLD : Hid ((l.drop k).length = l.length - k) := hld
    have HE : Hid (l.length - k = 0 → l.drop k = []) := fun h0 => List.eq_nil_of_length_eq_zero (by rw [hld]; exact h0)
    clear c1 h hx hld
    generalize l.length = L at *
    have q1 : ¬ (most : Int) < (n : Int) := by omega
    have q2 : (k : Int) ≤ (L : Int) := by omega
    unfold M64 at hmm
    by_cases hkL : k = L
    · subst hkL
      go_enter Tryd.func57, Tryd.ntmps57
      go_wp2_with (go_at_call 71; refine C1.out.mono ?_; rintro e w1 ⟨rfl, hw1⟩; obtain rfl := hw1.symm)
      go_quiet (fail)
      go_wp2
      go_ret3
      have h0 := HE.out (Nat.sub_self _)
      exact ⟨_, by rw [HLD.out, Nat.sub_self]; rfl, Sub.nil h0, drewN_below _ _⟩
    · have q3 : k < L := by omega
      have q4 : (k : Int) < (L : Int) := by omega
      have q5 : ¬ L - k = 0 := by omega
      go_enter Tryd.func57, Tryd.ntmps57
      go_wp2_with (go_at_call 71; refine C1.out.mono ?_; rintro e w1 ⟨rfl, hw1⟩; obtain rfl := hw1.symm)
      go_quiet (fail)
      go_wp2
      go_ret3
      exact ⟨_, by rw [HLD.out]; rfl, ⟨k, rfl, .inr ⟨b, off, rfl, rfl⟩⟩, drewN_below _ _⟩
  · cases hr
set_option maxHeartbeats 1000000 in
theorem readNumber_no (a : Option Addr) (L : Nat) (l : List Nat) (most : Nat) (w : World) (h : IsB w a l) (hL : l.length = L) (hm : L ≤ 9223372036854775807) (hmm : most ≤ M64) (hr : rdN most l = none) :
    Calls Tryd.prog 57 #[.slice a L L, .int .u64 (most : Int)] w fun e w' => RdNo (.int .u64 0) w e w' := by
  subst hL
  have c1 := uint_any a l.length l.length l w h (Nat.le_refl _) hm rfl
  unfold rdN at hr
  obtain ⟨⟨n', k, f⟩, hx⟩ : ∃ x, rd l 0 0 = x := ⟨_, rfl⟩
  rw [hx] at hr c1
  dsimp only at hr c1
  have C1 : Hid (Calls Tryd.prog 71 #[.slice a l.length l.length] w fun e w' => e = .returned (.tuple #[.int .u64 (n' : Nat), .int .i64 (k : Nat), .int .i64 (f : Nat)]) ∧ w' = w) := c1
  unfold M64 at hmm
  split at hr
  · cases hr
  · rename_i hc
    clear c1 h hx
    by_cases hf : f = 0
    · subst hf
      have q1 : (most : Int) < (n' : Int) := by
        have : ¬ n' ≤ most := fun h => hc ⟨rfl, h⟩
        omega
      clear hc
      go_enter Tryd.func57, Tryd.ntmps57
      go_wp2_with (go_at_call 71; refine C1.out.mono ?_; rintro e w1 ⟨rfl, hw1⟩; obtain rfl := hw1.symm)
      go_ret3
      exact ⟨rfl, Below.refl _ _⟩
    · have g : ((f : Int) != 0) = true := by simp; omega
      clear hc
      go_enter Tryd.func57, Tryd.ntmps57
      go_wp2_with (go_at_call 71; refine C1.out.mono ?_; rintro e w1 ⟨rfl, hw1⟩; obtain rfl := hw1.symm)
      go_ret3
      exact ⟨rfl, Below.refl _ _⟩

set_option maxHeartbeats 1000000 in
theorem readInt_ok (a : Option Addr) (L : Nat) (l : List Nat) (most : Nat) (x y : Int) (r : List Nat) (w : World) (h : IsB w a l) (hL : l.length = L) (hm : L ≤ 9223372036854775807) (hmm : most ≤ M63) (hy : y = most) (hr : rdI most l = some (x, r)) :
    Calls Tryd.prog 58 #[.slice a L L, .int .i64 y] w fun e w' => RdOk a l (.int .i64 x) r w e w' := by
  subst hy
  unfold rdI at hr
  cases hn : rdN most l with
  | none => rw [hn] at hr; cases hr
  | some z =>
    obtain ⟨n, r'⟩ := z
    rw [hn] at hr
    simp only [Option.map_some, Option.some.injEq, Prod.mk.injEq] at hr
    obtain ⟨rfl, rfl⟩ := hr
    have hnm := ((rdN_is most (by unfold M63 at hmm; unfold M64; omega)).form l n r' h.2 hn).2
    have HC : Hid (Calls Tryd.prog 57 #[.slice a L L, .int .u64 (most : Int)] w fun e w' => RdOk a l (.int .u64 (n : Int)) r' w e w') := readNumber_ok a L l most n r' w h hL hm (by unfold M63 at hmm; unfold M64; omega) hn
    unfold M63 at hmm
    have e1 : IntKind.u64.wrap (most : Int) = (most : Int) := by rw [IntKind.wrap_u64]; omega
    have e2 : IntKind.i64.wrap (n : Int) = (n : Int) := by rw [IntKind.wrap_i64]; omega
    clear h hn
    go_enter Tryd.func58, Tryd.ntmps58
    go_wp2_with (go_at_call 57; refine HC.out.mono ?_; rintro e w1 ⟨a', rfl, hi, hb⟩; have HP : Hid (Sub a l a' r' ∧ Below w.heap.size w w1) := ⟨hi, hb⟩; clear hi hb)
    go_ret3
    exact ⟨a', rfl, HP.out⟩
set_option maxHeartbeats 1000000 in
theorem readInt_no (a : Option Addr) (L : Nat) (l : List Nat) (most : Nat) (y : Int) (w : World) (h : IsB w a l) (hL : l.length = L) (hm : L ≤ 9223372036854775807) (hmm : most ≤ M63) (hy : y = most) (hr : rdI most l = none) :
    Calls Tryd.prog 58 #[.slice a L L, .int .i64 y] w fun e w' => RdNo (.int .i64 0) w e w' := by
  subst hy
  unfold rdI at hr
  cases hn : rdN most l with
  | some z => rw [hn] at hr; cases hr
  | none =>
    have HC : Hid (Calls Tryd.prog 57 #[.slice a L L, .int .u64 (most : Int)] w fun e w' => RdNo (.int .u64 0) w e w') := readNumber_no a L l most w h hL hm (by unfold M63 at hmm; unfold M64; omega) hn
    unfold M63 at hmm
    have e1 : IntKind.u64.wrap (most : Int) = (most : Int) := by rw [IntKind.wrap_u64]; omega
    clear h hn hr
    go_enter Tryd.func58, Tryd.ntmps58
    go_wp2_with (go_at_call 57; refine HC.out.mono ?_; rintro e w1 ⟨rfl, hb⟩; have HP : Hid (Below w.heap.size w w1) := hb; clear hb)
    go_ret3
    exact ⟨rfl, HP.out⟩
set_option maxHeartbeats 1000000 in
theorem readKey_ok (a : Option Addr) (L : Nat) (l : List Nat) (s : ByteArray) (r : List Nat) (w : World) (h : IsB w a l) (hL : l.length = L) (hm : L ≤ 9223372036854775807) (hr : rdK l = some (s, r)) :
    Calls Tryd.prog 44 #[.slice a L L] w fun e w' => RdOk a l (.string s) r w e w' := by
  subst hL
  have c1 := text_any a l.length l.length l 64 w h (Nat.le_refl _) hm (by omega) rfl
  unfold txt at c1
  unfold rdK at hr
  obtain ⟨⟨t, k, f⟩, hx⟩ : ∃ x, text l 64 = x := ⟨_, rfl⟩
  rw [hx] at hr c1
  dsimp only at hr c1
  split at hr
  · rename_i hc
    subst hc
    cases hr
    obtain ⟨k1, k2, _⟩ := text_form h.2 hx
    obtain ⟨b, off, rfl⟩ := isB_at h (by omega)
    have hld : (l.drop k).length = l.length - k := by simp
    have C1 : Hid (Calls Tryd.prog 59 #[.slice (some ⟨b, off, none⟩) l.length l.length, .int .i64 64] w fun e w' => e = .returned (.tuple #[.string (ofB t), .int .i64 (k : Nat), .int .i64 ((0 : Nat) : Int)]) ∧ w' = w) := c1
    have HLD : Hid ((l.drop k).length = l.length - k) := hld
    have HE : Hid (l.length - k = 0 → l.drop k = []) := fun h0 => List.eq_nil_of_length_eq_zero (by rw [hld]; exact h0)
    clear c1 h hx hld
    generalize l.length = L at *
    have q2 : (k : Int) ≤ (L : Int) := by omega
    by_cases hkL : k = L
    · subst hkL
      go_enter Tryd.func44, Tryd.ntmps44
      go_wp2_with (go_at_call 59; refine C1.out.mono ?_; rintro e w1 ⟨rfl, hw1⟩; obtain rfl := hw1.symm)
      go_quiet (fail)
      go_wp2
      go_ret3
      have h0 := HE.out (Nat.sub_self _)
      exact ⟨_, by rw [HLD.out, Nat.sub_self]; rfl, Sub.nil h0, drewN_below _ _⟩
    · have q3 : k < L := by omega
      have q4 : (k : Int) < (L : Int) := by omega
      have q5 : ¬ L - k = 0 := by omega
      go_enter Tryd.func44, Tryd.ntmps44
      go_wp2_with (go_at_call 59; refine C1.out.mono ?_; rintro e w1 ⟨rfl, hw1⟩; obtain rfl := hw1.symm)
      go_quiet (fail)
      go_wp2
      go_ret3
      exact ⟨_, by rw [HLD.out]; rfl, ⟨k, rfl, .inr ⟨b, off, rfl, rfl⟩⟩, drewN_below _ _⟩
  · cases hr
set_option maxHeartbeats 1000000 in
theorem readKey_no (a : Option Addr) (L : Nat) (l : List Nat) (w : World) (h : IsB w a l) (hL : l.length = L) (hm : L ≤ 9223372036854775807) (hr : rdK l = none) :
    Calls Tryd.prog 44 #[.slice a L L] w fun e w' => RdNo (.string ⟨#[]⟩) w e w' := by
  subst hL
  have c1 := text_any a l.length l.length l 64 w h (Nat.le_refl _) hm (by omega) rfl
  unfold txt at c1
  unfold rdK at hr
  obtain ⟨⟨t, k, f⟩, hx⟩ : ∃ x, text l 64 = x := ⟨_, rfl⟩
  rw [hx] at hr c1
  dsimp only at hr c1
  have C1 : Hid (Calls Tryd.prog 59 #[.slice a l.length l.length, .int .i64 64] w fun e w' => e = .returned (.tuple #[.string (ofB t), .int .i64 (k : Nat), .int .i64 (f : Nat)]) ∧ w' = w) := c1
  split at hr
  · cases hr
  · rename_i hc
    have g : ((f : Int) != 0) = true := by simp; omega
    clear c1 h hx hc
    go_enter Tryd.func44, Tryd.ntmps44
    go_wp2_with (go_at_call 59; refine C1.out.mono ?_; rintro e w1 ⟨rfl, hw1⟩; obtain rfl := hw1.symm)
    go_ret3
    exact ⟨rfl, Below.refl _ _⟩

set_option maxHeartbeats 1000000 in
theorem readLast_ok (a : Option Addr) (L : Nat) (last : Bool) (r : List Nat) (w : World) (h : IsB w a (bit last :: r)) (hL : r.length + 1 = L) (hm : L ≤ 9223372036854775807) :
    Calls Tryd.prog 37 #[.slice a L L] w fun e w' => RdOk a (bit last :: r) (.bool last) r w e w' := by
  subst hL
  obtain ⟨b, off, rfl, hrow⟩ := h.1 (by simp)
  have d0 := hrow.2 0 _ rfl
  rw [Nat.add_zero] at d0
  have q3 : ¬ ((r.length : Int) + 1 = 0) := by omega
  have q4 : (0 : Int) < (r.length : Int) + 1 := by omega
  have q5 : (1 : Int) ≤ (r.length : Int) + 1 := by omega
  clear hrow h
  by_cases h0 : r.length = 0
  · have hr0 : r = [] := List.eq_nil_of_length_eq_zero h0
    subst hr0
    cases last <;> simp only [bit, if_true, if_neg Bool.false_ne_true] at d0 <;>
    · go_enter Tryd.func37, Tryd.ntmps37
      go_wp2
      go_quiet (fail)
      go_wp2
      go_ret3
      exact ⟨_, rfl, ⟨1, rfl, .inl rfl⟩, drewN_below _ _⟩
  · have q6 : (1 : Int) < (r.length : Int) + 1 := by omega
    have q7 : 0 < r.length := by omega
    cases last <;> simp only [bit, if_true, if_neg Bool.false_ne_true] at d0 <;>
    · go_enter Tryd.func37, Tryd.ntmps37
      go_wp2
      go_quiet (fail)
      go_wp2
      go_ret3
      exact ⟨_, rfl, ⟨1, rfl, .inr ⟨b, off, rfl, rfl⟩⟩, drewN_below _ _⟩
set_option maxHeartbeats 1000000 in
theorem readLast_none (a : Option Addr) (w : World) :
    Calls Tryd.prog 37 #[.slice a 0 0] w fun e w' => RdNo (.bool false) w e w' := by
  go_enter Tryd.func37, Tryd.ntmps37
  go_wp2
  go_ret3
  exact ⟨rfl, Below.refl _ _⟩
set_option maxHeartbeats 1000000 in
theorem readLast_no (a : Option Addr) (L x : Nat) (r : List Nat) (w : World) (h : IsB w a (x :: r)) (hL : r.length + 1 = L) (hm : L ≤ 9223372036854775807) (h0 : x ≠ 0) (h1 : x ≠ 1) :
    Calls Tryd.prog 37 #[.slice a L L] w fun e w' => RdNo (.bool false) w e w' := by
  subst hL
  obtain ⟨b, off, rfl, hrow⟩ := h.1 (by simp)
  have d0 := hrow.2 0 _ rfl
  rw [Nat.add_zero] at d0
  have hx : x < 256 := h.2 x (List.mem_cons_self ..)
  have q3 : ¬ ((r.length : Int) + 1 = 0) := by omega
  have q4 : (0 : Int) < (r.length : Int) + 1 := by omega
  have g0 : ((x : Int) != 0) = true := by simp; omega
  have g1 : ((x : Int) != 1) = true := by simp; omega
  clear hrow h
  go_enter Tryd.func37, Tryd.ntmps37
  go_wp2
  go_ret3
  exact ⟨rfl, Below.refl _ _⟩
end Mnf
end Go.Proofs.YtffgngekhdceaaaDoor
