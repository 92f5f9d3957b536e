import Derived.Test.YtnhhalabmmcemaaDoorProg
import Derived.Test.YtnhhalabmmcemaaDoorMath
import Derived.WalkKit
import Derived.WalkSpells
import Derived.WalkLawsBesides
namespace Go.Proofs.YtnhhalabmmcemaaDoor
namespace Chk
open Go.RowKit KMath
set_option linter.unusedVariables false

theorem bcell {W w1 : World} (hb : Below W.heap.size W w1) : (∀ b o, b < W.heap.size → w1.cell? ⟨b, o, none⟩ = W.cell? ⟨b, o, none⟩) ∧ (∀ b o, b < W.heap.size → w1.frozen? ⟨b, o, none⟩ = W.frozen? ⟨b, o, none⟩) :=
  ⟨fun b o h => hb.cell (p := ⟨b, o, none⟩) h, fun b o h => hb.frozen (p := ⟨b, o, none⟩) h⟩

theorem ret_int {k : IntKind} {a b : Int} (h : a = b) : Ending.returned (.int k a) = .returned (.int k b) := by rw [h]
/-- An entry as a value. -/
abbrev entV (k : ByteArray) (s : Int) (d : Bool) (v : ByteArray) : Value := .agg #[.string k, .int .u64 s, .bool d, .string v]

/-- The error of a key (P1.1). -/
def err (n : Nat) : Int := if n = 0 then 10 else if 64 < n then 11 else 0

set_option maxHeartbeats 400000 in
theorem check_any (s : ByteArray) (w : World) (hs : s.size ≤ maxLen) :
    Calls Tryd.prog 97 #[.string s] w fun e w' => e = .returned (.int .i64 (err s.size)) ∧ w' = w := by
  unfold maxLen at hs
  by_cases h0 : s.size = 0
  · have h1 : ((s.size : Int) == 0) = true := by simp [h0]
    have hr : err s.size = 10 := by simp [err, h0]
    rw [hr]; clear hr
    go_enter Tryd.func97, Tryd.ntmps97
    go_wp2
    go_ret
    exact ⟨rfl, rfl⟩
  · have h1 : ((s.size : Int) == 0) = false := beq_eq_false_iff_ne.2 (by omega)
    by_cases h2 : 64 < s.size
    · have hr : err s.size = 11 := by simp [err, h0, h2]
      rw [hr]; clear hr
      go_enter Tryd.func97, Tryd.ntmps97
      go_wp2
      go_ret
      exact ⟨rfl, rfl⟩
    · have hr : err s.size = 0 := by simp [err, h0, h2]
      rw [hr]; clear hr
      go_enter Tryd.func97, Tryd.ntmps97
      go_wp2
      go_ret
      exact ⟨rfl, rfl⟩

set_option maxHeartbeats 400000 in
theorem num_any (n : Int) (w : World) :
    Calls Tryd.prog 11 #[.int .i64 n] w fun e w' => e = .returned (.int .i64 n) ∧ w' = w := by
  go_enter Tryd.func11, Tryd.ntmps11
  go_wp2
  go_ret
  exact ⟨rfl, rfl⟩

/-- The value that counts. -/
def val (d : Bool) (v : ByteArray) : ByteArray := if d then ⟨#[]⟩ else v
theorem val_true (v : ByteArray) : val true v = ⟨#[]⟩ := rfl
theorem val_false (v : ByteArray) : val false v = v := rfl
theorem val_size (d : Bool) (v : ByteArray) (h : v.size ≤ maxLen) : (val d v).size ≤ maxLen := by
  cases d
  · exact h
  · exact Nat.zero_le _

set_option maxHeartbeats 400000 in
theorem value_any (d : Bool) (v : ByteArray) (w : World) :
    Calls Tryd.prog 82 #[.bool d, .string v] w fun e w' => e = .returned (.string (val d v)) ∧ w' = w := by
  cases d
  all_goals
    go_enter Tryd.func82, Tryd.ntmps82
    go_wp2
    go_ret
    exact ⟨rfl, rfl⟩

/-- The error of a write. -/
def errW (k : ByteArray) (d : Bool) (v : ByteArray) : Int := if err k.size = 0 then (if 512 < (val d v).size then 12 else 0) else err k.size

set_option maxHeartbeats 1000000 in
theorem checkWrite_any (k : ByteArray) (d : Bool) (v : ByteArray) (w : World) (hk : k.size ≤ maxLen) (hv : v.size ≤ maxLen) :
    Calls Tryd.prog 95 #[.agg #[.string k, .bool d, .string v]] w fun e w' => e = .returned (.int .i64 (errW k d v)) ∧ Below w.heap.size w w' := by
  have hvs := val_size d v hv
  unfold maxLen at hvs
  by_cases h0 : err k.size = 0
  · have g0 : (err k.size != 0) = false := by simp [h0]
    have hr : errW k d v = if 512 < (val d v).size then 12 else 0 := by simp [errW, h0]
    rw [hr]; clear hr h0
    by_cases h1 : 512 < (val d v).size
    all_goals
      first | rw [if_pos h1] | rw [if_neg h1]
      go_enter Tryd.func95, Tryd.ntmps95
      go_wp2_with (first | (go_at_call 97; refine (check_any _ _ hk).mono ?_; rintro e w' ⟨rfl, rfl⟩) | (go_at_call 82; refine (value_any _ _ _).mono ?_; rintro e w' ⟨rfl, rfl⟩))
      go_ret
      exact ⟨rfl, (Below.refl _ _).alloc (Nat.le_refl _) _⟩
  · have g0 : (err k.size != 0) = true := by simp [h0]
    have hr : errW k d v = err k.size := by simp [errW, h0]
    rw [hr]; clear hr h0
    go_enter Tryd.func95, Tryd.ntmps95
    go_wp2_with (first | (go_at_call 97; refine (check_any _ _ hk).mono ?_; rintro e w' ⟨rfl, rfl⟩) | (go_at_call 82; refine (value_any _ _ _).mono ?_; rintro e w' ⟨rfl, rfl⟩))
    go_ret
    exact ⟨rfl, (Below.refl _ _).alloc (Nat.le_refl _) _⟩

/-- A write: key, deleted, value. -/
abbrev Wr := ByteArray × Bool × ByteArray

/-- The writes lie in a row of cells, three a write. -/
def WrRow (w : World) (b off : Nat) (ws : List Wr) : Prop :=
  b < w.heap.size ∧ ∀ (i : Nat) (x : Wr), ws[i]? = some x → w.cell? ⟨b, off + i * 3, none⟩ = some (.string x.1) ∧ w.cell? ⟨b, off + i * 3 + 1, none⟩ = some (.bool x.2.1) ∧ w.cell? ⟨b, off + i * 3 + 2, none⟩ = some (.string x.2.2)

/-- A slice of writes in memory: its address, and what it holds. -/
def IsWr (w : World) (a : Option Addr) (ws : List Wr) : Prop :=
  (ws ≠ [] → ∃ b off, a = some ⟨b, off, none⟩ ∧ WrRow w b off ws) ∧ ws.length ≤ maxLen ∧ ∀ x ∈ ws, x.1.size ≤ maxLen ∧ x.2.2.size ≤ maxLen

theorem WrRow.below {w w' : World} {B b off : Nat} {ws : List Wr} (h : WrRow w b off ws) (hb : Below B w w') (hB : b < B) : WrRow w' b off ws := by
  refine ⟨Nat.lt_of_lt_of_le h.1 hb.size, fun i x hx => ?_⟩
  obtain ⟨h0, h1, h2⟩ := h.2 i x hx
  exact ⟨(hb.cell (p := ⟨b, _, none⟩) hB).trans h0, (hb.cell (p := ⟨b, _, none⟩) hB).trans h1, (hb.cell (p := ⟨b, _, none⟩) hB).trans h2⟩

theorem IsWr.below {w w' : World} {a : Option Addr} {ws : List Wr} (h : IsWr w a ws) (hb : Below w.heap.size w w') : IsWr w' a ws := by
  refine ⟨fun hne => ?_, h.2⟩
  obtain ⟨b, off, rfl, hr⟩ := h.1 hne
  exact ⟨b, off, rfl, hr.below hb hr.1⟩

/-- The error of the first write that has one. -/
def errL : List Wr → Int
  | [] => 0
  | x :: r => if errW x.1 x.2.1 x.2.2 = 0 then errL r else errW x.1 x.2.1 x.2.2
def errB (ws : List Wr) : Int := if 16 < ws.length then 13 else errL ws

theorem errL_ok {ws : List Wr} {k : Nat} {x : Wr} (hx : ws[k]? = some x) (h : errW x.1 x.2.1 x.2.2 = 0) : errL (ws.drop k) = errL (ws.drop (k + 1)) := by
  obtain ⟨hk, rfl⟩ := List.getElem?_eq_some_iff.1 hx
  rw [List.drop_eq_getElem_cons hk]
  simp [errL, h]
theorem errL_no {ws : List Wr} {k : Nat} {x : Wr} (hx : ws[k]? = some x) (h : errW x.1 x.2.1 x.2.2 ≠ 0) : errL (ws.drop k) = errW x.1 x.2.1 x.2.2 := by
  obtain ⟨hk, rfl⟩ := List.getElem?_eq_some_iff.1 hx
  rw [List.drop_eq_getElem_cons hk]
  simp [errL, h]

end Chk
end Go.Proofs.YtnhhalabmmcemaaDoor
namespace Go.Proofs.YtnhhalabmmcemaaDoor
namespace Bat
open Go.RowKit KMath Chk
set_option linter.unusedVariables false

set_option maxHeartbeats 1000000 in
theorem checkBatch_any (a : Option Addr) (cap : Nat) (ws : List Wr) (w : World) (h : IsWr w a ws) :
    Calls Tryd.prog 91 #[.slice a ws.length cap] w fun e w' => e = .returned (.int .i64 (errB ws)) ∧ Below w.heap.size w w' := by
  obtain ⟨hrow, hlen, hstr⟩ := h
  unfold maxLen at hlen
  have HROW : Hid (ws ≠ [] → ∃ b off, a = some ⟨b, off, none⟩ ∧ WrRow w b off ws) := hrow
  have HSTR : Hid (∀ x ∈ ws, x.1.size ≤ maxLen ∧ x.2.2.size ≤ maxLen) := hstr
  clear hrow hstr
  by_cases h16 : 16 < ws.length
  · have hr : errB ws = 13 := by simp [errB, h16]
    rw [hr]; clear hr
    go_enter Tryd.func91, Tryd.ntmps91
    go_wp2
    go_ret
    exact ⟨rfl, Below.refl _ _⟩
  · have hr : errB ws = errL ws := by simp [errB, h16]
    rw [hr]; clear hr
    go_enter Tryd.func91, Tryd.ntmps91
    go_wp2
    go_loopw [11] (fun i wr => ∃ k : Nat, k ≤ ws.length ∧ i = .int .i64 k ∧ errL (ws.drop k) = errL ws ∧ Below w.heap.size w wr) (fun i _ => ws.length - (intOf i).toNat)
    case atStart => exact ⟨0, Nat.zero_le _, rfl, rfl, Below.refl _ _⟩
    case round =>
      obtain ⟨k, hk, rfl, hel, hbe⟩ := hrel
      have HEL : Hid (errL (ws.drop k) = errL ws) := hel
      clear hel
      by_cases hlt : k < ws.length
      · obtain ⟨b, off, rfl, hr⟩ := HROW.out (by intro e; rw [e] at hlt; simp at hlt)
        obtain ⟨kk, dd, vv, hx⟩ : ∃ kk dd vv, ws[k]? = some (kk, dd, vv) := ⟨_, _, _, List.getElem?_eq_getElem hlt⟩
        obtain ⟨c0, c1, c2⟩ := (hr.below hbe hr.1).2 k _ hx
        obtain ⟨s1, s2⟩ := HSTR.out _ (List.mem_of_getElem? hx)
        have HX : Hid (ws[k]? = some (kk, dd, vv)) := hx
        clear hx
        dsimp only at c0 c1 c2 s1 s2
        have hB1 : Below w.heap.size w (wr.alloc (.cells #[.string kk, .bool dd, .string vv] 145)) := hbe.alloc hbe.size _
        by_cases he : errW kk dd vv = 0
        · have HD : Hid (errL (ws.drop k) = errL (ws.drop (k + 1))) := errL_ok HX.out he
          have g0 : (errW kk dd vv != 0) = false := by simp [he]
          clear he
          go_wp2_with fail
          refine (checkWrite_any kk dd vv _ s1 s2).mono ?_
          rintro e w1 ⟨rfl, hb1⟩
          go_wp2
          go_roundw
          case rel => exact ⟨k + 1, by omega, by go_num, by rw [← HD.out, HEL.out], hB1.trans (hb1.mono hB1.size)⟩
          case measure => simp [intOf]; omega
        · have HD : Hid (errL (ws.drop k) = errW kk dd vv) := errL_no HX.out he
          have g0 : (errW kk dd vv != 0) = true := by simp [he]
          clear he
          go_wp2_with fail
          refine (checkWrite_any kk dd vv _ s1 s2).mono ?_
          rintro e w1 ⟨rfl, hb1⟩
          go_wp2
          go_ret
          exact ⟨ret_int (by rw [← HEL.out, HD.out]), hB1.trans (hb1.mono hB1.size)⟩
      · go_wp2
        go_ret
        refine ⟨ret_int ?_, hbe⟩
        rw [← HEL.out, List.drop_of_length_le (by omega)]
        rfl

end Bat
end Go.Proofs.YtnhhalabmmcemaaDoor
