import Derived.Test.YtebfokjgeknciabRows
import Derived.Test.YtebfokjgeknciabOpP
import Derived.Test.YtebfokjgeknciabPkO
import Derived.WalkKit
import Derived.ProofKit
import Derived.OpenShut
import Derived.ShutString
import Derived.SizedLaws
import Derived.Below
namespace Go.Proofs.Ytebfokjgeknciab
namespace PaceHolds
open Irw Lin Laws Go.ChangeShapes Go.WideShapes Go.ChangeAt Go.RowKit Pcm
open Go.ChangeMaps (open_string shut_string)
set_option linter.unusedVariables false
set_option linter.unusedSimpArgs false
set_option maxRecDepth 100000

theorem len_mayL (tok : Int) (l : List Int) (who : Int) : (mayL tok l who).length ≤ l.length + 1 := by
  unfold mayL
  split
  · omega
  · unfold joinL
    split
    · omega
    · simp
theorem len_leave (l : List Int) (x : Int) : (leaveL l x).length ≤ l.length := by
  unfold leaveL
  split
  · exact List.length_eraseIdx_le _ _
  · omega
theorem may_pos {tok : Int} {l : List Int} {who : Int} (h : mayB tok l who = true) : 0 < tok := by
  unfold mayB at h
  simp at h
  exact h.1
/-- a stretch's excess and the tokens together -/
structure Hold (burst m worst tok : Int) : Prop where
  nn : 0 ≤ worst
  sum : worst + tok ≤ burst
  low : -m ≤ tok
theorem Hold.tick {rate burst m worst tok : Int} (h : Hold burst m worst tok) (hr : 0 ≤ rate) (h1 : rate ≤ 1099511627776) (h2 : burst ≤ 1099511627776) (h3 : m ≤ 1099511627776) (h0 : 0 ≤ burst) (hm : 0 ≤ m) : Hold burst m (max (worst - rate) 0) (tickV tok rate burst) := by
  obtain ⟨a, b, c⟩ := h
  have e : tickV tok rate burst = min (tok + rate) burst := by unfold tickV sadd; rw [sat_in (by unfold R64; omega)]
  rw [e]
  exact ⟨by omega, by omega, by omega⟩
theorem Hold.take {burst m worst tok n : Int} (h : Hold burst m worst tok) (hp : 0 < tok) (h2 : burst ≤ 1099511627776) (h3 : m ≤ 1099511627776) (hn : 0 ≤ n) (hnm : n ≤ m) : Hold burst m (worst + n) (takeV tok n) := by
  obtain ⟨a, b, c⟩ := h
  have e : takeV tok n = tok - n := by
    unfold takeV sadd
    rw [sat_in (by unfold R64; omega)]
    omega
  rw [e]
  exact ⟨by omega, by omega, by omega⟩
theorem Hold.room {burst m worst tok : Int} (h : Hold burst m worst tok) (h2 : burst ≤ 1099511627776) (h3 : m ≤ 1099511627776) (h0 : 0 ≤ burst) (hm : 0 ≤ m) : worst ≤ burst + m ∧ worst ≤ 2199023255552 := by
  obtain ⟨a, b, c⟩ := h
  omega
def HoldRel (w1 : World) (p : Nat) (rate burst m : Int) (n k : Nat) (worst : Int) (wr : World) : Prop := ∃ (T : Nat → Nat) (tok : Int) (l : List Int), l.length ≤ k ∧ Hold burst m worst tok ∧ BkAt 1 T wr p rate burst tok l ∧ Old w1 T wr
set_option maxHeartbeats 8000000 in
theorem walk (rate burst m : Int) (a : Option Addr) (c : Nat) (sc : List OpP) (w : World) (ha : IsOpP w a sc) :
    Calls Try.prog 3 #[.int .i64 rate, .int .i64 burst, .int .i64 m, .slice a sc.length c] w fun e w' => e = .returned (.bool true) ∧ Below w.heap.size w w' := by
  have HA : Hid (IsOpP w a sc) := ha
  clear ha
  have hk := known_any w
  by_cases q0 : (2000 : Int) < (sc.length : Int)
  · have r0 : decide ((2000 : Int) < (sc.length : Int)) = true := by simpa using q0
    go_enter Try.func3, Try.ntmps3
    go_wp2_with (go_at_call 5; go_loud (refine hk.mono ?_; rintro e w1 ⟨rfl, hb1⟩; have HB1 : Hid (Below w.heap.size w w1) := hb1; clear hb1))
    go_ret
    exact ⟨rfl, HB1.out⟩
  have r0 : decide ((2000 : Int) < (sc.length : Int)) = false := by simpa using q0
  by_cases q1 : rate < 0
  · have r1 : decide (rate < 0) = true := by simpa using q1
    go_enter Try.func3, Try.ntmps3
    go_wp2_with (go_at_call 5; go_loud (refine hk.mono ?_; rintro e w1 ⟨rfl, hb1⟩; have HB1 : Hid (Below w.heap.size w w1) := hb1; clear hb1))
    go_ret
    exact ⟨rfl, HB1.out⟩
  have r1 : decide (rate < 0) = false := by simpa using q1
  by_cases q2 : burst < 0
  · have r2 : decide (burst < 0) = true := by simpa using q2
    go_enter Try.func3, Try.ntmps3
    go_wp2_with (go_at_call 5; go_loud (refine hk.mono ?_; rintro e w1 ⟨rfl, hb1⟩; have HB1 : Hid (Below w.heap.size w w1) := hb1; clear hb1))
    go_ret
    exact ⟨rfl, HB1.out⟩
  have r2 : decide (burst < 0) = false := by simpa using q2
  by_cases q3 : m < 0
  · have r3 : decide (m < 0) = true := by simpa using q3
    go_enter Try.func3, Try.ntmps3
    go_wp2_with (go_at_call 5; go_loud (refine hk.mono ?_; rintro e w1 ⟨rfl, hb1⟩; have HB1 : Hid (Below w.heap.size w w1) := hb1; clear hb1))
    go_ret
    exact ⟨rfl, HB1.out⟩
  have r3 : decide (m < 0) = false := by simpa using q3
  by_cases q4 : 1099511627776 < rate
  · have r4 : decide (1099511627776 < rate) = true := by simpa using q4
    go_enter Try.func3, Try.ntmps3
    go_wp2_with (go_at_call 5; go_loud (refine hk.mono ?_; rintro e w1 ⟨rfl, hb1⟩; have HB1 : Hid (Below w.heap.size w w1) := hb1; clear hb1))
    go_ret
    exact ⟨rfl, HB1.out⟩
  have r4 : decide (1099511627776 < rate) = false := by simpa using q4
  by_cases q5 : 1099511627776 < burst
  · have r5 : decide (1099511627776 < burst) = true := by simpa using q5
    go_enter Try.func3, Try.ntmps3
    go_wp2_with (go_at_call 5; go_loud (refine hk.mono ?_; rintro e w1 ⟨rfl, hb1⟩; have HB1 : Hid (Below w.heap.size w w1) := hb1; clear hb1))
    go_ret
    exact ⟨rfl, HB1.out⟩
  have r5 : decide (1099511627776 < burst) = false := by simpa using q5
  by_cases q6 : 1099511627776 < m
  · have r6 : decide (1099511627776 < m) = true := by simpa using q6
    go_enter Try.func3, Try.ntmps3
    go_wp2_with (go_at_call 5; go_loud (refine hk.mono ?_; rintro e w1 ⟨rfl, hb1⟩; have HB1 : Hid (Below w.heap.size w w1) := hb1; clear hb1))
    go_ret
    exact ⟨rfl, HB1.out⟩
  have r6 : decide (1099511627776 < m) = false := by simpa using q6
  have HQ : Hid (0 ≤ rate ∧ 0 ≤ burst ∧ 0 ≤ m ∧ rate ≤ 1099511627776 ∧ burst ≤ 1099511627776 ∧ m ≤ 1099511627776) := hid (by omega)
  have hlen : sc.length ≤ 2000 := by omega
  go_enter Try.func3, Try.ntmps3
  go_upto_region 4 with (go_at_call 5; go_loud (refine hk.mono ?_; rintro e w1 ⟨rfl, hb1⟩; have HB1 : Hid (Below w.heap.size w w1) := hb1; clear hb1))
  clear hk q0 r0 q1 r1 q2 r2 q3 r3 q4 r4 q5 r5 q6 r6
  have HN : Calls Try.prog 6 #[.int .i64 rate, .int .i64 burst] w1 fun e w' => ∃ p T', e = .returned (.pointer (some ⟨p, 0, none⟩)) ∧ BkAt 1 T' w' p rate burst burst [] ∧ Goes (fun _ => False) (fun _ => 0) w1 T' w' ∧ Below w1.heap.size w1 w' := by
    have := newBucket_any 1 (fun _ => 0) rate burst (by have := HQ.out; unfold R64; omega) (by have := HQ.out; unfold R64; omega) w1 (fun _ _ => rfl)
    rw [show max rate 0 = rate from by have := HQ.out; omega, show max burst 0 = burst from by have := HQ.out; omega] at this
    exact this
  go_upto_region 9 with (go_at_call 6; go_loud (refine HN.mono ?_; rintro e w2 ⟨p, T2, rfl, hk2, hg2, hb2⟩; have HH2 : Hid (HoldRel w1 p rate burst m sc.length 0 0 w2) := hid ⟨T2, burst, [], by simp, ⟨by omega, by omega, by have := HQ.out; omega⟩, hk2, (Old.first w1).goes hg2 (fun z => z)⟩; clear hk2 hg2 hb2))
  clear HN
  go_loopw [11, 12] (fun v i wr => ∃ (k : Nat) (worst : Int), k ≤ sc.length ∧ i = .int .i64 (k : Int) ∧ v = .int .i64 worst ∧ Hid (HoldRel w1 p rate burst m sc.length k worst wr)) (fun _ i _ => sc.length - (intOf i).toNat)
  case atStart => exact ⟨0, 0, Nat.zero_le _, rfl, rfl, HH2⟩
  case round =>
    clear HH2
    obtain ⟨k, worst, hk, rfl, rfl, HH⟩ := hrel
    by_cases hlt : k < sc.length
    · have hq : (k : Int) < (sc.length : Int) := by omega
      have hne : sc ≠ [] := by rintro rfl; simp at hlt
      obtain ⟨b, o, rfl, hb, hrow⟩ := HA.out hne
      obtain ⟨⟨kd, who, n⟩, hx⟩ : ∃ x, sc[k]? = some x := ⟨_, List.getElem?_eq_getElem hlt⟩
      obtain ⟨⟨c0, c1, c2⟩, hrw, hrn⟩ := hrow k _ hx
      obtain ⟨T, tok, l, hl, hH, hB, hO⟩ := HH.out
      have hb1 : b < w1.heap.size := Nat.lt_of_lt_of_le hb HB1.out.size
      have e0 : wr.cell? ⟨b, o + k * 3, none⟩ = some (.int .i64 kd) := (hO.below.cell (p := ⟨b, o + k * 3, none⟩) hb1).trans ((HB1.out.cell (p := ⟨b, o + k * 3, none⟩) hb).trans c0)
      have e1 : wr.cell? ⟨b, o + k * 3 + 1, none⟩ = some (.int .i64 who) := (hO.below.cell (p := ⟨b, o + k * 3 + 1, none⟩) hb1).trans ((HB1.out.cell (p := ⟨b, o + k * 3 + 1, none⟩) hb).trans c1)
      have e2 : wr.cell? ⟨b, o + k * 3 + 2, none⟩ = some (.int .i64 n) := (hO.below.cell (p := ⟨b, o + k * 3 + 2, none⟩) hb1).trans ((HB1.out.cell (p := ⟨b, o + k * 3 + 2, none⟩) hb).trans c2)
      have w4 : IntKind.i64.wrap ((k : Int) + 1) = (k : Int) + 1 := IntWalk.i64_in _ (by omega)
      have HRN := hid (And.intro hrw hrn)
      have HHO := hid hH
      have HB := hid hB
      have HO := hid hO
      clear c0 c1 c2 hx hne hrow hrw hrn hH hB hO HH
      go_upto_region 12 with fail
      have k0 : (wr.alloc (.cells #[.int .i64 kd, .int .i64 who, .int .i64 n] 27)).cell? ⟨wr.heap.size, 0, none⟩ = some (.int .i64 kd) := by simp [go_sem]
      have k1 : (wr.alloc (.cells #[.int .i64 kd, .int .i64 who, .int .i64 n] 27)).cell? ⟨wr.heap.size, 1, none⟩ = some (.int .i64 who) := by simp [go_sem]
      have k2 : (wr.alloc (.cells #[.int .i64 kd, .int .i64 who, .int .i64 n] 27)).cell? ⟨wr.heap.size, 2, none⟩ = some (.int .i64 n) := by simp [go_sem]
      have hbz : wr.heap.size < (wr.alloc (.cells #[.int .i64 kd, .int .i64 who, .int .i64 n] 27)).heap.size := by simp
      have hbb : Below wr.heap.size wr (wr.alloc (.cells #[.int .i64 kd, .int .i64 who, .int .i64 n] 27)) := (Below.refl _ _).alloc (Nat.le_refl _) _
      have HBW : Hid (BkAt 1 T (wr.alloc (.cells #[.int .i64 kd, .int .i64 who, .int .i64 n] 27)) p rate burst tok l) := HB.out.below hbb
      have HOW : Hid (Old w1 T (wr.alloc (.cells #[.int .i64 kd, .int .i64 who, .int .i64 n] 27))) := HO.out.goes (Goes.below (t := fun _ => False) hbb) (fun z => z)
      have hT : T wr.heap.size = 0 := HO.out.zero _ (.inr (Nat.le_refl _))
      clear hbb HB HO e0 e1 e2
      generalize (wr.alloc (.cells #[.int .i64 kd, .int .i64 who, .int .i64 n] 27)) = W at *
      generalize wr.heap.size = B at *
      have HKB : Hid (∀ T1 w5, Goes (bkT 1) T W T1 w5 → ∀ j, w5.cell? ⟨B, j, none⟩ = W.cell? ⟨B, j, none⟩) := fun T1 w5 hg j => hg.cell hbz (by rw [hT]; unfold bkT; omega)
      have hb0 : ¬ bkT 1 0 := by unfold bkT; omega
      have x1 : IntKind.i64.wrap (burst + m) = burst + m := IntWalk.i64_in _ (by have := HQ.out; omega)
      obtain ⟨R1, R2⟩ := HHO.out.room HQ.out.2.2.2.2.1 HQ.out.2.2.2.2.2 HQ.out.2.1 HQ.out.2.2.1
      have R0 := HHO.out.nn
      have HNN : Hid (R64 n) := HRN.out.2
      clear HRN
      by_cases q1 : kd = 1
      · subst q1
        have x2 : IntKind.i64.wrap (worst - rate) = worst - rate := IntWalk.i64_in _ (by have := HQ.out; omega)
        have HD := HHO.out.tick HQ.out.1 HQ.out.2.2.2.1 HQ.out.2.2.2.2.1 HQ.out.2.2.2.2.2 HQ.out.2.1 HQ.out.2.2.1
        have x3 : ¬ (burst + m < max (worst - rate) 0) := by have := (HD.room HQ.out.2.2.2.2.1 HQ.out.2.2.2.2.2 HQ.out.2.1 HQ.out.2.2.1).1; omega
        have HDD := hid HD
        clear HD
        go_wp2_with (go_at_call 7; go_loud (refine (tick_any 1 T W p rate burst tok l HBW.out).mono ?_; rintro e w5 ⟨rfl, T5, hb5, hg5⟩; have HB5 := hid hb5; have HO5 : Hid (Old w1 T5 w5) := HOW.out.goes hg5 hb0; clear hb5 hg5))
        go_roundw
        case rel => exact ⟨k + 1, max (worst - rate) 0, by omega, by go_num, rfl, T5, _, l, by omega, HDD.out, HB5.out, HO5.out⟩
        case measure => simp [intOf]; omega
      have q1' : (kd == 1) = false := by simpa using q1
      have x4 : ¬ (burst + m < worst) := by omega
      by_cases q34 : kd = 3 ∨ kd = 4
      · have HL : Hid ((mayL tok l who).length ≤ k + 1) := hid (Nat.le_trans (len_mayL tok l who) (by omega))
        by_cases hm : mayB tok l who = true
        · have hmL : mayL tok l who = l := by unfold mayL; rw [if_pos hm]
          have HMY : Calls Try.prog 8 #[.pointer (some ⟨p, 0, none⟩), .int .i64 who] W fun e w' => e = .returned (.bool true) ∧ BkIs 1 T W p rate burst tok l w' := by
            have := may_any 1 T W p rate burst tok l who HBW.out (by omega)
            rw [hm, hmL] at this
            exact this
          have HD := HHO.out.take (n := min (max n 0) m) (may_pos hm) HQ.out.2.2.2.2.1 HQ.out.2.2.2.2.2 (by have := HQ.out; omega) (by omega)
          have x2 : IntKind.i64.wrap (worst + min (max n 0) m) = worst + min (max n 0) m := IntWalk.i64_in _ (by have := HQ.out; omega)
          have x3 : ¬ (burst + m < worst + min (max n 0) m) := by have := (HD.room HQ.out.2.2.2.2.1 HQ.out.2.2.2.2.2 HQ.out.2.1 HQ.out.2.2.1).1; omega
          have HDD := hid HD
          have HN0 : Hid (R64 (min (max n 0) m)) := hid (by have := HQ.out; unfold R64; omega)
          have HLL : Hid ((leaveL l who).length ≤ k + 1) := hid (Nat.le_trans (len_leave l who) (by omega))
          clear HD hm hmL HL
          rcases q34 with q3 | q4
          · subst q3
            go_wp2_with (first | (go_at_call 8; go_loud (refine HMY.mono ?_; rintro e w5 ⟨rfl, T5, hb5, hg5⟩; have HB5 := hid hb5; have HG5 := hid hg5; have HO5 : Hid (Old w1 T5 w5) := HOW.out.goes hg5 hb0; have m1 := (HKB.out T5 w5 hg5 1).trans k1; have m2 := (HKB.out T5 w5 hg5 2).trans k2; clear hb5 hg5)) | (go_at_call 9; go_loud (refine (take_any 1 T5 w5 p rate burst tok l who _ HB5.out (by omega) HN0.out).mono ?_; rintro e w6 ⟨rfl, T6, hb6, hg6⟩; have HB6 := hid hb6; have HO6 : Hid (Old w1 T6 w6) := HO5.out.goes hg6 hb0; clear hb6 hg6)))
            go_roundw
            case rel => exact ⟨k + 1, worst + min (max n 0) m, by omega, by go_num, rfl, T6, _, _, HLL.out, HDD.out, HB6.out, HO6.out⟩
            case measure => simp [intOf]; omega
          · subst q4
            go_wp2_with (first | (go_at_call 8; go_loud (refine HMY.mono ?_; rintro e w5 ⟨rfl, T5, hb5, hg5⟩; have HB5 := hid hb5; have HG5 := hid hg5; have HO5 : Hid (Old w1 T5 w5) := HOW.out.goes hg5 hb0; have m1 := (HKB.out T5 w5 hg5 1).trans k1; have m2 := (HKB.out T5 w5 hg5 2).trans k2; clear hb5 hg5)) | (go_at_call 9; go_loud (refine (take_any 1 T5 w5 p rate burst tok l who _ HB5.out (by omega) HN0.out).mono ?_; rintro e w6 ⟨rfl, T6, hb6, hg6⟩; have HB6 := hid hb6; have HO6 : Hid (Old w1 T6 w6) := HO5.out.goes hg6 hb0; clear hb6 hg6)))
            go_roundw
            case rel => exact ⟨k + 1, worst + min (max n 0) m, by omega, by go_num, rfl, T6, _, _, HLL.out, HDD.out, HB6.out, HO6.out⟩
            case measure => simp [intOf]; omega
        · have hm' : mayB tok l who = false := by simpa using hm
          have HMY : Calls Try.prog 8 #[.pointer (some ⟨p, 0, none⟩), .int .i64 who] W fun e w' => e = .returned (.bool false) ∧ BkIs 1 T W p rate burst tok (mayL tok l who) w' := by
            have := may_any 1 T W p rate burst tok l who HBW.out (by omega)
            rw [hm'] at this
            exact this
          clear hm hm'
          generalize mayL tok l who = l' at *
          rcases q34 with q3 | q4
          · subst q3
            go_wp2_with (go_at_call 8; go_loud (refine HMY.mono ?_; rintro e w5 ⟨rfl, T5, hb5, hg5⟩; have HB5 := hid hb5; have HO5 : Hid (Old w1 T5 w5) := HOW.out.goes hg5 hb0; clear hb5 hg5))
            go_roundw
            case rel => exact ⟨k + 1, worst, by omega, by go_num, rfl, T5, _, _, HL.out, HHO.out, HB5.out, HO5.out⟩
            case measure => simp [intOf]; omega
          · subst q4
            go_wp2_with (go_at_call 8; go_loud (refine HMY.mono ?_; rintro e w5 ⟨rfl, T5, hb5, hg5⟩; have HB5 := hid hb5; have HO5 : Hid (Old w1 T5 w5) := HOW.out.goes hg5 hb0; clear hb5 hg5))
            go_roundw
            case rel => exact ⟨k + 1, worst, by omega, by go_num, rfl, T5, _, _, HL.out, HHO.out, HB5.out, HO5.out⟩
            case measure => simp [intOf]; omega
      have q3' : (kd == 3) = false := by simp; omega
      have q4' : (kd == 4) = false := by simp; omega
      by_cases q5 : kd = 5
      · subst q5
        have HLL : Hid ((leaveL l who).length ≤ k + 1) := hid (Nat.le_trans (len_leave l who) (by omega))
        go_wp2_with (go_at_call 10; go_loud (refine (bleave_any 1 T W p rate burst tok l who HBW.out (by omega)).mono ?_; rintro e w5 ⟨rfl, T5, hb5, hg5⟩; have HB5 := hid hb5; have HO5 : Hid (Old w1 T5 w5) := HOW.out.goes hg5 hb0; clear hb5 hg5))
        go_roundw
        case rel => exact ⟨k + 1, worst, by omega, by go_num, rfl, T5, _, _, HLL.out, HHO.out, HB5.out, HO5.out⟩
        case measure => simp [intOf]; omega
      have q5' : (kd == 5) = false := by simpa using q5
      go_wp2
      go_roundw
      case rel => exact ⟨k + 1, worst, by omega, by go_num, rfl, T, _, _, by omega, HHO.out, HBW.out, HOW.out⟩
      case measure => simp [intOf]; omega
    · have hge : ¬ (k : Int) < (sc.length : Int) := by omega
      go_wp2
      go_ret
      obtain ⟨T, tok, l, hl, hH, hB, hO⟩ := HH.out
      exact ⟨rfl, HB1.out.trans (hO.below.mono HB1.out.size)⟩

set_option maxRecDepth 100000 in
set_option maxHeartbeats 1000000 in
theorem lifted (os : Os) (started : os.Started) (H : Type) (enc : TypeId × Value → H) :
    ReturnsInHanded {} Try.checked os 3 .any (Rows.paceHoldsSpec.pre6 enc Try.prog Try.f3 Rows.paceHoldsRow.domain false) (Rows.paceHoldsSpec.post enc Try.prog Try.f3 false true false false) := by
  refine returnsInHanded_of_change_sized (C := Try.checked) Opn.own started (by kernel_rfl) Try.func3
    (ChangeSpec.witness6 (enc := enc) (C := Try.checked) false ⟨#[], #[.int .i64 0, .int .i64 0, .int .i64 0, .slice none 0 0], []⟩ 8 (by kernel_rfl) (by kernel_rfl) (by kernel_rfl) (by kernel_rfl)) ?_
  intro W base args ds gs before hval0 hW _ hsz0 _
  have hsz : (DataW.weightsEach Try.prog (Try.f3.params.toList ++ Rows.paceHoldsSpec.plain.varTypes Try.prog) (ds ++ gs)).all (· ≤ reachBytes) = true := hsz0
  clear hsz0
  have hval : ∀ (j : Nat) t v, Try.f3.params[j]? = some t → args[j]? = some v → Value.okWide Try.prog W .any base t v := hval0
  have hW' := hW
  obtain ⟨p, q, hA0, hV, rfl, hfz, hnd⟩ := hW
  have hA : DataW.TrodAll enc Try.prog W 0 (fun _ => true) true Try.f3.params.toList args.toList ds p := hA0
  rw [Try.params3] at hA hval hsz
  obtain ⟨v0, vs0, d0, ds0, p0, q0, hargs, rfl, rfl, h0, r0⟩ := trodAll_cons hA
  obtain ⟨v1, vs1, d1, ds1, p1, q1, rfl, rfl, rfl, h1, r1⟩ := trodAll_cons r0
  obtain ⟨v2, vs2, d2, ds2, p2, q2, rfl, rfl, rfl, h2, r2⟩ := trodAll_cons r1
  obtain ⟨v3, vs3, d3, ds3, p3, q3, rfl, rfl, rfl, h3, r3⟩ := trodAll_cons r2
  obtain ⟨rfl, rfl, rfl⟩ := trodAll_nil r3
  obtain rfl : args = #[v0, v1, v2, v3] := by cases args; simp_all
  obtain ⟨rfl, rfl⟩ := trodVars_none hV
  obtain ⟨n0, rfl, rfl, rfl, wf0⟩ := open_int Try.underlying3 (hval 0 3 v0 rfl rfl) h0
  obtain ⟨n1, rfl, rfl, rfl, wf1⟩ := open_int Try.underlying3 (hval 1 3 v1 rfl rfl) h1
  obtain ⟨n2, rfl, rfl, rfl, wf2⟩ := open_int Try.underlying3 (hval 2 3 v2 rfl rfl) h2
  have lt3 : ∀ x ∈ p3, x.block < W.heap.size := by obtain ⟨m, hm⟩ := h3; exact DataW.trod_lt m _ _ _ hm
  obtain ⟨a3, cap3, l3, rfl, ib3⟩ := Opn.script (hval 3 22 v3 rfl rfl) h3
  clear hA0 hval0
  refine (walk n0 n1 n2 a3 cap3 l3 W ib3).mono fun e W' ⟨he, bel⟩ => ?_
  subst he
  exact ⟨_, rfl, _, _, _, [], _, [], hW', trodAll_mk1 (shut_bool Try.underlying4 _), (trodAll_cons_mk (shut_int Try.underlying3 wf0) (trodAll_cons_mk (shut_int Try.underlying3 wf1) (trodAll_cons_mk (shut_int Try.underlying3 wf2) (trodAll_cons_mk (Below.trod Opn.laidOut (by kernel_rfl) (of_decide_eq_true (by kernel_rfl)) h3 bel lt3) trodAll_mk0)))), rfl, bel.frame _, fun h => by cases h⟩
end PaceHolds

theorem paceHolds_holds : Rows.PaceHoldsSaid :=
  OpenClaim.holds_of_wide 3 Try.f3 rfl rfl rfl rfl rfl rfl rfl ⟨rfl, rfl, rfl, rfl, rfl⟩ rfl rfl rfl rfl rfl (by kernel_rfl) Try.func3 (by kernel_rfl)
    (of_decide_eq_true (by kernel_rfl)) (by unfold Func.isWrapper; first | (rw [if_pos (by decide +kernel)]; kernel_rfl) | (rw [if_neg (by decide +kernel)]; exact ⟨rfl, rfl⟩))
    (fun os started H enc _ => PaceHolds.lifted os started H enc)
end Go.Proofs.Ytebfokjgeknciab
