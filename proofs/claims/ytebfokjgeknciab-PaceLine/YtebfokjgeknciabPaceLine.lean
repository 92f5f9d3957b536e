import Derived.Test.YtebfokjgeknciabRows
import Derived.Test.YtebfokjgeknciabOpL
import Derived.Test.YtebfokjgeknciabPkO
import Derived.BigQuiet
import Derived.WalkKit
import Derived.ProofKit
import Derived.OpenShut
import Derived.ShutString
import Derived.SizedLaws
import Derived.Below
namespace Go.Proofs.Ytebfokjgeknciab
namespace PaceLine
open Irw Lin Laws Go.ChangeShapes Go.WideShapes Go.ChangeAt Go.RowKit Pcm
open Go.ChangeMaps (open_string shut_string)
set_option linter.unusedVariables false
set_option linter.unusedSimpArgs false
set_option maxRecDepth 100000

theorem may_none {tok : Int} (l : List Int) (x : Int) (h : tok ≤ 0) : mayB tok l x = false ∧ mayL tok l x = joinL l x := by
  have e : mayB tok l x = false := by
    unfold mayB
    have : decide (0 < tok) = false := by simp; omega
    rw [this]; rfl
  exact ⟨e, by unfold mayL; rw [e]; rfl⟩
theorem may_first {tok : Int} {l : List Int} (h : 0 < tok) (hne : l ≠ []) : mayB tok l (l.getD 0 0) = true ∧ mayL tok l (l.getD 0 0) = l := by
  have e : mayB tok l (l.getD 0 0) = true := by
    unfold mayB letsB
    have : decide (0 < tok) = true := by simpa using h
    rw [this]
    simp
  exact ⟨e, by unfold mayL; rw [if_pos e]⟩
theorem getD_mem' {l : List Int} {i : Nat} (hi : i < l.length) : l.getD i 0 ∈ l := by
  have e : l.getD i 0 = l[i] := by simp [hi]
  rw [e]; exact List.getElem_mem hi
theorem may_later {tok : Int} {l : List Int} (hd : l.Nodup) {i : Nat} (h0 : 0 < i) (hi : i < l.length) : mayB tok l (l.getD i 0) = false ∧ mayL tok l (l.getD i 0) = l := by
  have hn : l.getD 0 0 ≠ l.getD i 0 := fun e => by
    have h1 := plc_at hd (k := 0) (by omega)
    have h2 := plc_at hd hi
    rw [e] at h1
    omega
  have e : mayB tok l (l.getD i 0) = false := by
    unfold mayB letsB
    have h1 : decide (l.length = 0) = false := by simp; intro z; rw [z] at hi; simp at hi
    have h2 : (l.getD 0 0 == l.getD i 0) = false := by simpa using hn
    rw [h1, h2]; simp
  refine ⟨e, ?_⟩
  unfold mayL
  rw [e]
  unfold joinL
  rw [if_pos (getD_mem' hi)]
  rfl
theorem leave_first {l : List Int} (hne : l ≠ []) : leaveL l (l.getD 0 0) = l.drop 1 := by
  have hp : 0 < l.length := List.length_pos_iff.2 hne
  unfold leaveL
  rw [if_pos (getD_mem' hp), plc_hit hp rfl (fun j hj => by omega)]
  cases l with
  | nil => rfl
  | cons a r => rfl
theorem mem_take_next {l : List Int} {q : Nat} (hq : q < l.length) (x : Int) : (x ∈ l.take (q + 1)) ↔ (x ∈ l.take q ∨ l.getD q 0 = x) := by
  have e : l.getD q 0 = l[q] := by simp [hq]
  rw [List.take_add_one, List.getElem?_eq_getElem hq, e, List.mem_append]
  exact or_congr Iff.rfl ⟨fun h => (by simpa using h : x = l[q]).symm, fun h => by simp [h]⟩
theorem tick_val {tok rate burst : Int} (h1 : -4000 ≤ tok) (h2 : tok ≤ 4000) (h3 : 1 ≤ rate) (h4 : rate ≤ 1000) : tickV tok rate burst = min (tok + rate) burst := by
  unfold tickV sadd
  rw [sat_in (by unfold R64; omega)]
theorem take_val {tok n : Int} (h1 : -4000 ≤ tok) (h2 : tok ≤ 4000) (h3 : 0 ≤ n) (h4 : n ≤ 4000) : takeV tok n = tok - n := by
  unfold takeV sadd
  rw [sat_in (by unfold R64; omega)]
  omega
def slen : Value → Nat
  | .slice _ n _ => n
  | _ => 0
/-- the line as the law holds it -/
structure LnAt (T : Nat → Nat) (w : World) (a : Option Addr) (c : Nat) (l : List Int) : Prop where
  is : IsI w a l
  le : l.length ≤ c
  no : a = none → c = 0
  own : ∀ b off, a = some ⟨b, off, none⟩ → T b = 4 ∧ b < w.heap.size
theorem LnAt.goes {t : Nat → Prop} {T T' : Nat → Nat} {w w' : World} {a : Option Addr} {c : Nat} {l : List Int} (h : LnAt T w a c l) (hg : Goes t T w T' w') (ht : ¬ t 4) : LnAt T' w' a c l :=
  ⟨fun hne => by
    obtain ⟨b, off, rfl, hr⟩ := h.is hne
    obtain ⟨h4, hlt⟩ := h.own b off rfl
    exact ⟨b, off, rfl, hr.keep (hg.block b hlt (by rw [h4]; exact ht)) hg.size⟩, h.le, h.no, fun b off e => by
    obtain ⟨h4, hlt⟩ := h.own b off e
    exact ⟨(hg.tag b hlt (by rw [h4]; exact ht)).trans h4, Nat.lt_of_lt_of_le hlt hg.size⟩⟩
theorem LnAt.of {T : Nat → Nat} {w : World} {a : Option Addr} {c : Nat} {l : List Int} (h : OwnL 4 T w (.slice a l.length c) l) : LnAt T w a c l := by
  obtain ⟨a', c', e, h1, h2, h3, h4⟩ := h.form
  simp only [Value.slice.injEq] at e
  obtain ⟨rfl, _, rfl⟩ := e
  exact ⟨h1, h2, h3, fun b off e => (h4 b off e).2⟩
theorem LnAt.tail {T : Nat → Nat} {w : World} {b off c : Nat} {l : List Int} (h : LnAt T w (some ⟨b, off, none⟩) c l) (hne : l ≠ []) : LnAt T w (if c = 1 then some ⟨b, off, none⟩ else some ⟨b, off + 1, none⟩) (c - 1) (l.drop 1) := by
  have hp : 0 < l.length := List.length_pos_iff.2 hne
  have hle := h.le
  obtain ⟨b', off', e, hr⟩ := h.is hne
  cases e
  have ho := h.own b off rfl
  by_cases hc : c = 1
  · rw [if_pos hc]
    have hl : l.drop 1 = [] := List.eq_nil_of_length_eq_zero (by rw [List.length_drop]; omega)
    rw [hl]
    exact ⟨IsI.nil _ _, Nat.zero_le _, fun e => (by cases e), fun b' off' e => by cases e; exact ho⟩
  · rw [if_neg hc]
    exact ⟨IsI.of (hr.drop 1), by rw [List.length_drop]; omega, fun e => (by cases e), fun b' off' e => by cases e; exact ho⟩
structure Ln3 (w1 : World) (p : Nat) (rate burst takes : Int) (l : List Int) (tok : Int) (a : Option Addr) (c : Nat) (T : Nat → Nat) (wr : World) : Prop where
  nd : l.Nodup
  len : l.length ≤ 300
  low : -(burst + takes) ≤ tok
  top : tok ≤ burst
  bk : BkAt 1 T wr p rate burst tok l
  ln : LnAt T wr a c l
  old : Old w1 T wr
theorem bk4 : ¬ bkT 1 4 := by unfold bkT; omega
theorem bk0 : ¬ bkT 1 0 := by unfold bkT; omega
theorem Ln3.below {w1 : World} {p : Nat} {rate burst takes : Int} {l : List Int} {tok : Int} {a : Option Addr} {c : Nat} {T : Nat → Nat} {wr wr' : World} (h : Ln3 w1 p rate burst takes l tok a c T wr) (hb : Below wr.heap.size wr wr') : Ln3 w1 p rate burst takes l tok a c T wr' :=
  ⟨h.nd, h.len, h.low, h.top, h.bk.below hb, h.ln.goes (Goes.below (t := fun _ => False) hb) (fun z => z), h.old.goes (Goes.below (t := fun _ => False) hb) (fun z => z)⟩
theorem Ln3.turn {w1 : World} {p : Nat} {rate burst takes : Int} {l : List Int} {tok tok' : Int} {a : Option Addr} {c : Nat} {T T' : Nat → Nat} {wr wr' : World} (h : Ln3 w1 p rate burst takes l tok a c T wr) (hb : BkAt 1 T' wr' p rate burst tok' l) (hg : Goes (bkT 1) T wr T' wr') (h1 : -(burst + takes) ≤ tok') (h2 : tok' ≤ burst) : Ln3 w1 p rate burst takes l tok' a c T' wr' :=
  ⟨h.nd, h.len, h1, h2, hb, h.ln.goes hg bk4, h.old.goes hg bk0⟩
theorem Ln3.next {w1 : World} {p : Nat} {rate burst takes : Int} {l : List Int} {tok tok' : Int} {b off c : Nat} {T T' : Nat → Nat} {wr wr' : World} (h : Ln3 w1 p rate burst takes l tok (some ⟨b, off, none⟩) c T wr) (hne : l ≠ []) (hb : BkAt 1 T' wr' p rate burst tok' (l.drop 1)) (hg : Goes (bkT 1) T wr T' wr') (h1 : -(burst + takes) ≤ tok') (h2 : tok' ≤ burst) :
    Ln3 w1 p rate burst takes (l.drop 1) tok' (if c = 1 then some ⟨b, off, none⟩ else some ⟨b, off + 1, none⟩) (c - 1) T' wr' :=
  ⟨h.nd.sublist (List.drop_sublist _ _), Nat.le_trans (by rw [List.length_drop]; omega) h.len, h1, h2, hb, (h.ln.goes hg bk4).tail hne, h.old.goes hg bk0⟩
structure Ln1 (w1 : World) (p : Nat) (rate burst : Int) (k : Nat) (l : List Int) (v : Value) (T : Nat → Nat) (wr : World) : Prop where
  nd : l.Nodup
  len : l.length ≤ k
  bk : BkAt 1 T wr p rate burst (-burst) l
  ln : OwnL 4 T wr v l
  old : Old w1 T wr
theorem nodup_joinL {l : List Int} {x : Int} (h : l.Nodup) (hx : ¬ x ∈ l) : (l ++ [x]).Nodup := nodup_join h hx
set_option maxHeartbeats 8000000 in
theorem walk (rate burst takes : Int) (a : Option Addr) (c : Nat) (who : List Int) (w : World) (ha : IsI w a who) :
    Calls Try.prog 4 #[.int .i64 rate, .int .i64 burst, .int .i64 takes, .slice a who.length c] w fun e w' => e = .returned (.bool true) ∧ Below w.heap.size w w' := by
  obtain ⟨i0, hi0, hz0, hz1, hz2⟩ := info_parts infoI
  have HA : Hid (IsI w a who) := ha
  clear ha
  have hk := known_any w
  by_cases q0 : (300 : Int) < (who.length : Int)
  · have r0 : decide ((300 : Int) < (who.length : Int)) = true := by simpa using q0
    go_enter Try.func4, Try.ntmps4
    go_wp2_with (go_at_call 5; go_loud (refine hk.mono ?_; rintro e w1 ⟨rfl, hb1⟩; have HB1 : Hid (Below w.heap.size w w1) := hb1; clear hb1))
    go_ret
    exact ⟨rfl, HB1.out⟩
  have r0 : decide ((300 : Int) < (who.length : Int)) = false := by simpa using q0
  by_cases q1 : rate < 1
  · have r1 : decide (rate < 1) = true := by simpa using q1
    go_enter Try.func4, Try.ntmps4
    go_wp2_with (go_at_call 5; go_loud (refine hk.mono ?_; rintro e w1 ⟨rfl, hb1⟩; have HB1 : Hid (Below w.heap.size w w1) := hb1; clear hb1))
    go_ret
    exact ⟨rfl, HB1.out⟩
  have r1 : decide (rate < 1) = false := by simpa using q1
  by_cases q2 : burst < 1
  · have r2 : decide (burst < 1) = true := by simpa using q2
    go_enter Try.func4, Try.ntmps4
    go_wp2_with (go_at_call 5; go_loud (refine hk.mono ?_; rintro e w1 ⟨rfl, hb1⟩; have HB1 : Hid (Below w.heap.size w w1) := hb1; clear hb1))
    go_ret
    exact ⟨rfl, HB1.out⟩
  have r2 : decide (burst < 1) = false := by simpa using q2
  by_cases q3 : 1000 < rate
  · have r3 : decide (1000 < rate) = true := by simpa using q3
    go_enter Try.func4, Try.ntmps4
    go_wp2_with (go_at_call 5; go_loud (refine hk.mono ?_; rintro e w1 ⟨rfl, hb1⟩; have HB1 : Hid (Below w.heap.size w w1) := hb1; clear hb1))
    go_ret
    exact ⟨rfl, HB1.out⟩
  have r3 : decide (1000 < rate) = false := by simpa using q3
  by_cases q4 : 1000 < burst
  · have r4 : decide (1000 < burst) = true := by simpa using q4
    go_enter Try.func4, Try.ntmps4
    go_wp2_with (go_at_call 5; go_loud (refine hk.mono ?_; rintro e w1 ⟨rfl, hb1⟩; have HB1 : Hid (Below w.heap.size w w1) := hb1; clear hb1))
    go_ret
    exact ⟨rfl, HB1.out⟩
  have r4 : decide (1000 < burst) = false := by simpa using q4
  by_cases q5 : takes < 1
  · have r5 : decide (takes < 1) = true := by simpa using q5
    go_enter Try.func4, Try.ntmps4
    go_wp2_with (go_at_call 5; go_loud (refine hk.mono ?_; rintro e w1 ⟨rfl, hb1⟩; have HB1 : Hid (Below w.heap.size w w1) := hb1; clear hb1))
    go_ret
    exact ⟨rfl, HB1.out⟩
  have r5 : decide (takes < 1) = false := by simpa using q5
  by_cases q6 : 1000 < takes
  · have r6 : decide (1000 < takes) = true := by simpa using q6
    go_enter Try.func4, Try.ntmps4
    go_wp2_with (go_at_call 5; go_loud (refine hk.mono ?_; rintro e w1 ⟨rfl, hb1⟩; have HB1 : Hid (Below w.heap.size w w1) := hb1; clear hb1))
    go_ret
    exact ⟨rfl, HB1.out⟩
  have r6 : decide (1000 < takes) = false := by simpa using q6
  have HQ : Hid (1 ≤ rate ∧ 1 ≤ burst ∧ 1 ≤ takes ∧ rate ≤ 1000 ∧ burst ≤ 1000 ∧ takes ≤ 1000) := hid (by omega)
  have hlen : who.length ≤ 300 := by omega
  have z1 : IntKind.i64.wrap (2 * burst) = 2 * burst := IntWalk.i64_in _ (by have := HQ.out; omega)
  go_enter Try.func4, Try.ntmps4
  go_upto_region 4 with (go_at_call 5; go_loud (refine hk.mono ?_; rintro e w1 ⟨rfl, hb1⟩; have HB1 : Hid (Below w.heap.size w w1) := hb1; clear hb1))
  clear hk q0 r0 q1 r1 q2 r2 q3 r3 q4 r4 q5 r5 q6 r6
  have HN : Calls Try.prog 6 #[.int .i64 rate, .int .i64 burst] w1 fun e w' => ∃ p T', e = .returned (.pointer (some ⟨p, 0, none⟩)) ∧ BkAt 1 T' w' p rate burst burst [] ∧ Goes (fun _ => False) (fun _ => 0) w1 T' w' ∧ Below w1.heap.size w1 w' := by
    have := newBucket_any 1 (fun _ => 0) rate burst (by have := HQ.out; unfold R64; omega) (by have := HQ.out; unfold R64; omega) w1 (fun _ _ => rfl)
    rw [show max rate 0 = rate from by have := HQ.out; omega, show max burst 0 = burst from by have := HQ.out; omega] at this
    exact this
  have HTK : ∀ T V p, BkAt 1 T V p rate burst burst [] → Calls Try.prog 9 #[.pointer (some ⟨p, 0, none⟩), .int .i64 1099511627776, .int .i64 (2 * burst)] V fun e w' => e = .returned (.tuple #[]) ∧ BkIs 1 T V p rate burst (-burst) [] w' := fun T V p h => by
    have := take_any 1 T V p rate burst burst [] 1099511627776 (2 * burst) h (by simp) (by have := HQ.out; unfold R64; omega)
    rw [take_val (by have := HQ.out; omega) (by have := HQ.out; omega) (by have := HQ.out; omega) (by have := HQ.out; omega), show burst - 2 * burst = -burst from by omega, show leaveL [] 1099511627776 = [] from rfl] at this
    exact this
  go_wp2_with (first | (go_at_call 6; go_loud (refine HN.mono ?_; rintro e w2 ⟨p, T2, rfl, hk2, hg2, hb2⟩; have HK2 := hid hk2; have HO2 : Hid (Old w1 T2 w2) := (Old.first w1).goes hg2 (fun z => z); clear hk2 hg2 hb2)) | (go_at_call 9; go_loud (refine (HTK T2 w2 p HK2.out).mono ?_; rintro e w3 ⟨rfl, T3, hk3, hg3⟩; have HH3 : Hid (Ln1 w1 p rate burst 0 [] (.slice none 0 0) T3 w3) := hid ⟨List.nodup_nil, Nat.le_refl _, hk3, OwnL.nil _ _ _, HO2.out.goes hg3 bk0⟩; clear hk3 hg3)))
  clear HN HTK HK2 HO2 z1
  go_loopw [11, 12] (fun v i wr => ∃ (k : Nat) (L : List Int) (T : Nat → Nat), k ≤ who.length ∧ i = .int .i64 (k : Int) ∧ Hid (Ln1 w1 p rate burst k L v T wr)) (fun _ i _ => who.length - (intOf i).toNat)
  case atStart => exact ⟨0, [], T3, Nat.zero_le _, rfl, HH3⟩
  case round =>
    clear HH3
    obtain ⟨k, L, T, hk, rfl, HH⟩ := hrel
    obtain ⟨aL, cL, rfl, hiL, hcL, hnL, -⟩ := HH.out.ln.form
    have HIL := hid hiL
    have hLl : L.length ≤ 300 := Nat.le_trans HH.out.len (by omega)
    have w4 : IntKind.i64.wrap ((k : Int) + 1) = (k : Int) + 1 := IntWalk.i64_in _ (by omega)
    clear hiL
    by_cases hlt : k < who.length
    · have hq : (k : Int) < (who.length : Int) := by omega
      have hne : who ≠ [] := by rintro rfl; simp at hlt
      obtain ⟨bw, ow, rfl, hrow⟩ := HA.out hne
      have hb1 : bw < w1.heap.size := Nat.lt_of_lt_of_le hrow.1 HB1.out.size
      have hbz : bw < wr.heap.size := Nat.lt_of_lt_of_le hb1 HH.out.old.below.size
      have e0 : wr.cell? ⟨bw, ow + k, none⟩ = some (.int .i64 (who.getD k 0)) := (HH.out.old.below.cell (p := ⟨bw, ow + k, none⟩) hb1).trans ((HB1.out.cell (p := ⟨bw, ow + k, none⟩) hrow.1).trans (hrow.cell hlt))
      have hT0 : T bw = 0 := HH.out.old.zero _ (.inl hb1)
      generalize who.getD k 0 = x at *
      have hm0 := may_none (tok := -burst) L x (by have := HQ.out; omega)
      have HMY : Calls Try.prog 8 #[.pointer (some ⟨p, 0, none⟩), .int .i64 x] wr fun e w' => e = .returned (.bool false) ∧ BkIs 1 T wr p rate burst (-burst) (joinL L x) w' := by
        have := may_any 1 T wr p rate burst (-burst) L x HH.out.bk (by omega)
        rw [hm0.1, hm0.2] at this
        exact this
      have hle0 : -burst ≤ 0 := by have := HQ.out; omega
      clear hm0 hne hrow
      go_wp2_with (first | (go_at_call 11; go_loud (refine (tokens_any 1 T wr p rate burst (-burst) L HH.out.bk).mono ?_; rintro e w99 ⟨rfl, hw9⟩; have hw8 := hw9.symm; clear hw9; subst hw8)) | (go_at_call 8; go_loud (refine HMY.mono ?_; rintro e w5 ⟨rfl, T5, hb5, hg5⟩; have HB5 := hid hb5; have HL5 : Hid (OwnL 4 T5 w5 (.slice aL L.length cL) L) := HH.out.ln.goes hg5 bk4; have HO5 : Hid (Old w1 T5 w5) := HH.out.old.goes hg5 bk0; have e5 : w5.cell? ⟨bw, ow + k, none⟩ = some (.int .i64 x) := (hg5.cell hbz (by rw [hT0]; exact bk0)).trans e0; have hb5z : bw < w5.heap.size := Nat.lt_of_lt_of_le hbz hg5.size; clear hb5 hg5)))
      clear e0 HMY hbz HIL
      have HI5 : Hid (IsI w5 aL L) := HL5.out.isI.1
      go_loopw [13, 14] (fun is j wr => ∃ (q m : Nat) (d : Bool), q ≤ L.length ∧ j = .int .i64 (q : Int) ∧ is = .bool d ∧ Hid (d = decide (x ∈ L.take q)) ∧ wr = w5.drewN m) (fun _ j _ => L.length - (intOf j).toNat)
      case atStart => exact ⟨0, 0, false, Nat.zero_le _, rfl, rfl, hid (by simp), rfl⟩
      case round =>
        obtain ⟨q, m, d, hqL, rfl, rfl, HD, rfl⟩ := hrel
        have w6 : IntKind.i64.wrap ((q : Int) + 1) = (q : Int) + 1 := IntWalk.i64_in _ (by omega)
        by_cases hql : q < L.length
        · have hqi : (q : Int) < (L.length : Int) := by omega
          have hne : L ≠ [] := by rintro rfl; simp at hql
          obtain ⟨bl, ol, rfl, hrl⟩ := HI5.out hne
          have c0 := hrl.cell hql
          have HMT := hid (mem_take_next hql x)
          generalize L.getD q 0 = y at *
          clear hne hrl
          cases d with
          | true =>
            have HDT : Hid (true = decide (x ∈ L.take (q + 1))) := hid (by have h1 := HD.out; have h2 := HMT.out; simp at h1; simp [h2, h1])
            clear HD HMT
            go_wp2
            go_quiet (fail)
            go_wp2
            go_roundw
            case rel => exact ⟨q + 1, _, true, by omega, by go_num, rfl, HDT, rfl⟩
            case measure => simp [intOf]; omega
          | false =>
            have HDT : Hid (decide (y = x) = decide (x ∈ L.take (q + 1))) := hid (by have h1 := HD.out; have h2 := HMT.out; simp at h1; simp [h2, h1])
            clear HD HMT
            by_cases hyx : y = x
            · subst hyx
              rw [show decide (y = y) = true from by simp] at HDT
              go_wp2
              go_quiet (fail)
              go_wp2
              go_roundw
              case rel => exact ⟨q + 1, _, true, by omega, by go_num, by simp, HDT, rfl⟩
              case measure => simp [intOf]; omega
            · rw [show decide (y = x) = false from by simpa using hyx] at HDT
              have hyx' : decide (y = x) = false := by simpa using hyx
              go_wp2
              go_quiet (fail)
              go_wp2
              go_roundw
              case rel => exact ⟨q + 1, _, false, by omega, by go_num, by simp [hyx], HDT, rfl⟩
              case measure => simp [intOf]; omega
        · obtain rfl : q = L.length := by omega
          have hqi : ¬ (L.length : Int) < (L.length : Int) := by omega
          have HDX : Hid (d = decide (x ∈ L)) := hid (by have := HD.out; rwa [List.take_length] at this)
          clear HD
          have hbd : Below w5.heap.size w5 (w5.drewN m) := below_drewN (Below.refl _ _) m
          have HBW : Hid (BkAt 1 T5 (w5.drewN m) p rate burst (-burst) (joinL L x)) := HB5.out.below hbd
          have HLW : Hid (OwnL 4 T5 (w5.drewN m) (.slice aL L.length cL) L) := HL5.out.below hbd
          have HOW : Hid (Old w1 T5 (w5.drewN m)) := HO5.out.goes (Goes.below (t := fun _ => False) hbd) (fun z => z)
          have eW : (w5.drewN m).cell? ⟨bw, ow + k, none⟩ = some (.int .i64 x) := (hbd.cell (p := ⟨bw, ow + k, none⟩) hb5z).trans e5
          clear hbd HB5 HL5 HO5 e5 hb5z HI5
          generalize w5.drewN m = W at *
          cases d with
          | true =>
            have hx : x ∈ L := by have := HDX.out; simpa using this.symm
            have HBX : Hid (BkAt 1 T5 W p rate burst (-burst) L) := hid (by have := HBW.out; unfold joinL at this; rwa [if_pos hx] at this)
            clear HDX HBW hx
            go_wp2
            go_roundw
            case rel => exact ⟨k + 1, L, T5, by omega, by go_num, HH.out.nd, Nat.le_trans HH.out.len (by omega), HBX.out, HLW.out, HOW.out⟩
            case measure => simp [intOf]; omega
          | false =>
            have hx : ¬ x ∈ L := by have := HDX.out; simpa using this.symm
            have HBX : Hid (BkAt 1 T5 W p rate burst (-burst) (L ++ [x]) ∧ (L ++ [x]).Nodup) := hid ⟨by have := HBW.out; unfold joinL at this; rwa [if_neg hx] at this, nodup_joinL HH.out.nd hx⟩
            clear HDX HBW hx
            go_wp2_with (at_builtin; go_loud (refine wpList_appL _ (by rfl) (.tmp 96) (.tmp 101) 32 (by rfl) i0 Try.underlying32 hi0 hz0 hz1 hz2 4 T5 (.slice aL L.length cL) L (by rfl) (HLW.out.below ((Below.refl _ _).alloc (Nat.le_refl _) _)) (some ⟨W.heap.size, 0, none⟩) 1 1 [x] (by rfl) (by rfl) (by simp) isI_new (by simp; omega) ?_; intro a7 c7 T7 w7 hown7 hgo7 hat7; have hg' : Goes (· = 4) T5 W T7 w7 := (Goes.below ((Below.refl _ _).alloc (Nat.le_refl _) _)).trans hgo7; have HX7 : Hid (Ln1 w1 p rate burst (k + 1) (L ++ [x]) (.slice a7 (L.length + [x].length) c7) T7 w7) := hid ⟨HBX.out.2, by have := HH.out.len; simp; omega, HBX.out.1.goes hg' (by omega) (by omega) (by omega), hown7, HOW.out.goes hg' (by omega)⟩; clear hown7 hgo7 hat7 hg'))
            go_roundw
            case rel => exact ⟨k + 1, L ++ [x], T7, by omega, by go_num, HX7⟩
            case measure => simp [intOf]; omega
    · have hge : ¬ (k : Int) < (who.length : Int) := by omega
      have HLN : Calls Try.prog 13 #[.pointer (some ⟨p, 0, none⟩)] wr fun e w' => ∃ a' c', e = .returned (.slice a' L.length c') ∧ IsI w' a' L ∧ Below wr.heap.size wr w' := by
        refine (line_any 1 T wr p rate burst (-burst) L HH.out.bk (by omega)).mono ?_
        rintro e w' ⟨a', c', he, ho, hb⟩
        exact ⟨a', c', he, isI_owns ho rfl, hb⟩
      have HL30 : Hid (Ln3 w1 p rate burst takes L (-burst) aL cL T wr) := hid ⟨HH.out.nd, hLl, by have := HQ.out; omega, by have := HQ.out; omega, HH.out.bk, LnAt.of HH.out.ln, HH.out.old⟩
      clear HH
      go_wp2_with (first | (go_at_call 13; go_loud (refine HLN.mono ?_; rintro e w9 ⟨a9, c9, rfl, hi9, hb9⟩; have HI9 := hid hi9; have HB9 := hid hb9; clear hi9 hb9)) | (go_at_call 12; go_loud (refine (sameInts_true a9 aL c9 cL L.length L w9 HI9.out (HIL.out.below HB9.out) rfl (by omega)).mono ?_; rintro e w10 ⟨rfl, n10, hw10⟩; have HL3 : Hid (Ln3 w1 p rate burst takes L (-burst) aL cL T w10) := hid (by rw [hw10]; exact (HL30.out.below HB9.out).below (below_drewN (Below.refl _ _) n10)); clear hw10)))
      clear HLN HL30 HIL HI9 HB9 hge
      go_loopw [11] (fun v wr => ∃ (a : Option Addr) (c : Nat) (L : List Int) (tok : Int) (T : Nat → Nat), v = .slice a L.length c ∧ Hid (Ln3 w1 p rate burst takes L tok a c T wr)) (fun v _ => slen v)
      case atStart => exact ⟨aL, cL, L, -burst, T, rfl, HL3⟩
      case round =>
        clear HL3 hcL hnL hLl
        obtain ⟨aL, cL, L, tok, T, rfl, HL⟩ := hrel
        have hLl := HL.out.len
        by_cases hL0 : L.length = 0
        · have hl0 : ¬ (0 : Int) < (L.length : Int) := by omega
          go_wp2
          go_ret
          exact ⟨rfl, HB1.out.trans (HL.out.old.below.mono HB1.out.size)⟩
        have hl0 : (0 : Int) < (L.length : Int) := by omega
        have hl1 : 0 < L.length := by omega
        have hl2 : decide (0 < L.length) = true := by simpa using hl1
        have hne : L ≠ [] := by rintro rfl; simp at hL0
        obtain ⟨b, off, rfl, -⟩ := HL.out.ln.is hne
        have HNE := hid hne
        have HLW := hid HL.out.low
        have hcL := HL.out.ln.le
        clear hne
        go_wp2
        go_loopw [15] (fun j wr => ∃ (n : Nat) (tk : Int) (T : Nat → Nat), j = .int .i64 (n : Int) ∧ n ≤ 2001 ∧ (tok + n ≤ tk ∨ 0 < tk) ∧ Hid (Ln3 w1 p rate burst takes L tk (some ⟨b, off, none⟩) cL T wr)) (fun j _ => 5000 - (intOf j).toNat)
        case atStart => exact ⟨0, tok, T, rfl, by omega, .inl (by omega), HL⟩
        case round =>
          clear HL
          obtain ⟨n, tk, T, rfl, hn, hor, HL⟩ := hrel
          by_cases h0 : tk ≤ 0
          · have z1 : IntKind.i64.wrap (burst + takes) = burst + takes := IntWalk.i64_in _ (by have := HQ.out; omega)
            have z2 : IntKind.i64.wrap (4 * (burst + takes)) = 4 * (burst + takes) := IntWalk.i64_in _ (by have := HQ.out; omega)
            have z4 : IntKind.i64.wrap ((n : Int) + 1) = (n : Int) + 1 := IntWalk.i64_in _ (by omega)
            have hnb : (n : Int) ≤ burst + takes := by have := HLW.out; omega
            have z3 : ¬ (4 * (burst + takes) < (n : Int)) := by have := HQ.out; omega
            have HTV := hid (tick_val (tok := tk) (rate := rate) (burst := burst) (by have := HQ.out; have := HL.out.low; omega) (by omega) HQ.out.1 HQ.out.2.2.2.1)
            have HOR : Hid (tok + (n + 1 : Nat) ≤ tickV tk rate burst ∨ 0 < tickV tk rate burst) := hid (by rw [HTV.out]; have := HQ.out; omega)
            go_wp2_with (first | (go_at_call 11; go_loud (refine (tokens_any 1 T wr p rate burst tk L HL.out.bk).mono ?_; rintro e w99 ⟨rfl, hw9⟩; have hw8 := hw9.symm; clear hw9; subst hw8)) | (go_at_call 7; go_loud (refine (tick_any 1 T wr p rate burst tk L HL.out.bk).mono ?_; rintro e w5 ⟨rfl, T5, hb5, hg5⟩; have HL5 : Hid (Ln3 w1 p rate burst takes L (tickV tk rate burst) (some ⟨b, off, none⟩) cL T5 w5) := hid (HL.out.turn hb5 hg5 (by rw [HTV.out]; have := HQ.out; have := HL.out.low; omega) (by rw [HTV.out]; omega)); clear hb5 hg5)))
            go_roundw
            case rel => exact ⟨n + 1, _, T5, by go_num, by have := HQ.out; omega, HOR.out, HL5⟩
            case measure => simp [intOf]; omega
          · have z5 : IntKind.i64.wrap ((L.length : Int) - 1) = (L.length : Int) - 1 := IntWalk.i64_in _ (by omega)
            go_wp2_with (go_at_call 11; go_loud (refine (tokens_any 1 T wr p rate burst tk L HL.out.bk).mono ?_; rintro e w99 ⟨rfl, hw9⟩; have hw8 := hw9.symm; clear hw9; subst hw8))
            go_loopw [16] (fun i wr => ∃ (q : Nat) (T : Nat → Nat), q < L.length ∧ i = .int .i64 (q : Int) ∧ Hid (Ln3 w1 p rate burst takes L tk (some ⟨b, off, none⟩) cL T wr)) (fun i _ => (intOf i).toNat)
            case atStart => exact ⟨L.length - 1, T, by omega, by rw [show ((L.length - 1 : Nat) : Int) = (L.length : Int) - 1 from by omega], HL⟩
            case round =>
              clear HL
              obtain ⟨q, T, hq, rfl, HL⟩ := hrel
              obtain ⟨b', off', e', hrow⟩ := HL.out.ln.is HNE.out
              cases e'
              have hbo := HL.out.ln.own b off rfl
              by_cases hq0 : 0 < q
              · have hqi : (0 : Int) < (q : Int) := by omega
                have hqj : (q : Int) < (L.length : Int) := by omega
                have c0 := hrow.cell hq
                have z6 : IntKind.i64.wrap ((q : Int) - 1) = (q : Int) - 1 := IntWalk.i64_in _ (by omega)
                have HMY : Calls Try.prog 8 #[.pointer (some ⟨p, 0, none⟩), .int .i64 (L.getD q 0)] wr fun e w' => e = .returned (.bool false) ∧ BkIs 1 T wr p rate burst tk L w' := by
                  have hm := may_later (tok := tk) HL.out.nd hq0 hq
                  have := may_any 1 T wr p rate burst tk L (L.getD q 0) HL.out.bk (by omega)
                  rw [hm.1, hm.2] at this
                  exact this
                clear hrow
                generalize L.getD q 0 = y at *
                go_wp2_with (go_at_call 8; go_loud (refine HMY.mono ?_; rintro e w5 ⟨rfl, T5, hb5, hg5⟩; have HL5 : Hid (Ln3 w1 p rate burst takes L tk (some ⟨b, off, none⟩) cL T5 w5) := hid (HL.out.turn hb5 hg5 HL.out.low HL.out.top); clear hb5 hg5))
                go_roundw
                case rel => exact ⟨q - 1, T5, by omega, by rw [show ((q - 1 : Nat) : Int) = (q : Int) - 1 from by omega], HL5⟩
                case measure => simp [intOf]; omega
              · obtain rfl : q = 0 := by omega
                have c0 := hrow.cell hq
                rw [Nat.add_zero] at c0
                have hm := may_first (tok := tk) (l := L) (by omega) HNE.out
                have HLF := hid (leave_first HNE.out)
                have HMY : Calls Try.prog 8 #[.pointer (some ⟨p, 0, none⟩), .int .i64 (L.getD 0 0)] wr fun e w' => e = .returned (.bool true) ∧ BkIs 1 T wr p rate burst tk L w' := by
                  have := may_any 1 T wr p rate burst tk L (L.getD 0 0) HL.out.bk (by omega)
                  rw [hm.1, hm.2] at this
                  exact this
                have HTV : Hid (takeV tk takes = tk - takes) := hid (take_val (by have := HQ.out; have := HL.out.low; omega) (by have := HQ.out; have := HL.out.top; omega) (by have := HQ.out; omega) (by have := HQ.out; omega))
                have HTK : ∀ T V, BkAt 1 T V p rate burst tk L → Calls Try.prog 9 #[.pointer (some ⟨p, 0, none⟩), .int .i64 (L.getD 0 0), .int .i64 takes] V fun e w' => e = .returned (.tuple #[]) ∧ BkIs 1 T V p rate burst (tk - takes) (L.drop 1) w' := fun T V h => by
                  have := take_any 1 T V p rate burst tk L (L.getD 0 0) takes h (by omega) (by have := HQ.out; unfold R64; omega)
                  rw [HTV.out, HLF.out] at this
                  exact this
                have HLN : ∀ T V, BkAt 1 T V p rate burst (tk - takes) (L.drop 1) → Calls Try.prog 13 #[.pointer (some ⟨p, 0, none⟩)] V fun e w' => ∃ a' c', e = .returned (.slice a' (L.length - 1) c') ∧ IsI w' a' (L.drop 1) ∧ Below V.heap.size V w' := fun T V h => by
                  refine (line_any 1 T V p rate burst (tk - takes) (L.drop 1) h (by rw [List.length_drop]; omega)).mono ?_
                  rintro e w' ⟨a', c', he, ho, hb⟩
                  refine ⟨a', c', ?_, isI_owns ho rfl, hb⟩
                  rw [he, List.length_drop]
                clear hrow hm HTV HLF
                generalize L.getD 0 0 = y at *
                go_wp2_with (first | (go_at_call 8; go_loud (refine HMY.mono ?_; rintro e w5 ⟨rfl, T5, hb5, hg5⟩; have HB5 := hid hb5; have HG5 := hid hg5; have c5 : w5.cell? ⟨b, off, none⟩ = some (.int .i64 y) := (hg5.cell hbo.2 (by rw [hbo.1]; exact bk4)).trans c0; clear hb5 hg5)) | (go_at_call 9; go_loud (refine (HTK T5 w5 HB5.out).mono ?_; rintro e w6 ⟨rfl, T6, hb6, hg6⟩; have HL6 : Hid (Ln3 w1 p rate burst takes (L.drop 1) (tk - takes) (if cL = 1 then some ⟨b, off, none⟩ else some ⟨b, off + 1, none⟩) (cL - 1) T6 w6) := hid (HL.out.next HNE.out hb6 (HG5.out.trans hg6) (by have := HQ.out; omega) (by have := HQ.out; have := HL.out.top; omega)); clear hb6 hg6)) | (go_at_call 13; go_loud (refine (HLN T6 w6 HL6.out.bk).mono ?_; rintro e w9 ⟨a9, c9, rfl, hi9, hb9⟩; have HI9 := hid hi9; have HB9 := hid hb9; clear hi9 hb9)) | (go_at_call 12; go_loud (refine (sameInts_true a9 _ c9 _ (L.length - 1) (L.drop 1) w9 HI9.out (HL6.out.ln.is.below HB9.out) (by rw [List.length_drop]) (by omega)).mono ?_; rintro e w10 ⟨rfl, n10, hw10⟩; have HLA : Hid (Ln3 w1 p rate burst takes (L.drop 1) (tk - takes) (if cL = 1 then some ⟨b, off, none⟩ else some ⟨b, off + 1, none⟩) (cL - 1) T6 w10) := hid (by rw [hw10]; exact (HL6.out.below HB9.out).below (below_drewN (Below.refl _ _) n10)); clear hw10)))
                go_roundw
                case rel => exact ⟨_, _, L.drop 1, tk - takes, T6, by rw [List.length_drop], HLA⟩
                case measure => simp [slen]; omega

set_option maxRecDepth 100000 in
set_option maxHeartbeats 1000000 in
theorem lifted (os : Os) (started : os.Started) (H : Type) (enc : TypeId × Value → H) :
    ReturnsInHanded {} Try.checked os 4 .any (Rows.paceLineSpec.pre6 enc Try.prog Try.f4 Rows.paceLineRow.domain false) (Rows.paceLineSpec.post enc Try.prog Try.f4 false true false false) := by
  refine returnsInHanded_of_change_sized (C := Try.checked) Opn.own started (by kernel_rfl) Try.func4
    (ChangeSpec.witness6 (enc := enc) (C := Try.checked) false ⟨#[], #[.int .i64 0, .int .i64 0, .int .i64 0, .slice none 0 0], []⟩ 8 (by kernel_rfl) (by kernel_rfl) (by kernel_rfl) (by kernel_rfl)) ?_
  intro W base args ds gs before hval0 hW _ hsz0 _
  have hsz : (DataW.weightsEach Try.prog (Try.f4.params.toList ++ Rows.paceLineSpec.plain.varTypes Try.prog) (ds ++ gs)).all (· ≤ reachBytes) = true := hsz0
  clear hsz0
  have hval : ∀ (j : Nat) t v, Try.f4.params[j]? = some t → args[j]? = some v → Value.okWide Try.prog W .any base t v := hval0
  have hW' := hW
  obtain ⟨p, q, hA0, hV, rfl, hfz, hnd⟩ := hW
  have hA : DataW.TrodAll enc Try.prog W 0 (fun _ => true) true Try.f4.params.toList args.toList ds p := hA0
  rw [Try.params4] at hA hval hsz
  obtain ⟨v0, vs0, d0, ds0, p0, q0, hargs, rfl, rfl, h0, r0⟩ := trodAll_cons hA
  obtain ⟨v1, vs1, d1, ds1, p1, q1, rfl, rfl, rfl, h1, r1⟩ := trodAll_cons r0
  obtain ⟨v2, vs2, d2, ds2, p2, q2, rfl, rfl, rfl, h2, r2⟩ := trodAll_cons r1
  obtain ⟨v3, vs3, d3, ds3, p3, q3, rfl, rfl, rfl, h3, r3⟩ := trodAll_cons r2
  obtain ⟨rfl, rfl, rfl⟩ := trodAll_nil r3
  obtain rfl : args = #[v0, v1, v2, v3] := by cases args; simp_all
  obtain ⟨rfl, rfl⟩ := trodVars_none hV
  obtain ⟨n0, rfl, rfl, rfl, wf0⟩ := open_int Try.underlying3 (hval 0 3 v0 rfl rfl) h0
  obtain ⟨n1, rfl, rfl, rfl, wf1⟩ := open_int Try.underlying3 (hval 1 3 v1 rfl rfl) h1
  obtain ⟨n2, rfl, rfl, rfl, wf2⟩ := open_int Try.underlying3 (hval 2 3 v2 rfl rfl) h2
  have lt3 : ∀ x ∈ p3, x.block < W.heap.size := by obtain ⟨m, hm⟩ := h3; exact DataW.trod_lt m _ _ _ hm
  obtain ⟨a3, cap3, l3, rfl, ib3⟩ := Opn.ints (hval 3 32 v3 rfl rfl) h3
  clear hA0 hval0
  refine (walk n0 n1 n2 a3 cap3 l3 W ib3.1).mono fun e W' ⟨he, bel⟩ => ?_
  subst he
  exact ⟨_, rfl, _, _, _, [], _, [], hW', trodAll_mk1 (shut_bool Try.underlying4 _), (trodAll_cons_mk (shut_int Try.underlying3 wf0) (trodAll_cons_mk (shut_int Try.underlying3 wf1) (trodAll_cons_mk (shut_int Try.underlying3 wf2) (trodAll_cons_mk (Below.trod Opn.laidOut (by kernel_rfl) (of_decide_eq_true (by kernel_rfl)) h3 bel lt3) trodAll_mk0)))), rfl, bel.frame _, fun h => by cases h⟩
end PaceLine

theorem paceLine_holds : Rows.PaceLineSaid :=
  OpenClaim.holds_of_wide 4 Try.f4 rfl rfl rfl rfl rfl rfl rfl ⟨rfl, rfl, rfl, rfl, rfl⟩ rfl rfl rfl rfl rfl (by kernel_rfl) Try.func4 (by kernel_rfl)
    (of_decide_eq_true (by kernel_rfl)) (by unfold Func.isWrapper; first | (rw [if_pos (by decide +kernel)]; kernel_rfl) | (rw [if_neg (by decide +kernel)]; exact ⟨rfl, rfl⟩))
    (fun os started H enc _ => PaceLine.lifted os started H enc)
end Go.Proofs.Ytebfokjgeknciab
