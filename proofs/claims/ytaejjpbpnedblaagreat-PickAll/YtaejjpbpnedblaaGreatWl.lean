import Derived.Test.YtaejjpbpnedblaaGreatWj
namespace Go.Proofs.YtaejjpbpnedblaaGreat
namespace Vr
open Go.Shelf Go.RowKit Go.Lib Go.Sort Go.Maps Go.ChangeMaps Go.MapKept Laws Irw Crw
set_option linter.unusedVariables false
set_option linter.unusedSimpArgs false
set_option maxRecDepth 20000
def Z48 : Nat := 281474976710656
/-- the counter's block, told by a name -/
def CtI (b : Nat) (m k : Int) (w : World) (e : Ending) (w' : World) : Prop := e = .returned (.bool (decide (0 ≤ cnt m k))) ∧ w'.heap.size = w.heap.size ∧ Zb w' b [.int .i64 (cnt m k)] ∧ ∀ c w0, c ≤ b → RowKit.Below c w0 w → RowKit.Below c w0 w'
set_option maxHeartbeats 400000 in
theorem text_any (b : Nat) (m : Int) (s : ByteArray) (w : World) (h : Zb w b [.int .i64 m]) (hm : -1000000000000000 ≤ m ∧ m ≤ 10000) (hs : s.size ≤ Z48) : Calls Tryz.prog 24 #[.pointer (some ⟨b, 0, none⟩), .string s] w fun e w' => e = .returned (.tuple #[]) ∧ w'.heap.size = w.heap.size ∧ Zb w' b [.int .i64 (cnt m (1 + (s.size : Int)))] ∧ ∀ c w0, c ≤ b → RowKit.Below c w0 w → RowKit.Below c w0 w' := by
  unfold Z48 at hs
  have q1 : IntKind.i64.wrap (1 + (s.size : Int)) = 1 + (s.size : Int) := IntWalk.i64_in _ (by omega)
  have HC : Hid (Calls Tryz.prog 22 #[.pointer (some ⟨b, 0, none⟩), .int .i64 (1 + (s.size : Int))] w fun e w' => CtI b m (1 + (s.size : Int)) w e w') := add_any b m (1 + (s.size : Int)) w h (by omega) (by omega)
  clear h
  go_enter Tryz.func24, Tryz.ntmps24
  go_wp2_with (go_at_call 22; go_loud (refine HC.out.mono ?_; rintro e w1 ⟨rfl, hx⟩; have HX : Hid _ := hx; clear hx))
  go_end0
  exact ⟨rfl, HX.out⟩
theorem cnt_le {m k : Int} (hk : 0 ≤ k) : cnt m k ≤ m := by unfold cnt; split <;> omega
theorem cnt_ge {m k B : Int} (hm : -B ≤ m) (hB : k ≤ B) : -B ≤ cnt m k := by unfold cnt; split <;> omega
/-- what few answers -/
def FwIs (n : Nat) (w : World) (e : Ending) (w' : World) : Prop := ∃ bo : Bool, e = .returned (.bool bo) ∧ (bo = true → n ≤ 10000) ∧ RowKit.Below w.heap.size w w'
set_option maxHeartbeats 2000000 in
theorem few_any (la : Option Addr) (ln lc : Nat) (pa : Option Addr) (pc : Nat) (ps : List ByteArray) (w : World) (h : Ls kT w (pa, ps.length, pc) ps) (hln : ln ≤ Z48) (hps : ps.length ≤ Z48) (hsz : ∀ p ∈ ps, p.size ≤ Z48) : Calls Tryz.prog 5 #[.slice la ln lc, .slice pa ps.length pc] w fun e w' => FwIs ln w e w' := by
  have HP : Hid (Ls kT w (pa, ps.length, pc) ps ∧ ∀ p ∈ ps, p.size ≤ Z48) := ⟨h, hsz⟩
  unfold Z48 at hln hps
  clear h hsz
  go_enter Tryz.func5, Tryz.ntmps5
  go_upto_region 3 with (first
    | (go_at_call 21; go_loud (refine (many_any 10000 w).mono ?_; rintro e w1 ⟨rfl, hz1, hb1⟩; have HB1 : Hid (Zb w1 w.heap.size [.int .i64 10000] ∧ RowKit.Below w.heap.size w w1) := ⟨hz1, hb1⟩; clear hz1 hb1))
    | (go_at_call 22; go_loud (refine (add_any w.heap.size 10000 (ln : Int) w1 HB1.out.1 (by omega) (by omega)).mono ?_; rintro e w2 ⟨rfl, hs2, hz2, hk2⟩; have HB2 : Hid (Zb w2 w.heap.size [.int .i64 (cnt 10000 (ln : Int))] ∧ RowKit.Below w.heap.size w w2) := ⟨hz2, hk2 _ _ (Nat.le_refl _) HB1.out.2⟩; clear hs2 hz2 hk2)))
  have HC0 : Hid (cnt 10000 (ln : Int) ≤ 10000 - (ln : Int) ∧ -1000000000000000 ≤ cnt 10000 (ln : Int)) := by
    unfold cnt
    rw [if_pos (by omega)]
    constructor <;> omega
  go_wp2
  go_loopw [6] (fun i wr => ∃ (k : Nat) (m : Int), k ≤ ps.length ∧ i = .int .i64 (k : Int) ∧ Hid (Zb wr w.heap.size [.int .i64 m] ∧ RowKit.Below w.heap.size w wr ∧ m ≤ 10000 - (ln : Int) ∧ -1000000000000000 ≤ m)) (fun i _ => ps.length - (intOf i).toNat)
  case atStart => exact ⟨0, _, Nat.zero_le _, rfl, HB2.out.1, HB2.out.2, HC0.out.1, HC0.out.2⟩
  case round =>
    clear HB1 HB2 HC0
    obtain ⟨k, m, hk, rfl, HX⟩ := hrel
    rename World => wr
    have hok := ok_any w.heap.size m wr HX.out.1
    have HEND : Hid (decide (0 ≤ m) = true → ln ≤ 10000) := fun hd => by
      have h1 := HX.out.2.2.1
      have h2 : 0 ≤ m := by simpa using hd
      omega
    cases hd : decide (0 ≤ m) with
    | true =>
      rw [hd] at hok
      by_cases hlt : k < ps.length
      · have q1 : (k : Int) < (ps.length : Int) := by omega
        obtain ⟨b, off, e, hb, hc⟩ := (HP.out.1.below HX.out.2.1).cell (List.getElem?_eq_getElem hlt)
        change pa = _ at e
        subst e
        have c0 := hc 0 _ rfl
        rw [show off + k * kT.size + 0 = off + k by show off + k * 1 + 0 = _; omega] at c0
        have hsz := HP.out.2 ps[k] (List.getElem_mem hlt)
        have HT : Hid (Calls Tryz.prog 24 #[.pointer (some ⟨w.heap.size, 0, none⟩), .string ps[k]] wr fun e w' => e = .returned (.tuple #[]) ∧ w'.heap.size = wr.heap.size ∧ Zb w' w.heap.size [.int .i64 (cnt m (1 + (ps[k].size : Int)))] ∧ ∀ c w0, c ≤ w.heap.size → RowKit.Below c w0 wr → RowKit.Below c w0 w') := text_any w.heap.size m ps[k] wr HX.out.1 ⟨HX.out.2.2.2, by have := HX.out.2.2.1; omega⟩ hsz
        have hszI : (ps[k].size : Int) ≤ 281474976710656 := by unfold Z48 at hsz; omega
        obtain ⟨s, hs⟩ : ∃ s, ps[k] = s := ⟨_, rfl⟩
        rw [hs] at HT c0 hszI
        clear hc hs hsz
        go_wp2_with (first
          | (go_at_call 23; go_loud (refine hok.mono ?_; rintro e w3 ⟨rfl, hw3⟩; have hw3 := hw3.symm; subst hw3))
          | (go_at_call 24; go_loud (refine HT.out.mono ?_; rintro e w4 ⟨rfl, hs4, hz4, hk4⟩; have HB4 : Hid (Zb w4 w.heap.size [.int .i64 (cnt m (1 + (s.size : Int)))] ∧ RowKit.Below w.heap.size w w4) := ⟨hz4, hk4 _ _ (Nat.le_refl _) HX.out.2.1⟩; clear hs4 hz4 hk4)))
        go_roundw
        case rel =>
          have h1 := HX.out.2.2
          have h2 := cnt_le (m := m) (k := 1 + (s.size : Int)) (by omega)
          have h3 := cnt_ge (m := m) (k := 1 + (s.size : Int)) (B := 1000000000000000) h1.2 (by omega)
          exact ⟨k + 1, _, by omega, by go_num, HB4.out.1, HB4.out.2, by omega, h3⟩
        case measure => simp [intOf]; omega
      · have q1 : ¬ (k : Int) < (ps.length : Int) := by omega
        go_wp2_with (go_at_call 23; go_loud (refine hok.mono ?_; rintro e w3 ⟨rfl, hw3⟩; have hw3 := hw3.symm; subst hw3))
        go_ret
        exact ⟨true, rfl, fun _ => HEND.out hd, HX.out.2.1⟩
    | false =>
      rw [hd] at hok
      by_cases hlt : k < ps.length
      · have q1 : (k : Int) < (ps.length : Int) := by omega
        go_wp2_with (go_at_call 23; go_loud (refine hok.mono ?_; rintro e w3 ⟨rfl, hw3⟩; have hw3 := hw3.symm; subst hw3))
        go_ret
        exact ⟨false, rfl, by simp, HX.out.2.1⟩
      · have q1 : ¬ (k : Int) < (ps.length : Int) := by omega
        go_wp2_with (go_at_call 23; go_loud (refine hok.mono ?_; rintro e w3 ⟨rfl, hw3⟩; have hw3 := hw3.symm; subst hw3))
        go_ret
        exact ⟨false, rfl, by simp, HX.out.2.1⟩
end Vr
end Go.Proofs.YtaejjpbpnedblaaGreat
namespace Go.Proofs.YtaejjpbpnedblaaGreat
namespace Vr
open Go.Shelf Go.RowKit Go.Lib Go.Sort Go.Maps Go.ChangeMaps Go.MapKept Laws Irw Crw
set_option linter.unusedVariables false
set_option linter.unusedSimpArgs false
set_option maxRecDepth 20000

set_option maxHeartbeats 1000000 in
theorem sameInts_true (a b : Option Addr) (ca cb n : Nat) (l : List Int) (w : World) (ha : Ls kI w (a, n, ca) l) (hb : Ls kI w (b, n, cb) l) (hn : l.length = n) (hl : n ≤ 1000000000000) :
    Calls Tryz.prog 31 #[.slice a n ca, .slice b n cb] w fun e w' => e = .returned (.bool true) ∧ ∃ n, w' = w.drewN n := by
  have HA : Hid (Ls kI w (a, n, ca) l) := ha
  have HB : Hid (Ls kI w (b, n, cb) l) := hb
  have HNN : Hid (l.length = n) := hn
  clear ha hb hn
  go_enter Tryz.func31, Tryz.ntmps31
  go_wp2
  go_loopw [5] (fun i wr => ∃ k m : Nat, k ≤ n ∧ i = .int .i64 k ∧ wr = w.drewN m) (fun i _ => n - (intOf i).toNat)
  case atStart => exact ⟨0, 0, Nat.zero_le _, rfl, rfl⟩
  case round =>
    obtain ⟨k, m, hk, rfl, rfl⟩ := hrel
    by_cases hlt : k < n
    · have hlt' : k < l.length := by rw [HNN.out]; exact hlt
      obtain ⟨b1, o1, e1, hb1, hc1⟩ := HA.out.cell (List.getElem?_eq_getElem hlt')
      obtain ⟨b2, o2, e2, hb2, hc2⟩ := HB.out.cell (List.getElem?_eq_getElem hlt')
      change a = _ at e1
      change b = _ at e2
      subst e1 e2
      have c0 := hc1 0 _ rfl
      have e0 := hc2 0 _ rfl
      rw [show o1 + k * kI.size + 0 = o1 + k by show o1 + k * 1 + 0 = _; omega] at c0
      rw [show o2 + k * kI.size + 0 = o2 + k by show o2 + k * 1 + 0 = _; omega] at e0
      have q1 : (k : Int) < (n : Int) := by omega
      generalize l[k] = y at *
      clear hc1 hc2 hlt'
      go_wp2
      go_quiet (fail)
      go_wp2
      go_roundw
      case rel => exact ⟨k + 1, _, by omega, by go_num, rfl⟩
      case measure => simp [intOf]; omega
    · have q1 : ¬ (k : Int) < (n : Int) := by omega
      go_wp2
      go_ret
      exact ⟨rfl, _, rfl⟩

set_option maxHeartbeats 1000000 in
theorem table_any (no : Nat) (we : Int) (le gr : ByteArray) (w : World) :
    Calls Tryz.prog 76 #[.int .u64 (no : Int), .int .i64 we, .string le, .string gr] w fun e w' => e = .returned (tbV ⟨no, we, 0, 0, le, gr⟩) ∧ RowKit.Below w.heap.size w w' := by
  go_enter Tryz.func76, Tryz.ntmps76
  have HZ : Hid (Zb (w.alloc (.cells #[.int .u64 (no : Int), .int .i64 we, .int .i64 0, .int .i64 0, .string le, .string gr] 76)) w.heap.size (tbC ⟨no, we, 0, 0, le, gr⟩) ∧ RowKit.Below w.heap.size w (w.alloc (.cells #[.int .u64 (no : Int), .int .i64 we, .int .i64 0, .int .i64 0, .string le, .string gr] 76))) := ⟨Zb.new w #[.int .u64 (no : Int), .int .i64 we, .int .i64 0, .int .i64 0, .string le, .string gr] 76, (Below.refl _ _).alloc (Nat.le_refl _) _⟩
  go_wp2
  exact bodyPost_ret (res_tb rfl _ _ w.heap.size ⟨no, we, 0, 0, le, gr⟩ rfl HZ.out.1) rfl ⟨rfl, HZ.out.2⟩
end Vr
end Go.Proofs.YtaejjpbpnedblaaGreat
