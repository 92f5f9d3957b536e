import Derived.Test.YtaejjpbpnedblaaGreatWl
import Derived.Test.YtaejjpbpnedblaaGreatXb
namespace Go.Proofs.YtaejjpbpnedblaaGreat
namespace Vr
open Go.Shelf Go.RowKit Go.Lib Go.Sort Go.Maps Go.ChangeMaps Go.MapKept Laws Irw Crw
set_option linter.unusedVariables false
set_option linter.unusedSimpArgs false
set_option maxRecDepth 20000
def Fw2 (n m : Nat) (w : World) (e : Ending) (w' : World) : Prop := ∃ bo : Bool, e = .returned (.bool bo) ∧ (bo = true → n ≤ 10000 ∧ m ≤ 10000) ∧ RowKit.Below w.heap.size w w'
set_option maxHeartbeats 2000000 in
theorem few2_any (la : Option Addr) (ln lc : Nat) (pa : Option Addr) (pc : Nat) (ps : List ByteArray) (w : World) (h : Ls kT w (pa, ps.length, pc) ps) (hln : ln ≤ Z48) (hps : ps.length ≤ Z48) (hsz : ∀ p ∈ ps, p.size ≤ Z48) : Calls Tryz.prog 5 #[.slice la ln lc, .slice pa ps.length pc] w fun e w' => Fw2 ln ps.length w e w' := by
  have HP : Hid (Ls kT w (pa, ps.length, pc) ps ∧ ∀ p ∈ ps, p.size ≤ Z48) := ⟨h, hsz⟩
  unfold Z48 at hln hps
  clear h hsz
  go_enter Tryz.func5, Tryz.ntmps5
  go_upto_region 3 with (first
    | (go_at_call 21; go_loud (refine (many_any 10000 w).mono ?_; rintro e w1 ⟨rfl, hz1, hb1⟩; have HB1 : Hid (Zb w1 w.heap.size [.int .i64 10000] ∧ RowKit.Below w.heap.size w w1) := ⟨hz1, hb1⟩; clear hz1 hb1))
    | (go_at_call 22; go_loud (refine (add_any w.heap.size 10000 (ln : Int) w1 HB1.out.1 (by omega) (by omega)).mono ?_; rintro e w2 ⟨rfl, hs2, hz2, hk2⟩; have HB2 : Hid (Zb w2 w.heap.size [.int .i64 (cnt 10000 (ln : Int))] ∧ RowKit.Below w.heap.size w w2) := ⟨hz2, hk2 _ _ (Nat.le_refl _) HB1.out.2⟩; clear hs2 hz2 hk2)))
  have HC0 : Hid (cnt 10000 (ln : Int) ≤ 10000 - (ln : Int) ∧ -1000000000000000 ≤ cnt 10000 (ln : Int)) := by
    unfold cnt
    rw [if_pos (by omega)]
    constructor <;> omega
  go_wp2
  go_loopw [6] (fun i wr => ∃ (k : Nat) (m : Int), k ≤ ps.length ∧ i = .int .i64 (k : Int) ∧ Hid (Zb wr w.heap.size [.int .i64 m] ∧ RowKit.Below w.heap.size w wr ∧ m ≤ 10000 - (ln : Int) - (k : Int) ∧ -1000000000000000 ≤ m)) (fun i _ => ps.length - (intOf i).toNat)
  case atStart => exact ⟨0, _, Nat.zero_le _, rfl, HB2.out.1, HB2.out.2, by have := HC0.out.1; omega, HC0.out.2⟩
  case round =>
    clear HB1 HB2 HC0
    obtain ⟨k, m, hk, rfl, HX⟩ := hrel
    rename World => wr
    have hok := ok_any w.heap.size m wr HX.out.1
    have HEND : Hid (decide (0 ≤ m) = true → ln ≤ 10000 ∧ k ≤ 10000) := fun hd => by
      have h1 := HX.out.2.2.1
      have h2 : 0 ≤ m := by simpa using hd
      constructor <;> omega
    have HM0 : Hid (decide (0 ≤ m) = true → 0 ≤ m) := fun hd => by simpa using hd
    cases hd : decide (0 ≤ m) with
    | true =>
      rw [hd] at hok
      by_cases hlt : k < ps.length
      · have q1 : (k : Int) < (ps.length : Int) := by omega
        obtain ⟨b, off, e, hb, hc⟩ := (HP.out.1.below HX.out.2.1).cell (List.getElem?_eq_getElem hlt)
        change pa = _ at e
        subst e
        have c0 := hc 0 _ rfl
        rw [show off + k * kT.size + 0 = off + k by show off + k * 1 + 0 = _; omega] at c0
        have hsz := HP.out.2 ps[k] (List.getElem_mem hlt)
        have HT : Hid (Calls Tryz.prog 24 #[.pointer (some ⟨w.heap.size, 0, none⟩), .string ps[k]] wr fun e w' => e = .returned (.tuple #[]) ∧ w'.heap.size = wr.heap.size ∧ Zb w' w.heap.size [.int .i64 (cnt m (1 + (ps[k].size : Int)))] ∧ ∀ c w0, c ≤ w.heap.size → RowKit.Below c w0 wr → RowKit.Below c w0 w') := text_any w.heap.size m ps[k] wr HX.out.1 ⟨HX.out.2.2.2, by have := HX.out.2.2.1; omega⟩ hsz
        have hszI : (ps[k].size : Int) ≤ 281474976710656 := by unfold Z48 at hsz; omega
        obtain ⟨s, hs⟩ : ∃ s, ps[k] = s := ⟨_, rfl⟩
        rw [hs] at HT c0 hszI
        clear hc hs hsz
        go_wp2_with (first
          | (go_at_call 23; go_loud (refine hok.mono ?_; rintro e w3 ⟨rfl, hw3⟩; have hw3 := hw3.symm; subst hw3))
          | (go_at_call 24; go_loud (refine HT.out.mono ?_; rintro e w4 ⟨rfl, hs4, hz4, hk4⟩; have HB4 : Hid (Zb w4 w.heap.size [.int .i64 (cnt m (1 + (s.size : Int)))] ∧ RowKit.Below w.heap.size w w4) := ⟨hz4, hk4 _ _ (Nat.le_refl _) HX.out.2.1⟩; clear hs4 hz4 hk4)))
        go_roundw
        case rel =>
          have h1 := HX.out.2.2
          have hm0 := HM0.out hd
          have h2 : cnt m (1 + (s.size : Int)) ≤ m - 1 := by unfold cnt; rw [if_pos hm0]; omega
          have h3 := cnt_ge (m := m) (k := 1 + (s.size : Int)) (B := 1000000000000000) h1.2 (by omega)
          exact ⟨k + 1, _, by omega, by go_num, HB4.out.1, HB4.out.2, by have := h1.1; push_cast; omega, h3⟩
        case measure => simp [intOf]; omega
      · have q1 : ¬ (k : Int) < (ps.length : Int) := by omega
        go_wp2_with (go_at_call 23; go_loud (refine hok.mono ?_; rintro e w3 ⟨rfl, hw3⟩; have hw3 := hw3.symm; subst hw3))
        go_ret
        exact ⟨true, rfl, fun _ => by have := HEND.out hd; omega, HX.out.2.1⟩
    | false =>
      rw [hd] at hok
      by_cases hlt : k < ps.length
      · have q1 : (k : Int) < (ps.length : Int) := by omega
        go_wp2_with (go_at_call 23; go_loud (refine hok.mono ?_; rintro e w3 ⟨rfl, hw3⟩; have hw3 := hw3.symm; subst hw3))
        go_ret
        exact ⟨false, rfl, by simp, HX.out.2.1⟩
      · have q1 : ¬ (k : Int) < (ps.length : Int) := by omega
        go_wp2_with (go_at_call 23; go_loud (refine hok.mono ?_; rintro e w3 ⟨rfl, hw3⟩; have hw3 := hw3.symm; subst hw3))
        go_ret
        exact ⟨false, rfl, by simp, HX.out.2.1⟩
end Vr
end Go.Proofs.YtaejjpbpnedblaaGreat
