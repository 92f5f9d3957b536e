import Derived.Test.YtpnomeggdhcbaaaGreatDoorLs1
namespace Go.Proofs.YtpnomeggdhcbaaaGreatDoor
namespace Lin
open Go.RowKit Go.Shelf Laws Irw
set_option linter.unusedVariables false
set_option maxRecDepth 100000
theorem isI_of_owns {w : World} {base : Nat} {a : Option Addr} {n c : Nat} {l : List Int} (h : w.ownsRow base 3 1 (.slice a n c) n (cellsI l)) (hn : n = l.length) : IsI w a l := by
  subst hn
  have h1 : OwnL 0 (fun _ => 0) w (.slice a l.length c) l := ⟨⟨h.1, by
    rcases h.2 with h2 | ⟨g, cap, cur, hv, _, hr⟩
    · exact .inl h2
    · exact .inr ⟨g, cap, cur, hv, Nat.zero_le _, hr⟩⟩, fun _ _ => rfl⟩
  obtain ⟨a', c', e, hi, _⟩ := h1.form
  simp only [Value.slice.injEq] at e
  obtain ⟨rfl, _, _⟩ := e
  exact hi
/-- what plays makes at first: the row and the call in boxes -/
theorem boxes (w : World) (p q : Nat) (kd n : Int) (sec : Bool) (u1 u2 : TypeId) :
    ∃ W1, W1 = (w.alloc (.cells #[.pointer (some ⟨p, 0, none⟩), .pointer (some ⟨q, 0, none⟩)] u1)).alloc (.cells #[.int .i64 kd, .int .i64 n, .bool sec] u2) ∧ Below w.heap.size w W1 ∧
      W1.cell? ⟨w.heap.size, 0, none⟩ = some (.pointer (some ⟨p, 0, none⟩)) ∧ W1.cell? ⟨w.heap.size, 1, none⟩ = some (.pointer (some ⟨q, 0, none⟩)) ∧ W1.cell? ⟨w.heap.size + 1, 0, none⟩ = some (.int .i64 kd) ∧ W1.heap.size = w.heap.size + 2 :=
  ⟨_, rfl, ((Below.refl _ _).alloc (Nat.le_refl _) _).alloc (by simp) _, by simp, by simp, by simp, by simp⟩
set_option maxHeartbeats 2000000 in
theorem plays2 (t : Nat) (T : Nat → Nat) (w : World) (p q K : Nat) (l : List Int) (n mark : Int) (sec : Bool) (h1 : LineAt t T w p l) (h2 : LineAt (t + 2) T w q l) (hlen : l.length ≤ 100000000) :
    Calls Tryz.prog 5 #[.agg #[.pointer (some ⟨p, 0, none⟩), .pointer (some ⟨q, 0, none⟩)], .pointer (some ⟨K, 0, none⟩), .agg #[.int .i64 2, .int .i64 n, .bool sec], .int .i64 mark] w fun e w' => e = .returned (.bool true) ∧ Below w.heap.size w w' := by
  obtain ⟨W1, hW1, hb1, p0, p1, o0, hs1⟩ := boxes w p q 2 n sec 52 54
  obtain ⟨x, hx⟩ : ∃ x, l.getD 0 0 = x := ⟨_, rfl⟩
  obtain ⟨d, hd⟩ : ∃ d, decide (0 < l.length) = d := ⟨_, rfl⟩
  have HC1 := HID (first_any t T W1 p l (h1.below hb1) (by omega))
  have HC2 := HID (rfirst_any (t + 2) T W1 q l (h2.below hb1) (by omega))
  rw [hx, hd] at HC1 HC2
  have HB1 := HID hb1
  clear h1 h2 hb1 hx hd
  go_enter Tryz.func5, Tryz.ntmps5
  go_upto_region 1 with (fail)
  rw [← hW1]
  clear hW1
  go_wp2_with (first
    | (go_at_call 9; go_loud (refine HC1.out.mono ?_; rintro e w2 ⟨rfl, hw⟩; have hw2 := hw.symm; clear hw; subst hw2))
    | (go_at_call 10; go_loud (refine HC2.out.mono ?_; rintro e w2 ⟨rfl, hw⟩; have hw2 := hw.symm; clear hw; subst hw2)))
  all_goals (
    go_ret
    refine ⟨?_, HB1.out⟩
    first | rfl | simp | (cases d <;> rfl))
section
variable {w : World} {K N : Nat} {P Q : Nat → Nat} {L : Nat → List Int} {T : Nat → Nat} {W : World} {i : Nat}
set_option maxHeartbeats 2000000 in
theorem LP.plays4 (hi : i < 2) (h : LP w K N P Q L T W) (hN : N + 1 ≤ 2000) (hlen : (L i).length ≤ 100000000) (n mark : Int) (sec : Bool) :
    Calls Tryz.prog 5 #[.agg #[.pointer (some ⟨P i, 0, none⟩), .pointer (some ⟨Q i, 0, none⟩)], .pointer (some ⟨K, 0, none⟩), .agg #[.int .i64 4, .int .i64 n, .bool sec], .int .i64 mark] W fun e w' => e = .returned (.bool true) ∧ ∃ T', LP w K (N + 1) P Q L T' w' ∧ Goes (· ≠ 0) T W T' w' := by
  obtain ⟨p, hp⟩ : ∃ p, p = P i := ⟨_, rfl⟩
  obtain ⟨q, hq⟩ : ∃ q, q = Q i := ⟨_, rfl⟩
  obtain ⟨l, hl⟩ : ∃ l, l = L i := ⟨_, rfl⟩
  obtain ⟨W1, hW1, hb1, p0, p1, o0, hs1⟩ := boxes W p q 4 n sec 52 54
  have HL := HID (h.below hb1)
  have HG := HID (Goes.below (t := (· ≠ 0)) (T := T) hb1)
  have HLN := HID (show l.length ≤ 100000000 by rw [hl]; exact hlen)
  have HNN := HID hN
  have HC1 := HID ((h.below hb1).lp i hi)
  have HC2 := HID ((h.below hb1).lq i hi)
  rw [← hp, ← hl] at HC1
  rw [← hq, ← hl] at HC2
  rw [← hp, ← hq]
  obtain ⟨N1, hN1⟩ : ∃ N1, N1 = l.length := ⟨_, rfl⟩
  have HN1 := HID hN1
  have HSZ : Hid (W.heap.size < W1.heap.size) := by show W.heap.size < W1.heap.size; omega
  clear h hb1 hp hq hl hlen hN hs1 hN1
  go_enter Tryz.func5, Tryz.ntmps5
  go_upto_region 1 with (fail)
  rw [← hW1]
  clear hW1
  go_wp2_with (go_at_call 13; fail)
  refine (all_any (9000010 + 4 * i) T W1 p l HC1.out (by have := HLN.out; omega)).mono ?_
  rintro e w2 ⟨a2, c2, rfl, ho2, hb2⟩
  have HO2 := HID ho2
  have HB2 := HID hb2
  have p1' := (hb2.cell (p := ⟨W.heap.size, 1, none⟩) HSZ.out).trans p1
  rw [← HN1.out] at HO2 ⊢
  clear ho2 hb2 p0 p1 o0
  dsimp only
  go_wp2_with (go_at_call 15; fail)
  refine (rall_any (9000010 + 4 * i + 2) T w2 q l (HC2.out.below HB2.out) (by have := HLN.out; omega)).mono ?_
  rintro e w3 ⟨a3, c3, rfl, hi3, hb3⟩
  have HI3 := HID hi3
  have HB3 := HID hb3
  rw [← HN1.out]
  clear hi3 hb3 p1'
  dsimp only
  go_wp2_with (go_at_call 14; fail)
  refine (sameInts_true a2 a3 c2 c3 N1 l w3 ((isI_of_owns HO2.out HN1.out).below HB3.out) HI3.out HN1.out.symm (by have := HLN.out; have := HN1.out; omega)).mono ?_
  rintro e w4 ⟨rfl, n4, hw4⟩
  have HB4 : Hid (Below w2.heap.size w2 w4) := by
    have h4 : Below w3.heap.size w3 w4 := by rw [hw4]; exact ⟨rfl, rfl, rfl, Nat.le_refl _, fun _ _ => rfl⟩
    exact HB3.out.trans (h4.mono HB3.out.size)
  clear hw4 HB3 HI3
  dsimp only
  go_wp2_with (go_at_call 16; fail)
  refine (HL.out.ints HB2.out HNN.out mark HO2.out HN1.out (by have := HLN.out; omega) HB4.out).mono ?_
  rintro e w5 ⟨rfl, T5, h5, g5⟩
  have HF : Hid (∃ T', LP w K (N + 1) P Q L T' w5 ∧ Goes (· ≠ 0) T W T' w5) := ⟨T5, h5, HG.out.trans g5⟩
  clear h5 g5
  dsimp only
  go_wp2
  go_ret
  exact ⟨rfl, HF.out⟩
set_option maxHeartbeats 1000000 in
theorem plays5 (w : World) (p q K : Nat) (kd n mark : Int) (sec : Bool) (k1 : ¬ kd = 1) (k2 : ¬ kd = 2) (k3 : ¬ kd = 3) (k4 : ¬ kd = 4) :
    Calls Tryz.prog 5 #[.agg #[.pointer (some ⟨p, 0, none⟩), .pointer (some ⟨q, 0, none⟩)], .pointer (some ⟨K, 0, none⟩), .agg #[.int .i64 kd, .int .i64 n, .bool sec], .int .i64 mark] w fun e w' => e = .returned (.bool true) ∧ Below w.heap.size w w' := by
  obtain ⟨W1, hW1, hb1, p0, p1, o0, hs1⟩ := boxes w p q kd n sec 52 54
  have e1 : (kd == 1) = false := by simpa using k1
  have e2 : (kd == 2) = false := by simpa using k2
  have e3 : (kd == 3) = false := by simpa using k3
  have e4 : (kd == 4) = false := by simpa using k4
  have HB1 := HID hb1
  clear hb1
  go_enter Tryz.func5, Tryz.ntmps5
  go_upto_region 1 with (fail)
  rw [← hW1]
  clear hW1
  go_wp2
  go_ret
  exact ⟨rfl, HB1.out⟩
/-- PLAYS, whatever the call. -/
theorem LP.plays (hi : i < 2) (h : LP w K N P Q L T W) (hN : N + 1 ≤ 2000) (hlen : (L i).length ≤ 100000000) (kd n mark : Int) (sec : Bool) :
    Calls Tryz.prog 5 #[.agg #[.pointer (some ⟨P i, 0, none⟩), .pointer (some ⟨Q i, 0, none⟩)], .pointer (some ⟨K, 0, none⟩), .agg #[.int .i64 kd, .int .i64 n, .bool sec], .int .i64 mark] W fun e w' => e = .returned (.bool true) ∧ ∃ T' N', N' ≤ N + 1 ∧ LP w K N' P Q (put L i (stp kd n (L i))) T' w' ∧ Goes (· ≠ 0) T W T' w' := by
  by_cases k1 : kd = 1
  · subst k1
    refine (plays1 (9000010 + 4 * i) (by omega) T W (P i) (Q i) K (L i) n mark sec (h.lp i hi) (h.lq i hi) h.kept.2 hlen).mono ?_
    rintro e w' ⟨he, hp⟩
    obtain ⟨T', h1, h2⟩ := h.turn hi hp
    exact ⟨he, T', N, by omega, by rw [show stp 1 n (L i) = joinL (L i) n from if_pos rfl]; exact h1, h2⟩
  · by_cases k3 : kd = 3
    · subst k3
      refine (plays3 (9000010 + 4 * i) (by omega) T W (P i) (Q i) K (L i) n mark sec (h.lp i hi) (h.lq i hi) h.kept.2 hlen).mono ?_
      rintro e w' ⟨he, hp⟩
      obtain ⟨T', h1, h2⟩ := h.turn hi hp
      exact ⟨he, T', N, by omega, by rw [show stp 3 n (L i) = leaveL (L i) n from rfl]; exact h1, h2⟩
    · have hs : stp kd n (L i) = L i := by unfold stp; rw [if_neg k1, if_neg k3]
      rw [hs, put_self]
      by_cases k2 : kd = 2
      · subst k2
        refine (plays2 (9000010 + 4 * i) T W (P i) (Q i) K (L i) n mark sec (h.lp i hi) (h.lq i hi) hlen).mono ?_
        rintro e w' ⟨he, hb⟩
        exact ⟨he, T, N, by omega, h.below hb, Goes.below hb⟩
      · by_cases k4 : kd = 4
        · subst k4
          refine (h.plays4 hi hN hlen n mark sec).mono ?_
          rintro e w' ⟨he, T', h1, h2⟩
          exact ⟨he, T', N + 1, by omega, h1, h2⟩
        · refine (plays5 W (P i) (Q i) K kd n mark sec k1 k2 k3 k4).mono ?_
          rintro e w' ⟨he, hb⟩
          exact ⟨he, T, N, by omega, h.below hb, Goes.below hb⟩
end
end Lin
end Go.Proofs.YtpnomeggdhcbaaaGreatDoor
