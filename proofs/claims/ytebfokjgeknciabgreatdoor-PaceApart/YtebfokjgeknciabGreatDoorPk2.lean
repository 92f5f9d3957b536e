import Derived.Test.YtebfokjgeknciabGreatDoorPk1
namespace Go.Proofs.YtebfokjgeknciabGreatDoor
namespace Pcm
open Go.RowKit Laws Irw Lin
set_option linter.unusedVariables false
set_option maxRecDepth 20000

/-- what May answers, and who stands in the line then -/
def mayB (tok : Int) (l : List Int) (who : Int) : Bool := decide (0 < tok) && letsB l who
def mayL (tok : Int) (l : List Int) (who : Int) : List Int := if mayB tok l who then l else joinL l who

set_option maxHeartbeats 2000000 in
theorem may_any (t : Nat) (T : Nat → Nat) (w : World) (p : Nat) (rate burst tok : Int) (l : List Int) (who : Int) (h : BkAt t T w p rate burst tok l) (hlen : l.length ≤ 1000000000) :
    Calls Tryz.prog 20 #[.pointer (some ⟨p, 0, none⟩), .int .i64 who] w fun e w' => e = .returned (.bool (mayB tok l who)) ∧ BkIs t T w p rate burst tok (mayL tok l who) w' := by
  have c3 := h.c3
  obtain ⟨q, c0, hl⟩ := h.line
  have HH : Hid (BkAt t T w p rate burst tok l) := h
  have HL : Hid (LineAt (t + 1) T w q l) := hl
  have HQ : Hid (w.cell? ⟨p, 0, none⟩ = some (.pointer (some ⟨q, 0, none⟩))) := c0
  have hlt := h.lt
  clear h hl
  by_cases h0 : 0 < tok
  · by_cases hb : letsB l who = true
    · have HE : Hid (mayB tok l who = true) := by show mayB tok l who = true; unfold mayB; simp [h0, hb]
      have HC := lets_any (t + 1) T w q l who HL.out (by omega)
      rw [hb] at HC
      go_enter Tryz.func20, Tryz.ntmps20
      go_wp2_with (go_at_call 59; refine HC.mono ?_; rintro e w9 ⟨rfl, hb9⟩)
      go_ret
      refine ⟨by rw [HE.out]; rfl, T, ?_, Goes.below hb9⟩
      unfold mayL
      rw [if_pos HE.out]
      exact HH.out.below hb9
    · have hb' : letsB l who = false := by simpa using hb
      have HE : Hid (mayB tok l who = false) := by show mayB tok l who = false; unfold mayB; simp [hb']
      have HC := lets_any (t + 1) T w q l who HL.out (by omega)
      rw [hb'] at HC
      go_enter Tryz.func20, Tryz.ntmps20
      go_wp2_with (first | (go_at_call 59; refine HC.mono ?_; rintro e w9 ⟨rfl, hb9⟩; have HB9 : Hid (Below w.heap.size w w9) := hb9; have c09 : w9.cell? ⟨p, 0, none⟩ = some (.pointer (some ⟨q, 0, none⟩)) := (hb9.cell (p := ⟨p, 0, none⟩) hlt).trans HQ.out; clear hb9) | (go_at_call 60; refine (join_any (t + 1) T w9 q l who (HL.out.below HB9.out) (by omega)).mono ?_; rintro e w7 ⟨rfl, T7, hl7, hg7⟩; have HF : Hid (BkAt t T7 w7 p rate burst tok (joinL l who) ∧ Goes (bkT t) T w9 T7 w7) := (HH.out.below HB9.out).put c09 hl7 hg7; clear hl7 hg7))
      go_ret
      refine ⟨by rw [HE.out]; rfl, T7, ?_, (Goes.below HB9.out).trans HF.out.2⟩
      unfold mayL
      rw [if_neg (by rw [HE.out]; simp)]
      exact HF.out.1
  · have HE : Hid (mayB tok l who = false) := by show mayB tok l who = false; unfold mayB; simp [h0]
    go_enter Tryz.func20, Tryz.ntmps20
    go_wp2_with (go_at_call 60; refine (join_any (t + 1) T w q l who HL.out (by omega)).mono ?_; rintro e w7 ⟨rfl, T7, hl7, hg7⟩; have HF : Hid (BkAt t T7 w7 p rate burst tok (joinL l who) ∧ Goes (bkT t) T w T7 w7) := HH.out.put HQ.out hl7 hg7; clear hl7 hg7)
    go_ret
    refine ⟨by rw [HE.out]; rfl, T7, ?_, HF.out.2⟩
    unfold mayL
    rw [if_neg (by rw [HE.out]; simp)]
    exact HF.out.1

set_option maxHeartbeats 2000000 in
theorem bleave_any (t : Nat) (T : Nat → Nat) (w : World) (p : Nat) (rate burst tok : Int) (l : List Int) (who : Int) (h : BkAt t T w p rate burst tok l) (hlen : l.length ≤ 1000000000) :
    Calls Tryz.prog 29 #[.pointer (some ⟨p, 0, none⟩), .int .i64 who] w fun e w' => e = .returned (.tuple #[]) ∧ BkIs t T w p rate burst tok (leaveL l who) w' := by
  obtain ⟨q, c0, hl⟩ := h.line
  have HH : Hid (BkAt t T w p rate burst tok l) := h
  have HL : Hid (LineAt (t + 1) T w q l) := hl
  have HQ : Hid (w.cell? ⟨p, 0, none⟩ = some (.pointer (some ⟨q, 0, none⟩))) := c0
  clear h hl
  go_enter Tryz.func29, Tryz.ntmps29
  go_wp2_with (go_at_call 62; refine (leave_any (t + 1) T w q l who HL.out (by omega)).mono ?_; rintro e w7 ⟨rfl, T7, hl7, hg7⟩; have HF : Hid (BkAt t T7 w7 p rate burst tok (leaveL l who) ∧ Goes (bkT t) T w T7 w7) := HH.out.put HQ.out hl7 hg7; clear hl7 hg7)
  exact bodyPost_end (results_none Tryz.results29 _ _ _) rfl ⟨rfl, T7, HF.out.1, HF.out.2⟩

set_option maxHeartbeats 2000000 in
theorem take_any (t : Nat) (T : Nat → Nat) (w : World) (p : Nat) (rate burst tok : Int) (l : List Int) (who n : Int) (h : BkAt t T w p rate burst tok l) (hlen : l.length ≤ 1000000000) (hn : R64 n) :
    Calls Tryz.prog 21 #[.pointer (some ⟨p, 0, none⟩), .int .i64 who, .int .i64 n] w fun e w' => e = .returned (.tuple #[]) ∧ BkIs t T w p rate burst (takeV tok n) (leaveL l who) w' := by
  have c3 := h.c3
  have hf := h.free 3
  have HH : Hid (BkAt t T w p rate burst tok l) := h
  have HR3 : Hid (R64 tok) := h.r3
  have HN : Hid (R64 (-(max n 0))) := by unfold R64 at hn; show R64 _; unfold R64; omega
  have hn0 : 0 ≤ max n 0 ∧ max n 0 ≤ 9223372036854775807 := by unfold R64 at hn; omega
  clear h hn
  have HW : Hid (∀ V, Below w.heap.size w V → BkAt t T (V.setCell ⟨p, 3, none⟩ (.int .i64 (takeV tok n))) p rate burst (takeV tok n) l ∧ Goes (bkT t) T w T (V.setCell ⟨p, 3, none⟩ (.int .i64 (takeV tok n)))) := fun V hb => by
    have hs := (HH.out.below hb).set (x := takeV tok n) (sadd_r _ _)
    exact ⟨hs.1, (Goes.below hb).trans hs.2⟩
  obtain ⟨m, hm⟩ : ∃ m, max n 0 = m := ⟨_, rfl⟩
  have HX : Hid (sadd tok (-m) = takeV tok n) := by show _ = _; rw [← hm]; rfl
  have HCn : ∀ V, Calls Tryz.prog 23 #[.int .i64 n] V fun e w' => e = .returned (.int .i64 m) ∧ w' = V := fun V => by rw [← hm]; exact counted_any n V
  rw [hm] at HN hn0
  clear hm
  have q1 : IntKind.i64.wrap (-m) = -m := IntWalk.i64_in _ (by omega)
  go_enter Tryz.func21, Tryz.ntmps21
  go_wp2
  go_cut [0, 1] (fun v0 v1 w' => v0 = .pointer (some ⟨p, 0, none⟩) ∧ v1 = .int .i64 who ∧ Hid (BkAt t T w' p rate burst (takeV tok n) l ∧ Goes (bkT t) T w T w'))
  case first =>
    go_region_with (first | (go_at_call 23; refine (HCn _).mono ?_; rintro e w9 ⟨rfl, hw9⟩; have hw8 := hw9.symm; clear hw9; subst hw8) | (go_at_call 61; refine (plus_any tok (-m) HR3.out HN.out _).mono ?_; rintro e w9 ⟨rfl, hw9⟩; have hw8 := hw9.symm; clear hw9; subst hw8))
    all_goals (
      go_wp2
      go_meet
      case rel =>
        rw [HX.out]
        have hf := HW.out w (Below.refl _ _)
        exact ⟨rfl, rfl, hf.1.below (Below.refl _ _).drew, hf.2.trans (Goes.below (Below.refl _ _).drew)⟩)
  case rest =>
    obtain ⟨rfl, rfl, HF2⟩ := hcut
    rename World => w3
    go_wp2_with (go_at_call 29; refine (bleave_any t T w3 p rate burst (takeV tok n) l who HF2.out.1 hlen).mono ?_; rintro e w7 ⟨rfl, T7, hk7, hg7⟩; have HF : Hid (BkAt t T7 w7 p rate burst (takeV tok n) (leaveL l who) ∧ Goes (bkT t) T w T7 w7) := ⟨hk7, HF2.out.2.trans hg7⟩; clear hk7 hg7)
    exact bodyPost_end (results_none Tryz.results21 _ _ _) rfl ⟨rfl, T7, HF.out.1, HF.out.2⟩

set_option maxHeartbeats 2000000 in
theorem line_any (t : Nat) (T : Nat → Nat) (w : World) (p : Nat) (rate burst tok : Int) (l : List Int) (h : BkAt t T w p rate burst tok l) (hlen : l.length ≤ 1000000000) :
    Calls Tryz.prog 9 #[.pointer (some ⟨p, 0, none⟩)] w fun e w' => ∃ a' c', e = .returned (.slice a' l.length c') ∧ w'.ownsRow w.heap.size 3 1 (.slice a' l.length c') l.length (cellsI l) ∧ Below w.heap.size w w' := by
  obtain ⟨q, c0, hl⟩ := h.line
  have HL : Hid (LineAt (t + 1) T w q l) := hl
  clear h hl
  go_enter Tryz.func9, Tryz.ntmps9
  go_wp2_with (go_at_call 31; refine (all_any (t + 1) T w q l HL.out (by omega)).mono ?_; rintro e w7 ⟨a7, c7, rfl, ho7, hb7⟩; have HF : Hid (w7.ownsRow w.heap.size 3 1 (.slice a7 l.length c7) l.length (cellsI l) ∧ Below w.heap.size w w7) := ⟨ho7, hb7⟩; clear ho7 hb7)
  go_ret
  exact ⟨a7, c7, rfl, HF.out.1, HF.out.2⟩

end Pcm
end Go.Proofs.YtebfokjgeknciabGreatDoor
