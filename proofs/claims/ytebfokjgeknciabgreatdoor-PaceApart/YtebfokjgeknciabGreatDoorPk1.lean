import Derived.Test.YtebfokjgeknciabGreatDoorPc1
import Derived.Test.YtebfokjgeknciabGreatDoorLp5
import Derived.Deep.Cut
import Derived.Deep.DeepCutAuto
import Derived.Deep.RegionLaw
import Derived.Deep.RegionWith
import Derived.Deep.RegionHeld3
namespace Go.Proofs.YtebfokjgeknciabGreatDoor
namespace Pcm
open Go.RowKit Laws Irw Lin
set_option linter.unusedVariables false
set_option maxRecDepth 20000

/-- A bucket that lies: tag t is itself, t + 1 and t + 2 its line. -/
structure BkAt (t : Nat) (T : Nat → Nat) (w : World) (p : Nat) (rate burst tok : Int) (l : List Int) : Prop where
  tag : T p = t
  lt : p < w.heap.size
  free : ∀ j, w.frozen? ⟨p, j, none⟩ = false
  c1 : w.cell? ⟨p, 1, none⟩ = some (.int .i64 rate)
  c2 : w.cell? ⟨p, 2, none⟩ = some (.int .i64 burst)
  c3 : w.cell? ⟨p, 3, none⟩ = some (.int .i64 tok)
  line : ∃ q, w.cell? ⟨p, 0, none⟩ = some (.pointer (some ⟨q, 0, none⟩)) ∧ LineAt (t + 1) T w q l
  r1 : R64 rate
  r2 : R64 burst
  r3 : R64 tok
/-- whose blocks it is made of -/
def bkT (t x : Nat) : Prop := x = t ∨ x = t + 1 ∨ x = t + 2
theorem BkAt.goes {t : Nat} {u : Nat → Prop} {T T' : Nat → Nat} {w w' : World} {p : Nat} {rate burst tok : Int} {l : List Int} (h : BkAt t T w p rate burst tok l) (hg : Goes u T w T' w') (h0 : ¬ u t) (h1 : ¬ u (t + 1)) (h2 : ¬ u (t + 2)) : BkAt t T' w' p rate burst tok l := by
  have hb := hg.block p h.lt (by rw [h.tag]; exact h0)
  have hc : ∀ j, w'.cell? ⟨p, j, none⟩ = w.cell? ⟨p, j, none⟩ := fun j => World.cell?_of_block (a := ⟨p, j, none⟩) hb
  obtain ⟨q, hq, hl⟩ := h.line
  exact ⟨(hg.tag p h.lt (by rw [h.tag]; exact h0)).trans h.tag, Nat.lt_of_lt_of_le h.lt hg.size, fun j => (World.frozen?_of_block (a := ⟨p, j, none⟩) hb).trans (h.free j), (hc 1).trans h.c1, (hc 2).trans h.c2, (hc 3).trans h.c3, ⟨q, (hc 0).trans hq, hl.goes hg h1 h2⟩, h.r1, h.r2, h.r3⟩
theorem BkAt.below {t : Nat} {T : Nat → Nat} {w w' : World} {p : Nat} {rate burst tok : Int} {l : List Int} (h : BkAt t T w p rate burst tok l) (hb : Below w.heap.size w w') : BkAt t T w' p rate burst tok l := h.goes (Goes.below (t := fun _ => False) hb) (fun z => z) (fun z => z) (fun z => z)
/-- the tokens are set -/
theorem BkAt.set {t : Nat} {T : Nat → Nat} {w : World} {p : Nat} {rate burst tok x : Int} {l : List Int} (h : BkAt t T w p rate burst tok l) (hx : R64 x) : BkAt t T (w.setCell ⟨p, 3, none⟩ (.int .i64 x)) p rate burst x l ∧ Goes (bkT t) T w T (w.setCell ⟨p, 3, none⟩ (.int .i64 x)) := by
  have hg : Goes (· = t) T w T (w.setCell ⟨p, 3, none⟩ (.int .i64 x)) := Goes.setCell h.tag
  have ho : ∀ j, j ≠ 3 → (w.setCell ⟨p, 3, none⟩ (.int .i64 x)).cell? ⟨p, j, none⟩ = w.cell? ⟨p, j, none⟩ := fun j hj => World.cell?_setCell_other w ⟨p, 3, none⟩ ⟨p, j, none⟩ _ (fun e => hj ((congrArg Addr.off e).symm))
  obtain ⟨q, hq, hl⟩ := h.line
  exact ⟨⟨h.tag, by have := h.lt; simpa using this, fun j => by rw [World.frozen?_setCell]; exact h.free j, (ho 1 (by omega)).trans h.c1, (ho 2 (by omega)).trans h.c2, World.cell?_setCell_same _ _ _ h.c3, ⟨q, (ho 0 (by omega)).trans hq, hl.goes hg (by omega) (by omega)⟩, h.r1, h.r2, hx⟩, hg.mono fun y hy => .inl hy⟩
theorem BkAt.put {t : Nat} {T T' : Nat → Nat} {w w' : World} {p q : Nat} {rate burst tok : Int} {l l' : List Int} (h : BkAt t T w p rate burst tok l) (hq : w.cell? ⟨p, 0, none⟩ = some (.pointer (some ⟨q, 0, none⟩))) (hl : LineAt (t + 1) T' w' q l') (hg : Goes (fun x => x = t + 1 ∨ x = t + 1 + 1) T w T' w') :
    BkAt t T' w' p rate burst tok l' ∧ Goes (bkT t) T w T' w' := by
  have hb := hg.block p h.lt (by rw [h.tag]; omega)
  have hc : ∀ j, w'.cell? ⟨p, j, none⟩ = w.cell? ⟨p, j, none⟩ := fun j => World.cell?_of_block (a := ⟨p, j, none⟩) hb
  exact ⟨⟨(hg.tag p h.lt (by rw [h.tag]; omega)).trans h.tag, Nat.lt_of_lt_of_le h.lt hg.size, fun j => (World.frozen?_of_block (a := ⟨p, j, none⟩) hb).trans (h.free j), (hc 1).trans h.c1, (hc 2).trans h.c2, (hc 3).trans h.c3, ⟨q, (hc 0).trans hq, hl⟩, h.r1, h.r2, h.r3⟩, hg.mono fun y hy => .inr hy⟩
def BkIs (t : Nat) (T : Nat → Nat) (w : World) (p : Nat) (rate burst tok : Int) (l : List Int) (w' : World) : Prop := ∃ T', BkAt t T' w' p rate burst tok l ∧ Goes (bkT t) T w T' w'

def tickV (tok rate burst : Int) : Int := min (sadd tok rate) burst
def takeV (tok n : Int) : Int := sadd tok (-(max n 0))
theorem tick_r {tok rate burst : Int} (h : R64 burst) : R64 (tickV tok rate burst) := by
  have := sadd_r tok rate
  unfold tickV
  unfold R64 at *
  omega

set_option maxHeartbeats 1000000 in
theorem tokens_any (t : Nat) (T : Nat → Nat) (w : World) (p : Nat) (rate burst tok : Int) (l : List Int) (h : BkAt t T w p rate burst tok l) :
    Calls Tryz.prog 12 #[.pointer (some ⟨p, 0, none⟩)] w fun e w' => e = .returned (.int .i64 tok) ∧ w' = w := by
  have c3 := h.c3
  go_enter Tryz.func12, Tryz.ntmps12
  go_wp2
  go_ret
  exact ⟨rfl, rfl⟩

set_option maxHeartbeats 2000000 in
theorem tick_any (t : Nat) (T : Nat → Nat) (w : World) (p : Nat) (rate burst tok : Int) (l : List Int) (h : BkAt t T w p rate burst tok l) :
    Calls Tryz.prog 25 #[.pointer (some ⟨p, 0, none⟩)] w fun e w' => e = .returned (.tuple #[]) ∧ BkIs t T w p rate burst (tickV tok rate burst) l w' := by
  have c1 := h.c1
  have c2 := h.c2
  have c3 := h.c3
  have hf := h.free 3
  have HP := h.r1
  have HQ := h.r3
  have HH : Hid (BkAt t T w p rate burst tok l) := h
  have HR : Hid (R64 rate ∧ R64 tok) := ⟨h.r1, h.r3⟩
  clear h HP HQ
  go_enter Tryz.func25, Tryz.ntmps25
  go_wp2
  go_region_with (go_at_call 61; refine (plus_any tok rate HR.out.2 HR.out.1 _).mono ?_; rintro e w9 ⟨rfl, hw9⟩; have hw8 := hw9.symm; clear hw9; subst hw8)
  all_goals (
    go_wp2
    refine bodyPost_end (results_none Tryz.results25 _ _ _) rfl ⟨rfl, ?_⟩
    have hs := HH.out.set (x := tickV tok rate burst) (tick_r HH.out.r2)
    exact ⟨T, hs.1.below (Below.refl _ _).drew, hs.2.trans (Goes.below (Below.refl _ _).drew)⟩)

set_option maxHeartbeats 2000000 in
theorem newBucket_any (t : Nat) (T : Nat → Nat) (rate burst : Int) (hr : R64 rate) (hb : R64 burst) (w : World) (hT : ∀ b, w.heap.size ≤ b → T b = 0) :
    Calls Tryz.prog 5 #[.int .i64 rate, .int .i64 burst] w fun e w' => ∃ p T', e = .returned (.pointer (some ⟨p, 0, none⟩)) ∧ BkAt t T' w' p (max rate 0) (max burst 0) (max burst 0) [] ∧ Goes (fun _ => False) T w T' w' ∧ Below w.heap.size w w' := by
  have HRR : Hid (R64 rate ∧ R64 burst) := ⟨hr, hb⟩
  clear hr hb
  go_enter Tryz.func5, Tryz.ntmps5
  go_wp2_with (first | (go_at_call 22; refine (new_any _ T (t + 1)).mono ?_; rintro e w1 ⟨rfl, hl1, hb1⟩; have HL1 : Hid (LineAt (t + 1) (upd T w.heap.size (t + 1)) w1 w.heap.size []) := hl1; have HB1 : Hid (Below w.heap.size w w1) := hb1; clear hl1 hb1) | (go_at_call 23; refine (counted_any _ _).mono ?_; rintro e w9 ⟨rfl, hw9⟩; have hw8 := hw9.symm; clear hw9; subst hw8))
  go_ret
  have hlt : w.heap.size < w1.heap.size := HL1.out.lt
  have hb2 : Below w1.heap.size w1 (w1.alloc (.cells #[.pointer (some ⟨w.heap.size, 0, none⟩), .int .i64 (max rate 0), .int .i64 (max burst 0), .int .i64 (max burst 0)] 80)) := (Below.refl _ _).alloc (Nat.le_refl _) _
  have hcell : ∀ j, (w1.alloc (.cells #[.pointer (some ⟨w.heap.size, 0, none⟩), .int .i64 (max rate 0), .int .i64 (max burst 0), .int .i64 (max burst 0)] 80)).cell? ⟨w1.heap.size, j, none⟩ = (#[Value.pointer (some ⟨w.heap.size, 0, none⟩), .int .i64 (max rate 0), .int .i64 (max burst 0), .int .i64 (max burst 0)])[j]? := fun j => by rw [World.cell?_alloc_at _ _ _ _ rfl]
  have hfz : ∀ j, (w1.alloc (.cells #[.pointer (some ⟨w.heap.size, 0, none⟩), .int .i64 (max rate 0), .int .i64 (max burst 0), .int .i64 (max burst 0)] 80)).frozen? ⟨w1.heap.size, j, none⟩ = false := fun j => by simp
  have hsz : (w1.alloc (.cells #[.pointer (some ⟨w.heap.size, 0, none⟩), .int .i64 (max rate 0), .int .i64 (max burst 0), .int .i64 (max burst 0)] 80)).heap.size = w1.heap.size + 1 := by simp
  generalize (w1.alloc (.cells #[.pointer (some ⟨w.heap.size, 0, none⟩), .int .i64 (max rate 0), .int .i64 (max burst 0), .int .i64 (max burst 0)] 80)) = W at *
  have hg1 : Goes (fun _ => False) T w (upd T w.heap.size (t + 1)) w1 := ⟨HB1.out.os, HB1.out.tape, HB1.out.output, HB1.out.size, fun b hb _ => HB1.out.block b hb, fun b hb _ => upd_other _ _ (by omega), fun b hb h0 => (upd_other _ _ (by omega)).trans h0⟩
  have hg2 : Goes (fun _ => False) (upd T w.heap.size (t + 1)) w1 (upd (upd T w.heap.size (t + 1)) w1.heap.size t) W := ⟨hb2.os, hb2.tape, hb2.output, hb2.size, fun b hb _ => hb2.block b hb, fun b hb _ => upd_other _ _ (by omega), fun b hb h0 => (upd_other _ _ (by omega)).trans h0⟩
  obtain ⟨hr, hb⟩ := HRR.out
  unfold R64 at hr hb
  exact ⟨w1.heap.size, _, rfl, ⟨upd_same _ _ _, by omega, hfz, hcell 1, hcell 2, hcell 3, ⟨w.heap.size, hcell 0, HL1.out.goes hg2 (fun z => z) (fun z => z)⟩, by unfold R64; omega, by unfold R64; omega, by unfold R64; omega⟩, hg1.trans hg2, HB1.out.trans (hb2.mono HB1.out.size)⟩

/-- nobody else is ahead -/
def letsB (l : List Int) (who : Int) : Bool := decide (l.length = 0) || (l.getD 0 0 == who)
set_option maxHeartbeats 2000000 in
theorem lets_any (t : Nat) (T : Nat → Nat) (w : World) (q : Nat) (l : List Int) (who : Int) (h : LineAt t T w q l) (hlen : l.length ≤ 100000000000) :
    Calls Tryz.prog 59 #[.agg #[.pointer (some ⟨q, 0, none⟩)], .int .i64 who] w fun e w' => e = .returned (.bool (letsB l who)) ∧ Below w.heap.size w w' := by
  have hb0 : Below w.heap.size w (w.alloc (.cells #[.pointer (some ⟨q, 0, none⟩)] 76)) := (Below.refl _ _).alloc (Nat.le_refl _) _
  have HC := first_any t T _ q l (h.below hb0) (by omega)
  have HB : Hid (Below w.heap.size w (w.alloc (.cells #[.pointer (some ⟨q, 0, none⟩)] 76))) := hb0
  clear hb0 h
  by_cases h0 : l.length = 0
  · have HE : Hid (letsB l who = true) := by show letsB l who = true; unfold letsB; simp [h0]
    have hd : decide (0 < l.length) = false := by simp [h0]
    rw [hd] at HC
    generalize l.getD 0 0 = y at *
    go_enter Tryz.func59, Tryz.ntmps59
    go_wp2_with (go_at_call 87; refine HC.mono ?_; rintro e w9 ⟨rfl, hw9⟩; have hw8 := hw9.symm; clear hw9; subst hw8)
    go_ret
    exact ⟨by rw [HE.out]; rfl, HB.out⟩
  · have hd : decide (0 < l.length) = true := by simp; omega
    rw [hd] at HC
    have HE : Hid (letsB l who = (l.getD 0 0 == who)) := by show letsB l who = _; unfold letsB; simp [h0]
    generalize l.getD 0 0 = y at *
    go_enter Tryz.func59, Tryz.ntmps59
    go_wp2_with (go_at_call 87; refine HC.mono ?_; rintro e w9 ⟨rfl, hw9⟩; have hw8 := hw9.symm; clear hw9; subst hw8)
    go_ret
    exact ⟨by rw [HE.out]; rfl, HB.out⟩

end Pcm
end Go.Proofs.YtebfokjgeknciabGreatDoor
