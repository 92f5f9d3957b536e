import Derived.Test.YtebfokjgeknciabGreatDoorPr1
import Derived.Test.YtebfokjgeknciabGreatDoorPk2
namespace Go.Proofs.YtebfokjgeknciabGreatDoor
namespace Pcm
open Go.RowKit Laws Irw Lin
set_option linter.unusedVariables false
set_option maxRecDepth 20000

/-- The document's bucket that lies: tag t is itself, t + 1 its line. -/
structure RbAt (t : Nat) (T : Nat → Nat) (w : World) (p : Nat) (rate burst tok : Int) (l : List Int) : Prop where
  tag : T p = t
  lt : p < w.heap.size
  free : ∀ j, w.frozen? ⟨p, j, none⟩ = false
  c0 : w.cell? ⟨p, 0, none⟩ = some (.int .i64 rate)
  c1 : w.cell? ⟨p, 1, none⟩ = some (.int .i64 burst)
  c2 : w.cell? ⟨p, 2, none⟩ = some (.int .i64 tok)
  line : ∃ v, w.cell? ⟨p, 3, none⟩ = some v ∧ OwnL (t + 1) T w v l
  r1 : R64 rate
  r2 : R64 burst
  r3 : R64 tok
def rbT (t x : Nat) : Prop := x = t ∨ x = t + 1
theorem RbAt.goes {t : Nat} {u : Nat → Prop} {T T' : Nat → Nat} {w w' : World} {p : Nat} {rate burst tok : Int} {l : List Int} (h : RbAt t T w p rate burst tok l) (hg : Goes u T w T' w') (h0 : ¬ u t) (h1 : ¬ u (t + 1)) : RbAt t T' w' p rate burst tok l := by
  have hb := hg.block p h.lt (by rw [h.tag]; exact h0)
  have hc : ∀ j, w'.cell? ⟨p, j, none⟩ = w.cell? ⟨p, j, none⟩ := fun j => World.cell?_of_block (a := ⟨p, j, none⟩) hb
  obtain ⟨v, hv, hl⟩ := h.line
  exact ⟨(hg.tag p h.lt (by rw [h.tag]; exact h0)).trans h.tag, Nat.lt_of_lt_of_le h.lt hg.size, fun j => (World.frozen?_of_block (a := ⟨p, j, none⟩) hb).trans (h.free j), (hc 0).trans h.c0, (hc 1).trans h.c1, (hc 2).trans h.c2, ⟨v, (hc 3).trans hv, hl.goes hg h1⟩, h.r1, h.r2, h.r3⟩
theorem RbAt.below {t : Nat} {T : Nat → Nat} {w w' : World} {p : Nat} {rate burst tok : Int} {l : List Int} (h : RbAt t T w p rate burst tok l) (hb : Below w.heap.size w w') : RbAt t T w' p rate burst tok l := h.goes (Goes.below (t := fun _ => False) hb) (fun z => z) (fun z => z)
theorem RbAt.set {t : Nat} {T : Nat → Nat} {w : World} {p : Nat} {rate burst tok x : Int} {l : List Int} (h : RbAt t T w p rate burst tok l) (hx : R64 x) : RbAt t T (w.setCell ⟨p, 2, none⟩ (.int .i64 x)) p rate burst x l ∧ Goes (rbT t) T w T (w.setCell ⟨p, 2, none⟩ (.int .i64 x)) := by
  have hg : Goes (· = t) T w T (w.setCell ⟨p, 2, none⟩ (.int .i64 x)) := Goes.setCell h.tag
  have ho : ∀ j, j ≠ 2 → (w.setCell ⟨p, 2, none⟩ (.int .i64 x)).cell? ⟨p, j, none⟩ = w.cell? ⟨p, j, none⟩ := fun j hj => World.cell?_setCell_other w ⟨p, 2, none⟩ ⟨p, j, none⟩ _ (fun e => hj ((congrArg Addr.off e).symm))
  obtain ⟨v, hv, hl⟩ := h.line
  exact ⟨⟨h.tag, by have := h.lt; simpa using this, fun j => by rw [World.frozen?_setCell]; exact h.free j, (ho 0 (by omega)).trans h.c0, (ho 1 (by omega)).trans h.c1, World.cell?_setCell_same _ _ _ h.c2, ⟨v, (ho 3 (by omega)).trans hv, hl.goes hg (by omega)⟩, h.r1, h.r2, hx⟩, hg.mono fun y hy => .inl hy⟩
/-- its line is set -/
theorem RbAt.put {t : Nat} {T T' : Nat → Nat} {w w' : World} {p : Nat} {rate burst tok : Int} {l l' : List Int} {v : Value} (h : RbAt t T w p rate burst tok l) (hg : Goes (· = t + 1) T w T' w') (ho : OwnL (t + 1) T' w' v l') :
    RbAt t T' (w'.setCell ⟨p, 3, none⟩ v) p rate burst tok l' ∧ Goes (rbT t) T w T' (w'.setCell ⟨p, 3, none⟩ v) := by
  have hT : T' p = t := (hg.tag p h.lt (by rw [h.tag]; omega)).trans h.tag
  have hb := hg.block p h.lt (by rw [h.tag]; omega)
  have hc : ∀ j, w'.cell? ⟨p, j, none⟩ = w.cell? ⟨p, j, none⟩ := fun j => World.cell?_of_block (a := ⟨p, j, none⟩) hb
  obtain ⟨v0, hv0, _⟩ := h.line
  have hs : Goes (· = t) T' w' T' (w'.setCell ⟨p, 3, none⟩ v) := Goes.setCell hT
  have hoo : ∀ j, j ≠ 3 → (w'.setCell ⟨p, 3, none⟩ v).cell? ⟨p, j, none⟩ = w'.cell? ⟨p, j, none⟩ := fun j hj => World.cell?_setCell_other w' ⟨p, 3, none⟩ ⟨p, j, none⟩ _ (fun e => hj ((congrArg Addr.off e).symm))
  refine ⟨⟨hT, by have := h.lt; have := hg.size; simp; omega, fun j => ?_, (hoo 0 (by omega)).trans ((hc 0).trans h.c0), (hoo 1 (by omega)).trans ((hc 1).trans h.c1), (hoo 2 (by omega)).trans ((hc 2).trans h.c2), ⟨v, World.cell?_setCell_same _ _ _ ((hc 3).trans hv0), ho.goes hs (by omega)⟩, h.r1, h.r2, h.r3⟩, (hg.mono fun x hx => .inr hx).trans (hs.mono fun x hx => .inl hx)⟩
  rw [World.frozen?_setCell]
  exact (World.frozen?_of_block (a := ⟨p, j, none⟩) hb).trans (h.free j)
def RbIs (t : Nat) (T : Nat → Nat) (w : World) (p : Nat) (rate burst tok : Int) (l : List Int) (w' : World) : Prop := ∃ T', RbAt t T' w' p rate burst tok l ∧ Goes (rbT t) T w T' w'
theorem RbAt.form {t : Nat} {T : Nat → Nat} {w : World} {p : Nat} {rate burst tok : Int} {l : List Int} (h : RbAt t T w p rate burst tok l) : ∃ a c, w.cell? ⟨p, 3, none⟩ = some (.slice a l.length c) ∧ OwnL (t + 1) T w (.slice a l.length c) l ∧ IsI w a l ∧ l.length ≤ c ∧ (a = none → c = 0) := by
  obtain ⟨v, hv, ho⟩ := h.line
  obtain ⟨a, c, rfl, h1, h2, h3, _⟩ := ho.form
  exact ⟨a, c, hv, ho, h1, h2, h3⟩

set_option maxHeartbeats 2000000 in
theorem rtick_any (t : Nat) (T : Nat → Nat) (w : World) (p : Nat) (rate burst tok : Int) (l : List Int) (h : RbAt t T w p rate burst tok l) :
    Calls Tryz.prog 26 #[.pointer (some ⟨p, 0, none⟩)] w fun e w' => e = .returned (.tuple #[]) ∧ RbIs t T w p rate burst (tickV tok rate burst) l w' := by
  have c0 := h.c0
  have c1 := h.c1
  have c2 := h.c2
  have hf := h.free 2
  have HH : Hid (RbAt t T w p rate burst tok l) := h
  have HR : Hid (R64 rate ∧ R64 tok) := ⟨h.r1, h.r3⟩
  clear h
  go_enter Tryz.func26, Tryz.ntmps26
  go_wp2
  go_region_with (go_at_call 6; refine (radd_any tok rate HR.out.2 HR.out.1 _).mono ?_; rintro e w9 ⟨rfl, hw9⟩; have hw8 := hw9.symm; clear hw9; subst hw8)
  all_goals (
    go_wp2
    refine bodyPost_end (results_none Tryz.results26 _ _ _) rfl ⟨rfl, ?_⟩
    have hs := HH.out.set (x := tickV tok rate burst) (tick_r HH.out.r2)
    exact ⟨T, hs.1.below (Below.refl _ _).drew, hs.2.trans (Goes.below (Below.refl _ _).drew)⟩)

set_option maxHeartbeats 2000000 in
theorem rnew_any (t : Nat) (T : Nat → Nat) (rate burst : Int) (hr : R64 rate) (hb : R64 burst) (w : World) :
    Calls Tryz.prog 7 #[.int .i64 rate, .int .i64 burst] w fun e w' => ∃ p T', e = .returned (.pointer (some ⟨p, 0, none⟩)) ∧ RbAt t T' w' p (max rate 0) (max burst 0) (max burst 0) [] ∧ Goes (fun _ => False) T w T' w' ∧ Below w.heap.size w w' := by
  have HRR : Hid (R64 rate ∧ R64 burst) := ⟨hr, hb⟩
  clear hr hb
  go_enter Tryz.func7, Tryz.ntmps7
  go_wp2_with (go_at_call 24; refine (above_any _ _).mono ?_; rintro e w9 ⟨rfl, hw9⟩; have hw8 := hw9.symm; clear hw9; subst hw8)
  go_ret
  have hb2 : Below w.heap.size w (w.alloc (.cells #[.int .i64 (max rate 0), .int .i64 (max burst 0), .int .i64 (max burst 0), .slice none 0 0] 60)) := (Below.refl _ _).alloc (Nat.le_refl _) _
  have hcell : ∀ j, (w.alloc (.cells #[.int .i64 (max rate 0), .int .i64 (max burst 0), .int .i64 (max burst 0), .slice none 0 0] 60)).cell? ⟨w.heap.size, j, none⟩ = (#[Value.int .i64 (max rate 0), .int .i64 (max burst 0), .int .i64 (max burst 0), .slice none 0 0])[j]? := fun j => by rw [World.cell?_alloc_at _ _ _ _ rfl]
  have hfz : ∀ j, (w.alloc (.cells #[.int .i64 (max rate 0), .int .i64 (max burst 0), .int .i64 (max burst 0), .slice none 0 0] 60)).frozen? ⟨w.heap.size, j, none⟩ = false := fun j => by simp
  have hsz : (w.alloc (.cells #[.int .i64 (max rate 0), .int .i64 (max burst 0), .int .i64 (max burst 0), .slice none 0 0] 60)).heap.size = w.heap.size + 1 := by simp
  generalize (w.alloc (.cells #[.int .i64 (max rate 0), .int .i64 (max burst 0), .int .i64 (max burst 0), .slice none 0 0] 60)) = W at *
  have hg2 : Goes (fun _ => False) T w (upd T w.heap.size t) W := ⟨hb2.os, hb2.tape, hb2.output, hb2.size, fun b hb _ => hb2.block b hb, fun b hb _ => upd_other _ _ (by omega), fun b hb h0 => (upd_other _ _ (by omega)).trans h0⟩
  obtain ⟨hr, hb⟩ := HRR.out
  unfold R64 at hr hb
  exact ⟨w.heap.size, _, rfl, ⟨upd_same _ _ _, by omega, hfz, hcell 0, hcell 1, hcell 2, ⟨_, hcell 3, OwnL.nil _ _ _⟩, by unfold R64; omega, by unfold R64; omega, by unfold R64; omega⟩, hg2, hb2⟩

end Pcm
end Go.Proofs.YtebfokjgeknciabGreatDoor
