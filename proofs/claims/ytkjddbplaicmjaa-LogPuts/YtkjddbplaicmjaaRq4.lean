import Derived.Test.YtkjddbplaicmjaaRq3
namespace Go.Proofs.Ytkjddbplaicmjaa
namespace Rq
open Go.RowKit Laws Irw Crw Grp
set_option linter.unusedVariables false
set_option linter.unusedSimpArgs false
set_option maxRecDepth 100000
def kG : Knd Sv := ⟨23, 1, 24, .slice none 0 0, fun x => [.slice x.1 x.2.1 x.2.2], fun _ => rfl, fun x u hu => by simp at hu; subst hu; rfl, by omega, rfl, by omega⟩
theorem infoG' : (Try.prog.info? 23).map (fun i => (i.zero, i.size, i.bytes)) = some (some kG.zero, 1, 24) := by kernel_rfl
theorem undGG : Try.prog.underlying 37 = some (.slice 23) := by kernel_rfl
theorem isG_one {w : World} {v : Sv} {u : TypeId} {g : Nat} (hg : w.heap.size = g) : IsK kG (w.alloc (.cells #[.slice v.1 v.2.1 v.2.2] u)) (some ⟨g, 0, none⟩) [v] := by
  subst hg
  refine IsK.of ⟨by simp, fun i z hz j x hx => ?_⟩
  cases i with
  | zero =>
    simp at hz; subst hz
    rw [World.cell?_alloc_at _ _ _ _ rfl]
    match j with
    | 0 => exact hx
    | j + 1 => exact absurd hx (by rw [show (kG.cs v)[j + 1]? = none from rfl]; simp)
  | succ i => simp at hz
/-- no tags at all -/
def T0 (_ : Nat) : Nat := 0
/-- The room when it has lent groups: what stays in every later world. -/
structure Ro (w : World) (R : Nat) (vs fs : List Sv) (gs : List (List Wr)) (f : Option Addr) (d : Nat) : Prop where
  lt : R < w.heap.size
  c12 : ∃ a c, w.cell? ⟨R, 12, none⟩ = some (.slice a gs.length c) ∧ IsK kS w a vs
  c13 : ∃ a c, w.cell? ⟨R, 13, none⟩ = some (.slice a gs.length c) ∧ IsI w a (gs.map fun g => (g.length : Int))
  c22 : ∃ a c, w.cell? ⟨R, 22, none⟩ = some (.slice a 1 c) ∧ IsK kG w a [(f, gs.length + 40, d)]
  c23 : ∃ a c, w.cell? ⟨R, 23, none⟩ = some (.slice a 1 c) ∧ IsI w a [(gs.length : Int)]
  nil : ∀ j, j < 28 → j ≠ 12 → j ≠ 13 → j ≠ 22 → j ≠ 23 → w.cell? ⟨R, j, none⟩ = some (.slice none 0 0)
  ln : vs.length = gs.length
  ok : ∀ (i : Nat) v g, vs[i]? = some v → gs[i]? = some g → Lw T0 w v g
  full : IsK kS w f fs
  fl : Fl T0 w fs gs 40
theorem Lw.zero {T : Nat → Nat} {w : World} {v : Sv} {ws : List Wr} (h : Lw T w v ws) : Lw T0 w v ws := by
  obtain ⟨h1, b, e, ht, hr⟩ := h
  exact ⟨h1, b, e, rfl, hr⟩
theorem Fs.zero {T : Nat → Nat} {w : World} {v : Sv} {ws : List Wr} (h : Fs T w v ws) : Fs T0 w v ws := by
  obtain ⟨h1, b, e, ht, hr⟩ := h
  exact ⟨h1, b, e, rfl, hr⟩
theorem Ro.below {w w' : World} {R : Nat} {vs fs : List Sv} {gs : List (List Wr)} {f : Option Addr} {d : Nat} (h : Ro w R vs fs gs f d) (hb : Below w.heap.size w w') : Ro w' R vs fs gs f d := by
  have g : Goes (fun _ => False) T0 w T0 w' := Goes.below hb
  have c : ∀ j, w'.cell? ⟨R, j, none⟩ = w.cell? ⟨R, j, none⟩ := fun j => g.cell h.lt (fun z => z)
  obtain ⟨a2, c2, k2, i2⟩ := h.c12
  obtain ⟨a3, c3, k3, i3⟩ := h.c13
  obtain ⟨a4, c4, k4, i4⟩ := h.c22
  obtain ⟨a5, c5, k5, i5⟩ := h.c23
  exact ⟨Nat.lt_of_lt_of_le h.lt hb.size, ⟨a2, c2, (c 12).trans k2, i2.below hb⟩, ⟨a3, c3, (c 13).trans k3, i3.below hb⟩, ⟨a4, c4, (c 22).trans k4, i4.below hb⟩, ⟨a5, c5, (c 23).trans k5, i5.below hb⟩, fun j q1 q2 q3 q4 q5 => (c j).trans (h.nil j q1 q2 q3 q4 q5), h.ln, fun i v z hv hz => (h.ok i v z hv hz).goes g (fun z => z), h.full.below hb, h.fl.goes g (fun z => z)⟩
theorem Lg.start {w0 w : World} {R : Nat} {T : Nat → Nat} {u : TypeId} (h : Rm T w R [] []) (hz : ∀ b, w.heap.size ≤ b → T b = 0) (h0 : ∀ b, b < w0.heap.size → T b = 0) (hb : Below w0.heap.size w0 w) :
    Lg w0 R [] [] [] 0 (.slice (some ⟨w.heap.size, 0, none⟩) 0 0) (Irw.upd T w.heap.size 4) (w.alloc (.cells #[] 63)) := by
  have hbe : Below w.heap.size w (w.alloc (.cells #[] 63)) := (Below.refl _ _).alloc (Nat.le_refl _) _
  have g : Goes (fun _ => False) T w (Irw.upd T w.heap.size 4) (w.alloc (.cells #[] 63)) := ⟨hbe.os, hbe.tape, hbe.output, hbe.size, fun b hl _ => hbe.block b hl, fun b hl _ => upd_other _ _ (by omega), fun b hl hh => by simp at hl; exact (upd_other _ _ (by omega)).trans hh⟩
  refine ⟨h.goes g (fun z => z) (fun z => z) (fun z => z) (fun z => z), ⟨World.ownsRow_lit w #[] 0 (Nat.zero_le _) (by simp [maxLen]) (by simp), fun x hx => by cases hx; exact upd_same _ _ _⟩, ⟨rfl, fun i v ws hv => by simp at hv⟩, hb.trans (hbe.mono hb.size), fun b hl => (upd_other _ _ (by have := hb.size; omega)).trans (h0 b hl), fun b hl => by simp at hl; exact (upd_other _ _ (by omega)).trans (hz b (by omega))⟩
/-- Both lists of the room were written. -/
theorem Lg.done {w0 w w4 w5 : World} {R n : Nat} {vs fs : List Sv} {gs : List (List Wr)} {f a4 a5 : Option Addr} {d c4 c5 : Nat} {T T4 T5 : Nat → Nat} (h : Lg w0 R vs fs gs 40 (.slice f (n + 40) d) T w) (hn : n = gs.length)
    (g4 : Goes (· = 5) T w T4 w4) (o4 : OwnK kG 5 T4 w4 (.slice a4 1 c4) [(f, n + 40, d)]) (g5 : Goes (· = 6) T4 (w4.setCell ⟨R, 22, none⟩ (.slice a4 1 c4)) T5 w5) (o5 : OwnL 6 T5 w5 (.slice a5 1 c5) [(n : Int)]) :
    Ro (w5.setCell ⟨R, 23, none⟩ (.slice a5 1 c5)) R vs fs gs f d ∧ Below w0.heap.size w0 (w5.setCell ⟨R, 23, none⟩ (.slice a5 1 c5)) ∧ n + 40 ≤ d ∧ ∃ b, f = some ⟨b, 0, none⟩ := by
  subst hn
  have hr := h.rm
  have e2 : ¬ (T R = 5) := by rw [hr.tag]; omega
  have t2 : T4 R = 1 := (g4.tag R hr.lt e2).trans hr.tag
  have l2 : R < w4.heap.size := Nat.lt_of_lt_of_le hr.lt g4.size
  have s2 : Goes (· = 1) T4 w4 T4 (w4.setCell ⟨R, 22, none⟩ (.slice a4 1 c4)) := Goes.setCell t2
  have l2' : R < (w4.setCell ⟨R, 22, none⟩ (.slice a4 1 c4)).heap.size := by simpa using l2
  have e3 : ¬ (T4 R = 6) := by rw [t2]; omega
  have t3 : T5 R = 1 := (g5.tag R l2' e3).trans t2
  have l3 : R < w5.heap.size := Nat.lt_of_lt_of_le l2' g5.size
  have s3 : Goes (· = 1) T5 w5 T5 (w5.setCell ⟨R, 23, none⟩ (.slice a5 1 c5)) := Goes.setCell t3
  have G : Goes (fun x => x = 5 ∨ x = 1 ∨ x = 6) T w T5 (w5.setCell ⟨R, 23, none⟩ (.slice a5 1 c5)) := (g4.mono fun x hx => .inl hx).trans ((s2.mono fun x hx => .inr (.inl hx)).trans ((g5.mono fun x hx => .inr (.inr hx)).trans (s3.mono fun x hx => .inr (.inl hx))))
  have c22 : w5.cell? ⟨R, 22, none⟩ = some (.slice a4 1 c4) := (g5.cell l2' e3).trans (World.cell?_setCell_same _ _ _ ((g4.cell hr.lt e2).trans (hr.nil 22 (by omega) (by omega) (by omega))))
  have c23 : w5.cell? ⟨R, 23, none⟩ = some (.slice none 0 0) := (g5.cell l2' e3).trans ((World.cell?_setCell_other _ _ _ _ (by intro z; cases z)).trans ((g4.cell hr.lt e2).trans (hr.nil 23 (by omega) (by omega) (by omega))))
  have co : ∀ j, j ≠ 22 → j ≠ 23 → (w5.setCell ⟨R, 23, none⟩ (.slice a5 1 c5)).cell? ⟨R, j, none⟩ = w.cell? ⟨R, j, none⟩ := fun j q1 q2 => (World.cell?_setCell_other _ _ _ _ (by intro z; exact q2 (congrArg Addr.off z).symm)).trans ((g5.cell l2' e3).trans ((World.cell?_setCell_other _ _ _ _ (by intro z; exact q1 (congrArg Addr.off z).symm)).trans (g4.cell hr.lt e2)))
  obtain ⟨x2, k2, q2⟩ := hr.c12
  obtain ⟨x3, k3, q3⟩ := hr.c13
  obtain ⟨b2, d2, rfl, _⟩ := q2.form
  obtain ⟨b3, d3, rfl, _⟩ := q3.form
  obtain ⟨_, _, r2, i2, _⟩ := (q2.goes G (by omega)).form
  obtain ⟨_, _, r3, i3, _⟩ := (q3.goes G (by omega)).form
  obtain ⟨_, _, r4, i4, _⟩ := (((o4.goes s2 (by omega)).goes g5 (by omega)).goes s3 (by omega)).form
  obtain ⟨_, _, r5, i5, _⟩ := (o5.goes s3 (by omega)).form
  obtain ⟨_, _, r6, i6, le6, _⟩ := (h.ow.goes G (by omega)).form
  have hlf := h.fl.ln
  cases r2
  cases r3
  cases r4
  cases r5
  injection r6 with r61 r62 r63
  subst r61
  subst r63
  refine ⟨⟨by simpa using l3, ⟨_, _, (co 12 (by omega) (by omega)).trans (by rw [← hr.ln]; exact k2), i2⟩, ⟨_, _, (co 13 (by omega) (by omega)).trans (by rw [List.length_map] at k3; exact k3), i3⟩, ⟨_, _, (World.cell?_setCell_other _ _ _ _ (by intro z; cases z)).trans c22, i4⟩, ⟨_, _, World.cell?_setCell_same _ _ _ c23, i5⟩, fun j z1 z2 z3 z4 z5 => (co j z4 z5).trans (hr.nil j z1 z2 z3), hr.ln, fun i v z hv hz => ((hr.ok i v z hv hz).goes G (by omega)).zero, i6, ⟨hlf, fun i v z hv hz => ((h.fl.ok i v z hv hz).goes G (by omega)).zero⟩⟩, (bel_goes h.bl h.fr G (by omega)).1, by omega, ?_⟩
  rcases h.ow.1.2 with ⟨z1, z2⟩ | ⟨g, cap, cur, hv, _⟩
  · omega
  · injection hv with hv1
    exact ⟨g, hv1⟩
end Rq
end Go.Proofs.Ytkjddbplaicmjaa
