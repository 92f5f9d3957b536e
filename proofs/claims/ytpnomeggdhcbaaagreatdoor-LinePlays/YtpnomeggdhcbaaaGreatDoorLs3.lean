import Derived.Test.YtpnomeggdhcbaaaGreatDoorLs2
import Derived.Test.YtpnomeggdhcbaaaGreatDoorLs0
namespace Go.Proofs.YtpnomeggdhcbaaaGreatDoor
namespace Lin
open Go.RowKit Go.Shelf Laws Irw
set_option linter.unusedVariables false
set_option maxRecDepth 100000
/-- one of two -/
def two {α : Type} (x y : α) : Nat → α := fun i => if i = 0 then x else y
theorem lt_two {i : Nat} (h : i < 2) : i = 0 ∨ i = 1 := by omega
theorem goes_new {T : Nat → Nat} {w w' : World} (hb : Below w.heap.size w w') {g : Nat} (t : Nat) (hg : w.heap.size ≤ g) (hl : g < w'.heap.size) : Goes (fun _ => False) T w (Irw.upd T g t) w' :=
  ⟨hb.os, hb.tape, hb.output, hb.size, fun b h _ => hb.block b h, fun b h _ => upd_other _ _ (by omega), fun b h h0 => (upd_other _ _ (by omega)).trans h0⟩
theorem kept_new {T : Nat → Nat} {w w' : World} {K N : Nat} (h : BookI.Kept T w K N) (hb : Below w.heap.size w w') {g : Nat} (t : Nat) (hg : w.heap.size ≤ g) (hl : g < w'.heap.size) (ht : 9000000 ≤ t) : BookI.Kept (Irw.upd T g t) w' K N := h.goes (goes_new hb t hg hl) (fun x hx => hx.elim)
theorem new_all (w : World) : Calls Tryz.prog 4 #[] w fun e w' => e = .returned (.pointer (some ⟨w.heap.size, 0, none⟩)) ∧ (∀ T t, LineAt t (Irw.upd T w.heap.size t) w' w.heap.size []) ∧ Below w.heap.size w w' := by
  go_enter Tryz.func4, Tryz.ntmps4
  go_wp2
  go_ret
  exact ⟨rfl, fun T t => ⟨upd_same _ _ _, by simp, by simp, .slice none 0 0, by simp, OwnL.nil _ _ _⟩, (Below.refl _ _).alloc (Nat.le_refl _) _⟩
/-- A line made by a literal. -/
theorem line_lit (t : Nat) (T : Nat → Nat) (w : World) (u : TypeId) : LineAt t (Irw.upd T w.heap.size t) (w.alloc (.cells #[.slice none 0 0] u)) w.heap.size [] := by
  refine ⟨upd_same _ _ _, by simp, World.frozen?_alloc_at _ _ _ _ rfl, .slice none 0 0, ?_, OwnL.nil _ _ _⟩
  rw [World.cell?_alloc_at _ _ _ _ rfl]
  rfl
/-- A row in a box: tag 0. -/
structure RB (T : Nat → Nat) (W : World) (b p q : Nat) : Prop where
  lt : b < W.heap.size
  tg : T b = 0
  c0 : W.cell? ⟨b, 0, none⟩ = some (.pointer (some ⟨p, 0, none⟩))
  c1 : W.cell? ⟨b, 1, none⟩ = some (.pointer (some ⟨q, 0, none⟩))
theorem RB.goes {u : Nat → Prop} {T T' : Nat → Nat} {W W' : World} {b p q : Nat} (h : RB T W b p q) (hg : Goes u T W T' W') (h0 : ¬ u 0) : RB T' W' b p q := by
  have eo : ¬ u (T b) := by rw [h.tg]; exact h0
  exact ⟨Nat.lt_of_lt_of_le h.lt hg.size, (hg.tag _ h.lt eo).trans h.tg, (hg.cell h.lt eo).trans h.c0, (hg.cell h.lt eo).trans h.c1⟩
theorem RB.below {T : Nat → Nat} {W W' : World} {b p q : Nat} (h : RB T W b p q) (hb : Below W.heap.size W W') : RB T W' b p q := h.goes (Goes.below (t := fun _ => False) hb) (fun z => z)
/-- A call in a box: tag 0. -/
structure OB (T : Nat → Nat) (W : World) (b : Nat) (o : OpD) : Prop where
  lt : b < W.heap.size
  tg : T b = 0
  c0 : W.cell? ⟨b, 0, none⟩ = some (.int .i64 o.kind)
  c1 : W.cell? ⟨b, 1, none⟩ = some (.int .i64 o.n)
  c2 : W.cell? ⟨b, 2, none⟩ = some (.bool o.second)
theorem OB.goes {u : Nat → Prop} {T T' : Nat → Nat} {W W' : World} {b : Nat} {o : OpD} (h : OB T W b o) (hg : Goes u T W T' W') (h0 : ¬ u 0) : OB T' W' b o := by
  have eo : ¬ u (T b) := by rw [h.tg]; exact h0
  exact ⟨Nat.lt_of_lt_of_le h.lt hg.size, (hg.tag _ h.lt eo).trans h.tg, (hg.cell h.lt eo).trans h.c0, (hg.cell h.lt eo).trans h.c1, (hg.cell h.lt eo).trans h.c2⟩
theorem OB.below {T : Nat → Nat} {W W' : World} {b : Nat} {o : OpD} (h : OB T W b o) (hb : Below W.heap.size W W') : OB T W' b o := h.goes (Goes.below (t := fun _ => False) hb) (fun z => z)
/-- What LinePlays holds. -/
structure LW (w : World) (K N : Nat) (P Q B : Nat → Nat) (L : Nat → List Int) (T : Nat → Nat) (W : World) : Prop where
  lp : LP w K N P Q L T W
  rb : ∀ i, i < 2 → RB T W (B i) (P i) (Q i)
section
variable {w : World} {K N N' : Nat} {P Q B : Nat → Nat} {L L' : Nat → List Int} {T T' : Nat → Nat} {W W' : World}
theorem LW.below (h : LW w K N P Q B L T W) (hb : Below W.heap.size W W') : LW w K N P Q B L T W' := ⟨h.lp.below hb, fun i hi => (h.rb i hi).below hb⟩
theorem LW.next (h : LW w K N P Q B L T W) (hl : LP w K N' P Q L' T' W') (hg : Goes (· ≠ 0) T W T' W') : LW w K N' P Q B L' T' W' := ⟨hl, fun i hi => (h.rb i hi).goes hg (by omega)⟩
end
/-- Where it begins. -/
theorem LW.first {w W2 w3 w6 : World} {u1 u2 u3 u4 : TypeId} (hK : BookI.Kept (BookI.upd (fun _ => 0) w.heap.size 1) W2 w.heap.size 0) (hb2 : Below w.heap.size w W2) (hs2 : W2.heap.size = w.heap.size + 1)
    (h3 : ∀ T t, LineAt t (Irw.upd T W2.heap.size t) w3 W2.heap.size []) (hb3 : Below W2.heap.size W2 w3) {W5 : World}
    (hW5 : W5 = (w3.alloc (.cells #[.slice none 0 0] u1)).alloc (.cells #[.pointer (some ⟨W2.heap.size, 0, none⟩), .pointer (some ⟨w3.heap.size, 0, none⟩)] u2))
    (h6 : ∀ T t, LineAt t (Irw.upd T W5.heap.size t) w6 W5.heap.size []) (hb6 : Below W5.heap.size W5 w6) {W8 : World}
    (hW8 : W8 = (w6.alloc (.cells #[.slice none 0 0] u3)).alloc (.cells #[.pointer (some ⟨W5.heap.size, 0, none⟩), .pointer (some ⟨w6.heap.size, 0, none⟩)] u4)) :
    ∃ T, LW w w.heap.size 0 (two W2.heap.size W5.heap.size) (two w3.heap.size w6.heap.size) (two (w3.heap.size + 1) (w6.heap.size + 1)) (fun _ => []) T W8 := by
  have l3 : W2.heap.size < w3.heap.size := (h3 (fun _ => 0) 0).lt
  have l6 : W5.heap.size < w6.heap.size := (h6 (fun _ => 0) 0).lt
  -- the world behind the document's first line
  obtain ⟨W4, hW4⟩ : ∃ W4, W4 = w3.alloc (.cells #[.slice none 0 0] u1) := ⟨_, rfl⟩
  have s4 : W4.heap.size = w3.heap.size + 1 := by rw [hW4]; simp
  have b4 : Below w3.heap.size w3 W4 := by rw [hW4]; exact (Below.refl _ _).alloc (Nat.le_refl _) _
  rw [← hW4] at hW5
  have s5 : W5.heap.size = w3.heap.size + 2 := by rw [hW5]; simp [s4]
  have b5 : Below W4.heap.size W4 W5 := by rw [hW5]; exact (Below.refl _ _).alloc (Nat.le_refl _) _
  obtain ⟨W7, hW7⟩ : ∃ W7, W7 = w6.alloc (.cells #[.slice none 0 0] u3) := ⟨_, rfl⟩
  have s7 : W7.heap.size = w6.heap.size + 1 := by rw [hW7]; simp
  have b7 : Below w6.heap.size w6 W7 := by rw [hW7]; exact (Below.refl _ _).alloc (Nat.le_refl _) _
  rw [← hW7] at hW8
  have s8 : W8.heap.size = w6.heap.size + 2 := by rw [hW8]; simp [s7]
  have b8 : Below W7.heap.size W7 W8 := by rw [hW8]; exact (Below.refl _ _).alloc (Nat.le_refl _) _
  have ra : ∀ T : Nat → Nat, T (w3.heap.size + 1) = 0 → RB T W5 (w3.heap.size + 1) W2.heap.size w3.heap.size := fun T h => by
    refine ⟨by omega, h, ?_, ?_⟩ <;> (rw [hW5, World.cell?_alloc_at _ _ _ _ s4.symm]; rfl)
  have rb : ∀ T : Nat → Nat, T (w6.heap.size + 1) = 0 → RB T W8 (w6.heap.size + 1) W5.heap.size w6.heap.size := fun T h => by
    refine ⟨by omega, h, ?_, ?_⟩ <;> (rw [hW8, World.cell?_alloc_at _ _ _ _ s7.symm]; rfl)
  have q0 : ∀ T t, LineAt t (Irw.upd T w3.heap.size t) W4 w3.heap.size [] := fun T t => by rw [hW4]; exact line_lit t T w3 u1
  have q1 : ∀ T t, LineAt t (Irw.upd T w6.heap.size t) W7 w6.heap.size [] := fun T t => by rw [hW7]; exact line_lit t T w6 u3
  clear hW4 hW5 hW7 hW8
  obtain ⟨T2, hT2⟩ : ∃ T2, T2 = BookI.upd (fun _ => 0) w.heap.size 1 := ⟨_, rfl⟩
  obtain ⟨T3, hT3⟩ : ∃ T3, T3 = Irw.upd T2 W2.heap.size 9000010 := ⟨_, rfl⟩
  obtain ⟨T4, hT4⟩ : ∃ T4, T4 = Irw.upd T3 w3.heap.size 9000012 := ⟨_, rfl⟩
  obtain ⟨T6, hT6⟩ : ∃ T6, T6 = Irw.upd T4 W5.heap.size 9000014 := ⟨_, rfl⟩
  obtain ⟨T7, hT7⟩ : ∃ T7, T7 = Irw.upd T6 w6.heap.size 9000016 := ⟨_, rfl⟩
  rw [← hT2] at hK
  have hT : ∀ b, b ≠ w.heap.size → b ≠ W2.heap.size → b ≠ w3.heap.size → b ≠ W5.heap.size → b ≠ w6.heap.size → T7 b = 0 := fun b h1 h2 h3 h4 h5 => by
    rw [hT7, upd_other _ _ h5, hT6, upd_other _ _ h4, hT4, upd_other _ _ h3, hT3, upd_other _ _ h2, hT2]
    exact BookI.upd_other _ _ h1
  have k3 : BookI.Kept T3 w3 w.heap.size 0 := by rw [hT3]; exact kept_new hK hb3 9000010 (Nat.le_refl _) (by omega) (by omega)
  have k4 : BookI.Kept T4 W4 w.heap.size 0 := by rw [hT4]; exact kept_new k3 b4 9000012 (Nat.le_refl _) (by omega) (by omega)
  have k6 : BookI.Kept T6 w6 w.heap.size 0 := by rw [hT6]; exact kept_new (k4.below b5) hb6 9000014 (Nat.le_refl _) (by omega) (by omega)
  have k7 : BookI.Kept T7 W7 w.heap.size 0 := by rw [hT7]; exact kept_new k6 b7 9000016 (Nat.le_refl _) (by omega) (by omega)
  have g4 : Goes (fun _ => False) T3 w3 T4 W4 := by rw [hT4]; exact goes_new b4 9000012 (Nat.le_refl _) (by omega)
  have g6 : Goes (fun _ => False) T4 W5 T6 w6 := by rw [hT6]; exact goes_new hb6 9000014 (Nat.le_refl _) (by omega)
  have g7 : Goes (fun _ => False) T6 w6 T7 W7 := by rw [hT7]; exact goes_new b7 9000016 (Nat.le_refl _) (by omega)
  have g8 : Goes (fun _ => False) T7 W7 T7 W8 := Goes.below b8
  have g5 : Goes (fun _ => False) T4 W4 T4 W5 := Goes.below b5
  have g48 : Goes (fun _ => False) T4 W4 T7 W8 := g5.trans (g6.trans (g7.trans g8))
  have L0 : LineAt 9000010 T3 w3 W2.heap.size [] := by rw [hT3]; exact h3 T2 9000010
  have L1 : LineAt 9000012 T4 W4 w3.heap.size [] := by rw [hT4]; exact q0 T3 9000012
  have L2 : LineAt 9000014 T6 w6 W5.heap.size [] := by rw [hT6]; exact h6 T4 9000014
  have L3 : LineAt 9000016 T7 W7 w6.heap.size [] := by rw [hT7]; exact q1 T6 9000016
  have bb : Below w.heap.size w W8 := hb2.trans (((hb3.trans ((b4.trans (b5.mono b4.size)).mono hb3.size)).trans ((hb6.trans ((b7.trans (b8.mono b7.size)).mono hb6.size)).mono (by omega))).mono hb2.size)
  refine ⟨T7, ⟨k7.below b8, fun i hi => ?_, fun i hi => ?_, bb, fun b hb => hT b (by omega) (by omega) (by omega) (by omega) (by omega)⟩, fun i hi => ?_⟩
  · rcases lt_two hi with rfl | rfl
    · exact (L0.goes g4 (fun z => z) (fun z => z)).goes g48 (fun z => z) (fun z => z)
    · exact L2.goes (g7.trans g8) (fun z => z) (fun z => z)
  · rcases lt_two hi with rfl | rfl
    · exact L1.goes g48 (fun z => z) (fun z => z)
    · exact L3.goes g8 (fun z => z) (fun z => z)
  · rcases lt_two hi with rfl | rfl
    · have h0 : T4 (w3.heap.size + 1) = 0 := by
        rw [hT4, upd_other _ _ (by omega), hT3, upd_other _ _ (by omega), hT2]
        exact BookI.upd_other _ _ (by omega)
      exact (ra T4 h0).goes (g6.trans (g7.trans g8)) (fun z => z)
    · exact rb T7 (hT _ (by omega) (by omega) (by omega) (by omega) (by omega))
end Lin
end Go.Proofs.YtpnomeggdhcbaaaGreatDoor
