import Derived.Test.YtodgomgacgoliaaBg1
namespace Go.Proofs.Ytodgomgacgoliaa
namespace Hp
open Go.RowKit Laws Irw
set_option linter.unusedVariables false
set_option maxRecDepth 100000
set_option linter.unusedSimpArgs false

/-- A bag that lies: tag t is itself, t + 1 what it holds. -/
structure BagAt (t : Nat) (T : Nat → Nat) (w : World) (b : Nat) (o : Int) (l : List Int) : Prop where
  tag : T b = t
  lt : b < w.heap.size
  ord : w.cell? ⟨b, 0, none⟩ = some (.int .i64 o)
  free : w.frozen? ⟨b, 1, none⟩ = false
  at_ : ∃ v, w.cell? ⟨b, 1, none⟩ = some v ∧ OwnL (t + 1) T w v l
theorem BagAt.goes {t : Nat} {u : Nat → Prop} {T T' : Nat → Nat} {w w' : World} {b : Nat} {o : Int} {l : List Int} (h : BagAt t T w b o l) (hg : Goes u T w T' w') (h1 : ¬ u t) (h2 : ¬ u (t + 1)) : BagAt t T' w' b o l := by
  have e1 : ¬ u (T b) := by rw [h.tag]; exact h1
  have hb := hg.block b h.lt e1
  obtain ⟨v, hv, ho⟩ := h.at_
  exact ⟨(hg.tag b h.lt e1).trans h.tag, Nat.lt_of_lt_of_le h.lt hg.size, (hg.cell h.lt e1).trans h.ord, (World.frozen?_of_block (a := ⟨b, 1, none⟩) hb).trans h.free, v, (hg.cell h.lt e1).trans hv, ho.goes hg h2⟩
theorem BagAt.below {t : Nat} {T : Nat → Nat} {w w' : World} {b : Nat} {o : Int} {l : List Int} (h : BagAt t T w b o l) (hb : Below w.heap.size w w') : BagAt t T w' b o l := h.goes (Goes.below (t := fun _ => False) hb) (fun z => z) (fun z => z)
theorem BagAt.put {t : Nat} {T T' : Nat → Nat} {w w' : World} {b : Nat} {o : Int} {l l' : List Int} {v : Value} (h : BagAt t T w b o l) (hg : Goes (· = t + 1) T w T' w') (ho : OwnL (t + 1) T' w' v l') :
    BagAt t T' (w'.setCell ⟨b, 1, none⟩ v) b o l' ∧ Goes (fun x => x = t ∨ x = t + 1) T w T' (w'.setCell ⟨b, 1, none⟩ v) := by
  have e1 : ¬ (T b = t + 1) := by rw [h.tag]; omega
  have hT : T' b = t := (hg.tag b h.lt e1).trans h.tag
  have hb := hg.block b h.lt e1
  obtain ⟨v0, hv0, _⟩ := h.at_
  have hc : w'.cell? ⟨b, 1, none⟩ = some v0 := (hg.cell h.lt e1).trans hv0
  have hs : Goes (· = t) T' w' T' (w'.setCell ⟨b, 1, none⟩ v) := Goes.setCell (t := (· = t)) (T := T') (p := b) hT
  have hl : b < w'.heap.size := Nat.lt_of_lt_of_le h.lt hg.size
  refine ⟨⟨hT, by simpa using hl, ?_, ?_, v, World.cell?_setCell_same _ _ _ hc, ho.goes hs (by omega)⟩, (hg.mono fun x hx => .inr hx).trans (hs.mono fun x hx => .inl hx)⟩
  · rw [World.cell?_setCell_other _ _ _ _ (by simp)]
    exact (hg.cell h.lt e1).trans h.ord
  · rw [World.frozen?_setCell]
    exact (World.frozen?_of_block (a := ⟨b, 1, none⟩) hb).trans h.free
theorem BagAt.form {t : Nat} {T : Nat → Nat} {w : World} {b : Nat} {o : Int} {l : List Int} (h : BagAt t T w b o l) : ∃ a c, w.cell? ⟨b, 1, none⟩ = some (.slice a l.length c) ∧ OwnL (t + 1) T w (.slice a l.length c) l ∧ IsI w a l ∧ l.length ≤ c ∧ (a = none → c = 0) := by
  obtain ⟨v, hv, ho⟩ := h.at_
  obtain ⟨a, c, rfl, h1, h2, h3, _⟩ := ho.form
  exact ⟨a, c, hv, ho, h1, h2, h3⟩
def BagIs (t : Nat) (T : Nat → Nat) (w : World) (b : Nat) (o : Int) (l' : List Int) (w' : World) : Prop := ∃ T', BagAt t T' w' b o l' ∧ Goes (fun x => x = t ∨ x = t + 1) T w T' w'

set_option maxHeartbeats 1600000 in
/-- PUT. -/
theorem put_any (t : Nat) (T : Nat → Nat) (w : World) (p : Nat) (o : Int) (l : List Int) (x : Int) (h : BagAt t T w p o l) (hlen : l.length ≤ 100000000000) :
    Calls Try.prog 22 #[.pointer (some ⟨p, 0, none⟩), .int .i64 x] w fun e w' => e = .returned (.tuple #[]) ∧ BagIs t T w p o (l ++ [x]) w' := by
  obtain ⟨i0, hi0, hz0, hz1, hz2⟩ := info_parts infoI
  obtain ⟨a, c, hc, ho, hi, _, hn⟩ := h.form
  have HH : Hid (BagAt t T w p o l) := h
  have HO : Hid (OwnL (t + 1) T w (.slice a l.length c) l) := ho
  have hlt := h.lt
  have hf := h.free
  clear h ho
  go_enter Try.func22, Try.ntmps22
  go_wp2_with (at_builtin; refine wpList_appL _ (by rfl) (.tmp 8) (.tmp 10) 27 (by rfl) i0 Try.underlying27 hi0 hz0 hz1 hz2 (t + 1) T (.slice a l.length c) l (by rfl) (HO.out.below ((Below.refl _ _).alloc (Nat.le_refl _) _)) (some ⟨w.heap.size, 0, none⟩) 1 1 [x] (by rfl) (by rfl) (by simp) isI_new (by simp; omega) ?_; intro a7 c7 T7 w7 hown7 hgo7 hat7; have hg' : Goes (· = t + 1) T w T7 w7 := (Goes.below ((Below.refl _ _).alloc (Nat.le_refl _) _)).trans hgo7; have hfin : Hid (BagAt t T7 (w7.setCell ⟨p, 1, none⟩ (.slice a7 (l.length + 1) c7)) p o (l ++ [x]) ∧ Goes (fun x => x = t ∨ x = t + 1) T w T7 (w7.setCell ⟨p, 1, none⟩ (.slice a7 (l.length + 1) c7))) := HH.out.put hg' hown7; have hb := hg'.block p hlt (by rw [HH.out.tag]; omega); have hc7 : w7.cell? ⟨p, 1, none⟩ = some (.slice a l.length c) := (World.cell?_of_block (a := ⟨p, 1, none⟩) hb).trans hc; have hf7 : w7.frozen? ⟨p, 1, none⟩ = false := (World.frozen?_of_block (a := ⟨p, 1, none⟩) hb).trans hf; clear hg' hown7 hgo7 hat7 hb)
  go_end0
  exact ⟨rfl, T7, hfin.out.1, hfin.out.2⟩


end Hp
end Go.Proofs.Ytodgomgacgoliaa
