import Derived.Test.YtkknpcpioodhaaaGreatDoorProg
import Derived.Test.YtkknpcpioodhaaaGreatDoorBookE
import Derived.WalkKit
import Derived.WalkSpells
import Derived.WalkLawsBesides
import Derived.Laws.OwnMore
namespace Go.Proofs.YtkknpcpioodhaaaGreatDoor
namespace Book
open Go.RowKit KMath Cmp Ent Chk Wei Ents Laws
set_option linter.unusedVariables false
attribute [local go_sem ↓] Go.wp_at_zero Go.wp_at_succ

/-- The row of the entries, whatever it holds yet. -/
def OwnR (w : World) (g n : Nat) : Prop := ∃ cs, w.ownsRow 0 49 4 (.slice (some ⟨g, 0, none⟩) n n) n cs
theorem OwnR.below {w w' : World} {g n : Nat} (h : OwnR w g n) (hb : Below w.heap.size w w') : OwnR w' g n := by
  obtain ⟨cs, h⟩ := h
  exact ⟨cs, own_below h hb⟩
theorem OwnR.store {w : World} {g n : Nat} (h : OwnR w g n) (j : Nat) (u : Value) : OwnR (w.setCell ⟨g, j, none⟩ u) g n := by
  obtain ⟨cs, h⟩ := h
  exact ⟨_, (h.stored j u).1⟩
theorem OwnR.full {w : World} {g n : Nat} {es : List En} (h : OwnR w g n) (hm : Made w g n es n) (hn : es.length = n) : OwnI w (g, n, es) := by
  obtain ⟨cs, h⟩ := h
  have hl : cs.length = n * 4 := h.1
  have hc : cs = cellsE es := by
    apply List.ext_getElem?
    intro j
    by_cases hj : j < n * 4
    · have h1 := h.cellAt j hj
      obtain ⟨x, hx⟩ : ∃ x, es[j / 4]? = some x := ⟨_, List.getElem?_eq_getElem (by omega)⟩
      obtain ⟨m0, m1, m2, m3⟩ := hm.2.2.2 (j / 4) x (by omega) hx
      obtain ⟨e0, e1, e2, e3⟩ := cellsE_get es (j / 4) x hx
      rw [← h1]
      rcases (show j = j / 4 * 4 ∨ j = j / 4 * 4 + 1 ∨ j = j / 4 * 4 + 2 ∨ j = j / 4 * 4 + 3 by omega) with e | e | e | e
      · generalize j / 4 = q at *
        subst e
        rw [m0, e0]
      · generalize j / 4 = q at *
        subst e
        rw [m1, e1]
      · generalize j / 4 = q at *
        subst e
        rw [m2, e2]
      · generalize j / 4 = q at *
        subst e
        rw [m3, e3]
    · have q1 : cs[j]? = none := List.getElem?_eq_none (by omega)
      have q2 : (cellsE es).length = n * 4 := by rw [cellsE_length, hn]
      rw [q1, List.getElem?_eq_none (by omega)]
  subst hc
  unfold OwnI
  simp only [hn]
  exact h

set_option maxHeartbeats 2000000 in
theorem entries_own (first : Int) (a : Option Addr) (cap : Nat) (ws : List Wr) (w : World) (h : IsWr w a ws) (hl : ws.length ≤ 100000) :
    Calls Tryz.prog 18 #[.int .u64 first, .slice a ws.length cap] w fun e w' => e = .returned (.slice (some ⟨w.heap.size, 0, none⟩) ws.length ws.length) ∧ OwnI w' (w.heap.size, ws.length, ents first ws) ∧ Below w.heap.size w w' := by
  obtain ⟨hrow, hlen, _⟩ := h
  unfold maxLen at hlen
  have HROW : Hid (ws ≠ [] → ∃ b off, a = some ⟨b, off, none⟩ ∧ WrRow w b off ws) := hrow
  clear hrow
  obtain ⟨i54, hi, hz0, hz1, hz2⟩ := info_parts info54
  go_enter Tryz.func18, Tryz.ntmps18
  go_wp2_with (at_make; refine wpList_make_full _ (by rfl) (.tmp 8) (.tmp 8) 66 (by rfl) w.heap.size 49 i54 _ 4 Tryz.underlying66 hi hz0 hz1 .i64 .i64 _ _ ws.length (by rfl) (by rfl) rfl rfl (by rw [hz2]; omega) (by unfold maxLen; omega) (Nat.le_refl _) ?_; intro w1 hown1 hgr1; have HO1 : Hid (Made w1 w.heap.size ws.length (ents first ws) 0 ∧ Below w.heap.size w w1 ∧ OwnR w1 w.heap.size ws.length) := ⟨made_start hown1, ⟨hgr1.os, hgr1.tape, hgr1.output, hgr1.size, fun i hi => hgr1.block i hi (by simp)⟩, _, own_base hown1 (fun _ _ => Nat.zero_le _)⟩; clear hown1 hgr1)
  go_loopw [12, 6] (fun i _ wr => ∃ k : Nat, k ≤ ws.length ∧ i = .int .i64 k ∧ Made wr w.heap.size ws.length (ents first ws) k ∧ Below w.heap.size w wr ∧ OwnR wr w.heap.size ws.length) (fun i _ _ => ws.length - (intOf i).toNat)
  case atStart => exact ⟨0, Nat.zero_le _, rfl, HO1.out.1, HO1.out.2⟩
  case round =>
    obtain ⟨k, hk, rfl, hmade, hbe, hor⟩ := hrel
    by_cases hlt : k < ws.length
    · obtain ⟨b, off, rfl, hr⟩ := HROW.out (by intro e; rw [e] at hlt; simp at hlt)
      obtain ⟨kk, dd, vv, hx⟩ : ∃ kk dd vv, ws[k]? = some (kk, dd, vv) := ⟨_, _, _, List.getElem?_eq_getElem hlt⟩
      obtain ⟨c0, c1, c2⟩ := (hr.below hbe hr.1).2 k _ hx
      have HE := ents_get (first := first) hx
      have HX : Hid ((ents first ws)[k]? = some (kk, IntKind.u64.wrap (first + (k : Int)), dd, val dd vv)) := HE
      clear HE hx
      dsimp only at c0 c1 c2
      have HM : Hid (Made wr w.heap.size ws.length (ents first ws) k) := hmade
      have HB : Hid (Below w.heap.size w wr) := hbe
      have HOR : Hid (OwnR wr w.heap.size ws.length) := hor
      clear hmade hbe hor
      go_wp2_with fail
      refine (entry_any (IntKind.u64.wrap (first + (k : Int))) kk dd vv _).mono ?_
      rintro e w2 ⟨rfl, hb2⟩
      have hM2 := HM.out.below hb2
      have HM2 : Hid (Made w2 w.heap.size ws.length (ents first ws) k) := hM2
      have HB2 : Hid (Below w.heap.size w w2) := HB.out.trans (hb2.mono HB.out.size)
      have HOR2 : Hid (OwnR w2 w.heap.size ws.length) := HOR.out.below hb2
      obtain ⟨u0, d0⟩ := hM2.2.1 (k * 4) (by omega)
      obtain ⟨u1, d1⟩ := hM2.2.1 (k * 4 + 1) (by omega)
      obtain ⟨u2, d2⟩ := hM2.2.1 (k * 4 + 2) (by omega)
      obtain ⟨u3, d3⟩ := hM2.2.1 (k * 4 + 3) (by omega)
      have f0 := hM2.2.2.1 (k * 4)
      have f1 := hM2.2.2.1 (k * 4 + 1)
      have f2 := hM2.2.2.1 (k * 4 + 2)
      have f3 := hM2.2.2.1 (k * 4 + 3)
      clear hM2 hb2 c0 c1 c2
      go_wp2
      refine ⟨⟨k + 1, by omega, by go_num, ?_, ?_, ?_⟩, by simp [intOf]; omega⟩
      · exact Made.store4 HM2.out HX.out hlt
      · exact (((HB2.out.setCell (Nat.le_refl _) _).setCell (Nat.le_refl _) _).setCell (Nat.le_refl _) _).setCell (Nat.le_refl _) _
      · exact (((HOR2.out.store _ _).store _ _).store _ _).store _ _
    · go_wp2
      go_ret
      have hkk : k = ws.length := by omega
      subst hkk
      exact ⟨rfl, hor.full hmade (ents_length _ _), hbe⟩

end Book
end Go.Proofs.YtkknpcpioodhaaaGreatDoor
