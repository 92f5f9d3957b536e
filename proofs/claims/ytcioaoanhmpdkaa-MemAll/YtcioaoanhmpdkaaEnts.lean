import Derived.Test.YtcioaoanhmpdkaaProg
import Derived.Test.YtcioaoanhmpdkaaWei
import Derived.WalkKit
import Derived.WalkSpells
import Derived.WalkLawsBesides
import Derived.Deep.QuietTactic
import Derived.BigQuiet
namespace Go.Proofs.Ytcioaoanhmpdkaa
namespace Ents
open Go.RowKit KMath Cmp Ent Chk Wei
set_option linter.unusedVariables false

/-- An entry: key, number, deleted, value. -/
abbrev En := ByteArray × Int × Bool × ByteArray

/-- The entries lie in a row of cells, four an entry. -/
def EnRow (w : World) (b off : Nat) (es : List En) : Prop :=
  b < w.heap.size ∧ ∀ (i : Nat) (x : En), es[i]? = some x → w.cell? ⟨b, off + i * 4, none⟩ = some (.string x.1) ∧ w.cell? ⟨b, off + i * 4 + 1, none⟩ = some (.int .u64 x.2.1) ∧ w.cell? ⟨b, off + i * 4 + 2, none⟩ = some (.bool x.2.2.1) ∧ w.cell? ⟨b, off + i * 4 + 3, none⟩ = some (.string x.2.2.2)
def IsEn (w : World) (a : Option Addr) (es : List En) : Prop := es ≠ [] → ∃ b off, a = some ⟨b, off, none⟩ ∧ EnRow w b off es

theorem EnRow.below {w w' : World} {B b off : Nat} {es : List En} (h : EnRow w b off es) (hb : Below B w w') (hB : b < B) : EnRow w' b off es := by
  refine ⟨Nat.lt_of_lt_of_le h.1 hb.size, fun i x hx => ?_⟩
  obtain ⟨h0, h1, h2, h3⟩ := h.2 i x hx
  exact ⟨(hb.cell (p := ⟨b, _, none⟩) hB).trans h0, (hb.cell (p := ⟨b, _, none⟩) hB).trans h1, (hb.cell (p := ⟨b, _, none⟩) hB).trans h2, (hb.cell (p := ⟨b, _, none⟩) hB).trans h3⟩
theorem IsEn.below {w w' : World} {a : Option Addr} {es : List En} (h : IsEn w a es) (hb : Below w.heap.size w w') : IsEn w' a es := fun hne => by
  obtain ⟨b, off, rfl, hr⟩ := h hne
  exact ⟨b, off, rfl, hr.below hb hr.1⟩

/-- The number of entry k, as a uint64 goes. -/
def seqAt (first : Int) (k : Nat) : Int := IntKind.u64.wrap (first + (k : Int))
/-- The entries of a batch (P1.5). -/
def ents (first : Int) (ws : List Wr) : List En := ws.mapIdx fun i x => (x.1, seqAt first i, x.2.1, val x.2.1 x.2.2)
theorem ents_length (first : Int) (ws : List Wr) : (ents first ws).length = ws.length := by simp [ents]
theorem ents_get {first : Int} {ws : List Wr} {k : Nat} {x : Wr} (h : ws[k]? = some x) : (ents first ws)[k]? = some (x.1, seqAt first k, x.2.1, val x.2.1 x.2.2) := by simp [ents, h]

/-- The row that is being filled: all its cells are there, the first k entries hold. -/
def Made (w : World) (g n : Nat) (es : List En) (k : Nat) : Prop :=
  g < w.heap.size ∧ (∀ j, j < n * 4 → ∃ u, w.cell? ⟨g, j, none⟩ = some u) ∧ (∀ j, w.frozen? ⟨g, j, none⟩ = false) ∧
    ∀ (i : Nat) (x : En), i < k → es[i]? = some x → w.cell? ⟨g, i * 4, none⟩ = some (.string x.1) ∧ w.cell? ⟨g, i * 4 + 1, none⟩ = some (.int .u64 x.2.1) ∧ w.cell? ⟨g, i * 4 + 2, none⟩ = some (.bool x.2.2.1) ∧ w.cell? ⟨g, i * 4 + 3, none⟩ = some (.string x.2.2.2)

theorem info54 : (Try.prog.info? 77).map (fun i => (i.zero, i.size, i.bytes)) = some (some (.agg #[.string ⟨#[]⟩, .int .u64 0, .bool false, .string ⟨#[]⟩]), 4, 48) := by kernel_rfl

theorem made_start {w w1 : World} {n : Nat} {z : Value} {es : List En} (h : w1.ownsRow w.heap.size 77 4 (.slice (some ⟨w.heap.size, 0, none⟩) n n) n (madeCells z.cells (n * 4)).toList) : Made w1 w.heap.size n es 0 := by
  refine ⟨(h.lt _ rfl).2, fun j hj => ?_, fun j => h.frozenAt j, fun i x hi => absurd hi (Nat.not_lt_zero _)⟩
  rw [h.cellAt j hj]
  have : j < (madeCells z.cells (n * 4)).toList.length := by simpa [size_madeCells] using hj
  exact ⟨_, List.getElem?_eq_getElem this⟩

theorem Made.below {w w' : World} {g n : Nat} {es : List En} {k : Nat} (h : Made w g n es k) (hb : Below w.heap.size w w') : Made w' g n es k := by
  obtain ⟨hg, h1, h2, h3⟩ := h
  have hc : ∀ j, w'.cell? ⟨g, j, none⟩ = w.cell? ⟨g, j, none⟩ := fun j => hb.cell (p := ⟨g, j, none⟩) hg
  refine ⟨Nat.lt_of_lt_of_le hg hb.size, fun j hj => ?_, fun j => (hb.frozen (p := ⟨g, j, none⟩) hg).trans (h2 j), fun i x hi hx => ?_⟩
  · rw [hc]; exact h1 j hj
  · rw [hc, hc, hc, hc]; exact h3 i x hi hx

theorem Made.store {w : World} {g n : Nat} {es : List En} {k : Nat} {x : En} (h : Made w g n es k) (hx : es[k]? = some x) (hk : k < n) :
    Made ((((w.setCell ⟨g, k * 4, none⟩ (.string x.1)).setCell ⟨g, k * 4 + 1, none⟩ (.int .u64 x.2.1)).setCell ⟨g, k * 4 + 2, none⟩ (.bool x.2.2.1)).setCell ⟨g, k * 4 + 3, none⟩ (.string x.2.2.2)) g n es (k + 1) := by
  obtain ⟨hg, h1, h2, h3⟩ := h
  have so : ∀ (w : World) (i j : Nat) (u : Value), i ≠ j → (w.setCell ⟨g, i, none⟩ u).cell? ⟨g, j, none⟩ = w.cell? ⟨g, j, none⟩ := fun w i j u h => World.cell?_setCell_other _ _ _ _ (fun e => h (by cases e; rfl))
  have ss : ∀ (w : World) (i : Nat) (u : Value), (∃ v, w.cell? ⟨g, i, none⟩ = some v) → (w.setCell ⟨g, i, none⟩ u).cell? ⟨g, i, none⟩ = some u := fun w i u ⟨v, hv⟩ => World.cell?_setCell_same _ _ _ hv
  have sx : ∀ (w : World) (i j : Nat) (u : Value), (∃ v, w.cell? ⟨g, j, none⟩ = some v) → ∃ v, (w.setCell ⟨g, i, none⟩ u).cell? ⟨g, j, none⟩ = some v := fun w i j u hv => by
    by_cases e : i = j
    · subst e; exact ⟨u, ss w i u hv⟩
    · rw [so w i j u e]; exact hv
  refine ⟨by simpa using hg, fun j hj => sx _ _ _ _ (sx _ _ _ _ (sx _ _ _ _ (sx _ _ _ _ (h1 j hj)))), fun j => by simpa using h2 j, fun i y hi hy => ?_⟩
  by_cases e : i = k
  · subst e
    rw [hx] at hy
    cases hy
    refine ⟨?_, ?_, ?_, ?_⟩
    · rw [so _ _ _ _ (by omega), so _ _ _ _ (by omega), so _ _ _ _ (by omega)]
      exact ss _ _ _ (h1 _ (by omega))
    · rw [so _ _ _ _ (by omega), so _ _ _ _ (by omega)]
      exact ss _ _ _ (sx _ _ _ _ (h1 _ (by omega)))
    · rw [so _ _ _ _ (by omega)]
      exact ss _ _ _ (sx _ _ _ _ (sx _ _ _ _ (h1 _ (by omega))))
    · exact ss _ _ _ (sx _ _ _ _ (sx _ _ _ _ (sx _ _ _ _ (h1 _ (by omega)))))
  · have hi' : i < k := by omega
    rw [so _ _ _ _ (by omega), so _ _ _ _ (by omega), so _ _ _ _ (by omega), so _ _ _ _ (by omega), so _ _ _ _ (by omega), so _ _ _ _ (by omega), so _ _ _ _ (by omega), so _ _ _ _ (by omega), so _ _ _ _ (by omega), so _ _ _ _ (by omega), so _ _ _ _ (by omega), so _ _ _ _ (by omega), so _ _ _ _ (by omega), so _ _ _ _ (by omega), so _ _ _ _ (by omega), so _ _ _ _ (by omega)]
    exact h3 i y hi' hy

theorem Made.store4 {w : World} {g n : Nat} {es : List En} {k : Nat} {kk : ByteArray} {s : Int} {d : Bool} {v : ByteArray} (h : Made w g n es k) (hx : es[k]? = some (kk, s, d, v)) (hk : k < n) :
    Made ((((w.setCell ⟨g, k * 4, none⟩ (.string kk)).setCell ⟨g, k * 4 + 1, none⟩ (.int .u64 s)).setCell ⟨g, k * 4 + 2, none⟩ (.bool d)).setCell ⟨g, k * 4 + 3, none⟩ (.string v)) g n es (k + 1) := by
  have h' := Made.store h hx hk
  exact h'

theorem Made.row {w : World} {g n : Nat} {es : List En} (h : Made w g n es n) (hn : es.length = n) : IsEn w (some ⟨g, 0, none⟩) es := fun _ =>
  ⟨g, 0, rfl, h.1, fun i x hx => by
    have := h.2.2.2 i x (by have := (List.getElem?_eq_some_iff.1 hx).1; omega) hx
    simpa using this⟩

set_option maxHeartbeats 2000000 in
theorem entries_any (first : Int) (a : Option Addr) (cap : Nat) (ws : List Wr) (w : World) (h : IsWr w a ws) (hl : ws.length ≤ 100000) :
    Calls Try.prog 69 #[.int .u64 first, .slice a ws.length cap] w fun e w' => e = .returned (.slice (some ⟨w.heap.size, 0, none⟩) ws.length ws.length) ∧ IsEn w' (some ⟨w.heap.size, 0, none⟩) (ents first ws) ∧ Below w.heap.size w w' := by
  obtain ⟨hrow, hlen, _⟩ := h
  unfold maxLen at hlen
  have HROW : Hid (ws ≠ [] → ∃ b off, a = some ⟨b, off, none⟩ ∧ WrRow w b off ws) := hrow
  clear hrow
  obtain ⟨i54, hi, hz0, hz1, hz2⟩ := info_parts info54
  go_enter Try.func69, Try.ntmps69
  go_wp2_with (at_make; refine wpList_make_full _ (by rfl) (.tmp 8) (.tmp 8) 80 (by rfl) w.heap.size 77 i54 _ 4 Try.underlying80 hi hz0 hz1 .i64 .i64 _ _ ws.length (by rfl) (by rfl) rfl rfl (by rw [hz2]; omega) (by unfold maxLen; omega) (Nat.le_refl _) ?_; intro w1 hown1 hgr1; have HO1 : Hid (Made w1 w.heap.size ws.length (ents first ws) 0 ∧ Below w.heap.size w w1) := ⟨made_start hown1, ⟨hgr1.os, hgr1.tape, hgr1.output, hgr1.size, fun i hi => hgr1.block i hi (by simp)⟩⟩; clear hown1 hgr1)
  go_loopw [12, 6] (fun i _ wr => ∃ k : Nat, k ≤ ws.length ∧ i = .int .i64 k ∧ Made wr w.heap.size ws.length (ents first ws) k ∧ Below w.heap.size w wr) (fun i _ _ => ws.length - (intOf i).toNat)
  case atStart => exact ⟨0, Nat.zero_le _, rfl, HO1.out.1, HO1.out.2⟩
  case round =>
    obtain ⟨k, hk, rfl, hmade, hbe⟩ := hrel
    by_cases hlt : k < ws.length
    · obtain ⟨b, off, rfl, hr⟩ := HROW.out (by intro e; rw [e] at hlt; simp at hlt)
      obtain ⟨kk, dd, vv, hx⟩ : ∃ kk dd vv, ws[k]? = some (kk, dd, vv) := ⟨_, _, _, List.getElem?_eq_getElem hlt⟩
      obtain ⟨c0, c1, c2⟩ := (hr.below hbe hr.1).2 k _ hx
      have HE := ents_get (first := first) hx
      have HX : Hid ((ents first ws)[k]? = some (kk, IntKind.u64.wrap (first + (k : Int)), dd, val dd vv)) := HE
      clear HE hx
      dsimp only at c0 c1 c2
      have HM : Hid (Made wr w.heap.size ws.length (ents first ws) k) := hmade
      have HB : Hid (Below w.heap.size w wr) := hbe
      clear hmade hbe
      go_wp2_with fail
      refine (entry_any (IntKind.u64.wrap (first + (k : Int))) kk dd vv _).mono ?_
      rintro e w2 ⟨rfl, hb2⟩
      have hM2 := HM.out.below hb2
      have HM2 : Hid (Made w2 w.heap.size ws.length (ents first ws) k) := hM2
      have HB2 : Hid (Below w.heap.size w w2) := HB.out.trans (hb2.mono HB.out.size)
      obtain ⟨u0, d0⟩ := hM2.2.1 (k * 4) (by omega)
      obtain ⟨u1, d1⟩ := hM2.2.1 (k * 4 + 1) (by omega)
      obtain ⟨u2, d2⟩ := hM2.2.1 (k * 4 + 2) (by omega)
      obtain ⟨u3, d3⟩ := hM2.2.1 (k * 4 + 3) (by omega)
      have f0 := hM2.2.2.1 (k * 4)
      have f1 := hM2.2.2.1 (k * 4 + 1)
      have f2 := hM2.2.2.1 (k * 4 + 2)
      have f3 := hM2.2.2.1 (k * 4 + 3)
      clear hM2 hb2 c0 c1 c2
      go_wp2
      refine ⟨⟨k + 1, by omega, by go_num, ?_, ?_⟩, by simp [intOf]; omega⟩
      · exact Made.store4 HM2.out HX.out hlt
      · exact (((HB2.out.setCell (Nat.le_refl _) _).setCell (Nat.le_refl _) _).setCell (Nat.le_refl _) _).setCell (Nat.le_refl _) _
    · go_wp2
      go_ret
      have hkk : k = ws.length := by omega
      subst hkk
      exact ⟨rfl, hmade.row (ents_length _ _), hbe⟩

end Ents
end Go.Proofs.Ytcioaoanhmpdkaa
