import Derived.Test.YtilkjfbjlljnhaaGreatVh
namespace Go.Proofs.YtilkjfbjlljnhaaGreat
namespace Vr
open Go.RowKit Go.Maps Go.ChangeMaps Go.MapKept Laws Irw Crw
set_option linter.unusedVariables false
set_option linter.unusedSimpArgs false
set_option maxRecDepth 20000
/-- one level's list is another one -/
theorem DAt.setl {w0 : World} {T T2 : Nat → Nat} {w w2 : World} {db mb lb n c k : Nat} {V : Lv} {ns : List Nat} {s : Sv} {l : List Tb} (h : DAt w0 T w db mb (some ⟨lb, 0, none⟩, n, c) V ns) (hg : Goes (· = 10 + k) T w T2 w2) (ho : OwnK kTb (10 + k) T2 w2 (svV s) l) (hk : k < V.length) :
    DAt w0 T2 (w2.setCell ⟨lb, k, none⟩ (svV s)) db mb (some ⟨lb, 0, none⟩, n, c) (V.set k l) ns ∧ (w2.setCell ⟨lb, k, none⟩ (svV s)).cell? ⟨lb, k, none⟩ = some (svV s) ∧ OwnK kTb (10 + k) T2 (w2.setCell ⟨lb, k, none⟩ (svV s)) (svV s) l := by
  obtain ⟨vs, l1, l2, l3⟩ := h.lvl
  have l1' := l1.goes hg (by omega)
  have hlb : T2 lb = 3 := l1'.2 lb rfl
  have hn : n = vs.length := (OwnK.sk (s := (some ⟨lb, 0, none⟩, n, c)) l1).1
  have hkv : k < vs.length := by omega
  have g2 := Goes.setCell (t := (· = 3)) (T := T2) (w := w2) (p := lb) (j := k) (v := svV s) hlb
  have hlt : lb < w2.heap.size := (l1'.1.lt lb rfl).2
  have l4 := ownK_set (K := kS) (x := s) (u := svV s) (j := 0) l1' hn hkv (by decide) (fun y _ => rfl)
  have e : k * kS.size + 0 = k := by show k * 1 + 0 = k; omega
  rw [e] at l4
  have hcell : ∃ u, w2.cell? ⟨lb, k, none⟩ = some u := by
    have hv : vs[k]? = some vs[k] := List.getElem?_eq_getElem hkv
    obtain ⟨b, off, e1, _, hc⟩ := (Ls.own (s := (some ⟨lb, 0, none⟩, n, c)) l1').cell hv
    cases e1
    have := hc 0 _ rfl
    rw [Nat.zero_add, e] at this
    exact ⟨_, this⟩
  obtain ⟨u, hu⟩ := hcell
  refine ⟨⟨(h.old.goes hg (by omega)).goes g2 (by omega), ?_, ?_, ⟨vs.set k s, l4, by simp [l2], fun i v l' hv hl => ?_⟩, (h.map.goes hg (by omega)).goes g2 (by omega)⟩, World.cell?_setCell_same _ _ _ hu, ho.goes g2 (by omega)⟩
  · exact (hg.tag db h.box.1 (by rw [h.td]; omega)).trans h.td
  · exact (h.box.goes hg (by rw [h.td]; omega)).goes g2 (by rw [(hg.tag db h.box.1 (by rw [h.td]; omega)), h.td]; omega)
  · by_cases hik : k = i
    · subst hik
      rw [List.getElem?_set_self hkv] at hv
      rw [List.getElem?_set_self hk] at hl
      cases hv; cases hl
      exact ho.goes g2 (by omega)
    · rw [List.getElem?_set_ne hik] at hv hl
      exact ((l3 i v l' hv hl).goes hg (by omega)).goes g2 (by omega)
/-- the list of levels is written: there is a cell, and it isn't frozen -/
theorem DAt.cell {w0 : World} {T : Nat → Nat} {w : World} {db mb lb n c k : Nat} {V : Lv} {ns : List Nat} (h : DAt w0 T w db mb (some ⟨lb, 0, none⟩, n, c) V ns) (hk : k < V.length) {l : List Tb} (hl : V[k]? = some l) : ∃ s : Sv, w.cell? ⟨lb, k, none⟩ = some (svV s) ∧ w.frozen? ⟨lb, k, none⟩ = false ∧ OwnK kTb (10 + k) T w (svV s) l := by
  obtain ⟨vs, l1, l2, l3⟩ := h.lvl
  have hkv : k < vs.length := by omega
  have hv : vs[k]? = some vs[k] := List.getElem?_eq_getElem hkv
  obtain ⟨b, off, e1, _, hc⟩ := (Ls.own (s := (some ⟨lb, 0, none⟩, n, c)) l1).cell hv
  cases e1
  have := hc 0 _ rfl
  rw [Nat.zero_add, show k * kS.size + 0 = k by show k * 1 + 0 = k; omega] at this
  have hn : n = vs.length := (OwnK.sk (s := (some ⟨lb, 0, none⟩, n, c)) l1).1
  subst hn
  exact ⟨_, this, World.ownsRow.frozenAt (show w.ownsRow 0 kS.ty kS.size (.slice (some ⟨lb, 0, none⟩) vs.length c) vs.length (kS.cells vs) from l1.1) k, l3 k _ _ hv hl⟩
theorem DAt.len {w0 : World} {T : Nat → Nat} {w : World} {db mb lb n c : Nat} {V : Lv} {ns : List Nat} (h : DAt w0 T w db mb (some ⟨lb, 0, none⟩, n, c) V ns) : n = V.length := by
  obtain ⟨vs, l1, l2, l3⟩ := h.lvl
  have := (OwnK.sk (s := (some ⟨lb, 0, none⟩, n, c)) l1).1
  exact this.trans l2
/-- what Tables has made is the i-th level's -/
theorem own_tag {T : Nat → Nat} {w w2 : World} {G k : Nat} {l : List Tb} (hz : ∀ b, w.heap.size ≤ b → T b = 0) (hG : w.heap.size ≤ G) (h : w2.ownsRow 0 43 6 (.slice (some ⟨G, 0, none⟩) l.length l.length) l.length (kTb.cells l)) (hb : Below w.heap.size w w2) :
    OwnK kTb (10 + k) (upd T G (10 + k)) w2 (svV (some ⟨G, 0, none⟩, l.length, l.length)) l ∧ Goes (· = 10 + k) T w (upd T G (10 + k)) w2 := by
  have hlt := (h.lt G rfl).2
  refine ⟨⟨h, fun g e => ?_⟩, hb.os, hb.tape, hb.output, hb.size, fun b hb' _ => hb.block b hb', fun b hb' _ => upd_other _ _ (by omega), fun b hb' h0 => ?_⟩
  · simp only [svV, Value.ownBlock, Option.some.injEq] at e
    subst e; exact upd_same _ _ _
  · rw [upd_other _ _ (by omega)]; exact h0
def dT (lb mb db : Nat) : Nat → Nat := upd (upd (upd (fun _ => 0) lb 3) mb 4) db 5
theorem draft_start (w : World) (n : Nat) (hn : n ≤ 5) : DAt w (dT w.heap.size (w.heap.size + 1) (w.heap.size + 1 + 1)) (((w.alloc (Obj.cells (madeCells #[.slice none 0 0] n) 34)).alloc (Obj.map #[] 0)).alloc (Obj.cells #[.slice (some ⟨w.heap.size, 0, none⟩) n n, .map (some (w.heap.size + 1))] 120)) (w.heap.size + 1 + 1) (w.heap.size + 1) (some ⟨w.heap.size, 0, none⟩, n, n) (List.replicate n []) [] := by
  have al : ∀ (W : World) (o : Obj) (b : Nat), (W.alloc o).heap[b]? = if b = W.heap.size then some o else W.heap[b]? := fun W o b => (by show (W.heap.push o)[b]? = _; rw [Array.getElem?_push])
  have sz : ∀ (W : World) (o : Obj), (W.alloc o).heap.size = W.heap.size + 1 := fun W o => (by show (W.heap.push o).size = _; rw [Array.size_push])
  obtain ⟨W, hW⟩ : ∃ W, ((w.alloc (Obj.cells (madeCells #[.slice none 0 0] n) 34)).alloc (Obj.map #[] 0)).alloc (Obj.cells #[.slice (some ⟨w.heap.size, 0, none⟩) n n, .map (some (w.heap.size + 1))] 120) = W := ⟨_, rfl⟩
  have h1 : W.heap[w.heap.size]? = some (Obj.cells (madeCells #[.slice none 0 0] n) 34) := by
    rw [← hW]; simp only [al, sz]; rw [if_neg (by omega), if_neg (by omega), if_pos trivial]
  have h2 : W.heap[w.heap.size + 1]? = some (Obj.map #[] 0) := by
    rw [← hW]; simp only [al, sz]; rw [if_neg (by omega), if_pos trivial]
  have h3 : W.heap[w.heap.size + 1 + 1]? = some (Obj.cells #[.slice (some ⟨w.heap.size, 0, none⟩) n n, .map (some (w.heap.size + 1))] 120) := by
    rw [← hW]; simp only [al, sz]; rw [if_pos trivial]
  have hs : W.heap.size = w.heap.size + 1 + 1 + 1 := by rw [← hW]; simp only [sz]
  have hb : Below w.heap.size w W := by rw [← hW]; exact (((Below.refl _ _).alloc (Nat.le_refl _) _).alloc (by rw [sz]; omega) _).alloc (by rw [sz, sz]; omega) _
  rw [hW]
  refine ⟨⟨hb, fun b hb => ?_⟩, by unfold dT; rw [upd_same], Zb.heap h3, ⟨List.replicate n nS, ⟨⟨by rw [kS.cells_length], .inr ⟨w.heap.size, n, _, by simp [svV], Nat.zero_le _, h1, by simp, by simp [maxLen]; omega, by rw [size_madeCells]; show n = n * 1; omega, ?_⟩⟩, fun g e => ?_⟩, by simp, fun i v l hv hl => ?_⟩, WAt.made ?_ h2⟩
  · unfold dT
    rw [upd_other _ _ (by omega), upd_other _ _ (by omega), upd_other _ _ (by omega)]
  · rw [toList_madeCells_one, cells_nil, List.take_of_length_le]
    simp [kS]
  · simp only [svV, Value.ownBlock, Option.some.injEq] at e
    subst e
    unfold dT
    rw [upd_other _ _ (by omega), upd_other _ _ (by omega), upd_same]
  · have hin : i < n := by have := (List.getElem?_eq_some_iff.1 hv).1; simpa using this
    rw [List.getElem?_replicate_of_lt hin] at hv hl
    cases hv; cases hl
    exact OwnK.empty _ _ _
  · unfold dT
    rw [upd_other _ _ (by omega), upd_same]
end Vr
end Go.Proofs.YtilkjfbjlljnhaaGreat
