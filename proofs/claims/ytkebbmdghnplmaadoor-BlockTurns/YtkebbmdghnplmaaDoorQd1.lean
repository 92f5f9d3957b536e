import Derived.Test.YtkebbmdghnplmaaDoorQc4
namespace Go.Proofs.YtkebbmdghnplmaaDoor
namespace Qb
open Go.RowKit Go.Shelf CMath Byt Laws Irw Crw Cod Qe
set_option linter.unusedVariables false
set_option linter.unusedSimpArgs false
set_option maxRecDepth 100000
attribute [local go_sem] Oper.semAt_some

/-- The key that stands whole at a place. -/
def keyOf (eb : List Nat) (pl : Nat) : ByteArray := match wk (eb.drop pl) [] with | [] => ⟨#[]⟩ | x :: _ => x.1.1
theorem keyOf_wkp {eb : List Nat} {pl : Nat} {x : Nat × En} {es : List (Nat × En)} (h : es ++ [x] <+: wkp eb pl) (he : es = []) : keyOf eb pl = x.2.1 := by
  subst he
  unfold wkp at h
  unfold keyOf
  cases hw : wk (eb.drop pl) [] with
  | nil => rw [hw] at h; simp [pos] at h
  | cons y t =>
    rw [hw] at h
    simp only [pos, List.nil_append, List.cons_prefix_cons] at h
    rw [h.1]
theorem keyOf_nil {eb : List Nat} {pl : Nat} (h : wkp eb pl = []) : keyOf eb pl = ⟨#[]⟩ := by
  unfold wkp at h
  unfold keyOf
  cases hw : wk (eb.drop pl) [] with
  | nil => rfl
  | cons y t => rw [hw] at h; simp [pos] at h

structure Ka (w : World) (x : ByteArray) (W : World) : Prop where
  c : W.cell? ⟨w.heap.size, 0, none⟩ = some (.string x)
  f : W.frozen? ⟨w.heap.size, 0, none⟩ = false
  bl : Below w.heap.size w W
theorem Ka.grown {w A C : World} {x : ByteArray} {row : Option Nat} (h : Ka w x A) (hg : A.grownBy C row) (hr : ∀ r, row = some r → w.heap.size ≤ r ∧ ∃ o : Obj, A.heap[r]? = some o ∧ o.isCells = false) : Ka w x C := by
  have k0 := cell_grown' hg (fun x e => (hr x e).2) h.c
  exact ⟨(World.cell?_of_block (a := ⟨w.heap.size, 0, none⟩) k0).trans h.c, (World.frozen?_of_block (a := ⟨w.heap.size, 0, none⟩) k0).trans h.f, below_grown (B := 0) h.bl hg (Nat.le_refl _) (fun r e => (hr r e).1)⟩
set_option maxHeartbeats 1000000 in
theorem keyAt_in (w : World) (K o pl : Nat) (eb pb : List Nat) (hk : BlkZ w K o eb pb) (hpl : pl ≤ eb.length) :
    CallsIn Fence.wide 7 Tryd.prog 82 #[.pointer (some ⟨K, o, none⟩), .int .i64 (pl : Int)] w fun e w' => e = .returned (.string (keyOf eb pl)) ∧ Below w.heap.size w w' := by
  have HK : Hid (BlkZ w K o eb pb) := hk
  clear hk
  have g1 : (w.alloc (.cells #[.string ⟨#[]⟩] 9)).heap[w.heap.size]? = some (.cells #[.string ⟨#[]⟩] 9) := World.alloc_heap_new _ _
  have hb2 : Below w.heap.size w (w.alloc (.cells #[.string ⟨#[]⟩] 9)) := (Below.refl _ _).alloc (Nat.le_refl _) _
  have hs2 : (w.alloc (.cells #[.string ⟨#[]⟩] 9)).heap.size = w.heap.size + 1 := by simp
  refine callsIn_of_wp_marks Tryd.func82 rfl trivial ?_ rfl
  simp only [Tryd.ntmps82, List.size_toArray, List.length_cons, List.length_nil, Nat.reduceAdd, Nat.reduceSub, Array.replicate_succ, Array.replicate_zero, List.push_toArray, List.append_toArray, List.nil_append, List.cons_append]
  have hf3 : Fence.wide.fn 36 := trivial
  gi_wp2_with fail
  generalize (w.alloc (.cells #[.string ⟨#[]⟩] 9)) = w2 at *
  refine (callsIn_wide.2 (walk_any w2 K o pl)).mono ?_
  rintro e w4 ⟨rfl, hb4, hs4, c4a, c4b⟩
  dsimp only
  rw [hs2] at hs4 c4a c4b ⊢
  have g4 := (hb4.block _ (by omega)).trans g1
  have hb24 : Below w.heap.size w w4 := hb2.trans (hb4.mono (by omega))
  have H0 : Hid (Ka w ⟨#[]⟩ w4) := ⟨by rw [cell_of_obj g4]; rfl, froz_of_obj g4, hb24⟩
  have HSQ : Hid (SeqE (fun _ => False) Fence.wide 6 5 Tryd.prog 69 #[.pointer (some ⟨w.heap.size + 1, 0, none⟩), .pointer (some ⟨w.heap.size + 1 + 1, 0, none⟩)] encP (wkp eb pl) w4 (fun _ => 0)) := walk_seq (fun _ => False) (fun z => z) 6 (by decide) _ _ _ K o pl eb pb w4 hpl (HK.out.below hb24) (fun _ _ => rfl) c4a c4b (fun z => z) (fun z => z)
  have qs4 : w.heap.size ≤ w4.heap.size := by omega
  clear hb2 hb4 hb24 g1 g4 c4a c4b hs2 hs4
  gi_wp2
  refine range_e rfl (by decide) (gf := 69) (lb := #[.pointer (some ⟨w.heap.size + 1, 0, none⟩), .pointer (some ⟨w.heap.size + 1 + 1, 0, none⟩)]) rfl trivial (enters_of Tryd.func69 (by kernel_rfl) rfl)
    (fun _ => False) (fun z => z) (fun _ => 0) (fun _ _ => rfl) HSQ.out (fun _ => rfl)
    (fun es _ W => es = [] ∧ Ka w ⟨#[]⟩ W) (fun c es _ W => c = .ret ∧ ∃ x, es = [x] ∧ Ka w x.2.1 W)
    (fun es T A C row h hg hr => ⟨h.1, h.2.grown hg (fun r e => ⟨Nat.le_trans qs4 (hr r e).1, (hr r e).2⟩)⟩) (fun c es T A C row h hg hr => ⟨h.1, by obtain ⟨x, h1, h2⟩ := h.2; exact ⟨x, h1, h2.grown hg (fun r e => ⟨Nat.le_trans qs4 (hr r e).1, (hr r e).2⟩)⟩⟩) ⟨rfl, H0.out⟩
    (fun e a' Wc W' => W' = Wc.alloc (.cells #[.string e.2.1, .int .u64 e.2.2.1, .bool e.2.2.2.1, .string e.2.2.2.2] 30) ∧ a' = { tmps := #[.pointer (some ⟨K, o, none⟩), .int .i64 (pl : Int), undef, undef, .pointer (some ⟨w.heap.size, 0, none⟩), undef, .pointer (some ⟨Wc.heap.size, 0, none⟩), .pointer (some ⟨K, o, none⟩), .int .i64 (pl : Int), .func (.func 69) #[] #[.pointer (some ⟨w.heap.size + 1, 0, none⟩), .pointer (some ⟨w.heap.size + 1 + 1, 0, none⟩)], .int .i64 (e.1 : Int), .agg #[.string e.2.1, .int .u64 e.2.2.1, .bool e.2.2.2.1, .string e.2.2.2.2], undef, undef], defers := [] })
    (fun e a' Wc W' h => by rw [h.1]; exact (Below.refl _ _).alloc (Nat.le_refl _) _) ?assign ?body ?done ?stop
  case assign =>
    rintro l_ ⟨ep, ek, es_, ed, ev⟩ es T Wc Kc hi hK
    simp only [encP]
    gi_wp2
    try exact hK _ _ ⟨rfl, rfl⟩
  case body =>
    rintro l_ ⟨ep, ek, es_, ed, ev⟩ es T a' Wc W' Wb hl1 hl2 ⟨ob, ho, hoc⟩ _ ⟨hnil, hka⟩ hz hN9 ⟨rfl, rfl⟩ hg
    dsimp only at *
    have e0 : Wb.heap[Wc.heap.size]? = some (.cells #[.string ek, .int .u64 es_, .bool ed, .string ev] 30) := (hg.block _ (by simp) (fun e => by cases e; omega)).trans (World.alloc_heap_new _ _)
    have c0 : Wb.cell? ⟨Wc.heap.size, 0, none⟩ = some (.string ek) := by rw [cell_of_obj e0]; rfl
    have r0 := hka.c
    have f0 := hka.f
    have HKA : Hid (Ka w ⟨#[]⟩ Wb ∧ es = []) := ⟨hka, hnil⟩
    clear hka hnil hz hN9 hg ho hoc e0
    gi_wp2
    refine ⟨T, ⟨rfl, (ep, ek, es_, ed, ev), by rw [HKA.out.2]; rfl, World.cell?_setCell_same _ _ _ r0, by rw [World.frozen?_setCell]; exact f0, HKA.out.1.bl.setCell (p := ⟨w.heap.size, 0, none⟩) (by simp) _⟩, (KeepsOthers.setCell _ _ _).from _⟩
  case done =>
    rintro D T W' hD ⟨hnil, hka⟩ hDd
    have HEQ : Hid (keyOf eb pl = ⟨#[]⟩) := keyOf_nil hnil
    have r0 := hka.c
    have f0 := hka.f
    have HKA : Hid (Ka w ⟨#[]⟩ W') := hka
    have HND : Hid (D ≠ w.heap.size) := by
      intro h
      obtain ⟨o, h1, h2⟩ := cells_of r0
      rw [← h, hDd] at h1; cases h1; cases h2
    clear hka hnil
    dsimp only
    gi_wp2
    refine leaves_marks (B0 := w.heap.size) [D] _ (by
      intro E hE
      rw [List.mem_singleton.1 hE]
      exact ⟨by omega, (Below.heap_setCell _ _ _ D (by simpa using HND.out)).trans hDd⟩) (by simp) (fun w' hb hk => ?_)
    have e0 : w'.cell? ⟨w.heap.size, 0, none⟩ = some (.string ⟨#[]⟩) := (World.cell?_of_block (a := ⟨w.heap.size, 0, none⟩) (hk _ (by simpa using fun h => HND.out h.symm))).trans (World.cell?_setCell_same _ _ _ r0)
    refine ⟨.string ⟨#[]⟩, ?_, by rw [HEQ.out], (HKA.out.bl.setCell (p := ⟨w.heap.size, 0, none⟩) (by simp) _).trans hb⟩
    clear hk hb
    simp [results, Tryd.results82, go_sem, e0]
  case stop =>
    rintro D c es T W' hD hpre ⟨rfl, x, rfl, hka⟩ hDd
    have HEQ : Hid (keyOf eb pl = x.2.1) := keyOf_wkp (es := []) hpre rfl
    have r0 := hka.c
    have HKA : Hid (Ka w x.2.1 W') := hka
    have HND : Hid (D ≠ w.heap.size) := by
      intro h
      obtain ⟨o, h1, h2⟩ := cells_of r0
      rw [← h, hDd] at h1; cases h1; cases h2
    clear hka
    dsimp only
    gi_wp2
    refine leaves_marks (B0 := w.heap.size) [D] _ (by
      intro E hE
      rw [List.mem_singleton.1 hE]
      exact ⟨by omega, hDd⟩) (by simp) (fun w' hb hk => ?_)
    have e0 : w'.cell? ⟨w.heap.size, 0, none⟩ = some (.string x.2.1) := (World.cell?_of_block (a := ⟨w.heap.size, 0, none⟩) (hk _ (by simpa using fun h => HND.out h.symm))).trans r0
    refine ⟨.string x.2.1, ?_, by rw [HEQ.out], HKA.out.bl.trans hb⟩
    clear hk hb
    simp [results, Tryd.results82, go_sem, e0]
theorem keyAt_any (w : World) (K o pl : Nat) (eb pb : List Nat) (hk : BlkZ w K o eb pb) (hpl : pl ≤ eb.length) :
    Calls Tryd.prog 82 #[.pointer (some ⟨K, o, none⟩), .int .i64 (pl : Int)] w fun e w' => e = .returned (.string (keyOf eb pl)) ∧ Below w.heap.size w w' := callsIn_wide.1 (keyAt_in w K o pl eb pb hk hpl)
end Qb
end Go.Proofs.YtkebbmdghnplmaaDoor
