import Derived.Test.YtdflepndhemfgaaGreatDoorSkR
namespace Go.Proofs.YtdflepndhemfgaaGreatDoor
namespace Sk
open Go.RowKit Go.Shelf Laws Irw Erw KMath Skm Byt
set_option linter.unusedVariables false
set_option maxRecDepth 100000
set_option linter.unusedSimpArgs false
attribute [local go_sem] Oper.semAt_some

def encE (e : En) : Array Value := #[.agg #[.string e.1, .int .u64 e.2.1, .bool e.2.2.1, .string e.2.2.2]]
theorem from_first {W : World} {L Bl Bk Bs : Nat} {k : ByteArray} {s : Int} {ns pre post : List Nd} (hw : Wk W L k s ns pre post)
    (hBl : W.cell? ⟨Bl, 0, none⟩ = some (.pointer (some ⟨L, 0, none⟩))) (hBk : W.cell? ⟨Bk, 0, none⟩ = some (.string k)) (hBs : W.cell? ⟨Bs, 0, none⟩ = some (.int .u64 s)) :
    SeqFirst Fence.wide 6 Tryz.prog 41 #[.pointer (some ⟨Bl, 0, none⟩), .pointer (some ⟨Bk, 0, none⟩), .pointer (some ⟨Bs, 0, none⟩)] encE post W := fun l W' Jx hb hJ hY => by
  have h1 := World.block_lt_of_cell? W _ hBl
  have h2 := World.block_lt_of_cell? W _ hBk
  have h3 := World.block_lt_of_cell? W _ hBs
  exact first_in l Bl Bk Bs L k s ns pre post W' (hw.under hb) ((hb.cell (p := ⟨Bl, 0, none⟩) h1).trans hBl) ((hb.cell (p := ⟨Bk, 0, none⟩) h2).trans hBk) ((hb.cell (p := ⟨Bs, 0, none⟩) h3).trans hBs) Jx hJ hY

theorem set4_cells {w : World} {L : Nat} {a0 a1 a2 a3 v0 v1 v2 v3 : Value} (h : w.cell? ⟨L, 0, none⟩ = some a0 ∧ w.cell? ⟨L, 1, none⟩ = some a1 ∧ w.cell? ⟨L, 2, none⟩ = some a2 ∧ w.cell? ⟨L, 3, none⟩ = some a3) :
    ((((w.setCell ⟨L, 0, none⟩ v0).setCell ⟨L, 1, none⟩ v1).setCell ⟨L, 2, none⟩ v2).setCell ⟨L, 3, none⟩ v3).cell? ⟨L, 0, none⟩ = some v0 ∧ ((((w.setCell ⟨L, 0, none⟩ v0).setCell ⟨L, 1, none⟩ v1).setCell ⟨L, 2, none⟩ v2).setCell ⟨L, 3, none⟩ v3).cell? ⟨L, 1, none⟩ = some v1 ∧
    ((((w.setCell ⟨L, 0, none⟩ v0).setCell ⟨L, 1, none⟩ v1).setCell ⟨L, 2, none⟩ v2).setCell ⟨L, 3, none⟩ v3).cell? ⟨L, 2, none⟩ = some v2 ∧ ((((w.setCell ⟨L, 0, none⟩ v0).setCell ⟨L, 1, none⟩ v1).setCell ⟨L, 2, none⟩ v2).setCell ⟨L, 3, none⟩ v3).cell? ⟨L, 3, none⟩ = some v3 := by
  obtain ⟨h0, h1, h2, h3⟩ := h
  refine ⟨?_, ?_, ?_, ?_⟩
  · rw [World.cell?_setCell_other _ _ _ _ (by simp), World.cell?_setCell_other _ _ _ _ (by simp), World.cell?_setCell_other _ _ _ _ (by simp), World.cell?_setCell_same _ _ _ h0]
  · rw [World.cell?_setCell_other _ _ _ _ (by simp), World.cell?_setCell_other _ _ _ _ (by simp)]
    exact World.cell?_setCell_same _ _ _ (by rw [World.cell?_setCell_other _ _ _ _ (by simp)]; exact h1)
  · rw [World.cell?_setCell_other _ _ _ _ (by simp)]
    exact World.cell?_setCell_same _ _ _ (by rw [World.cell?_setCell_other _ _ _ _ (by simp), World.cell?_setCell_other _ _ _ _ (by simp)]; exact h2)
  · exact World.cell?_setCell_same _ _ _ (by rw [World.cell?_setCell_other _ _ _ _ (by simp), World.cell?_setCell_other _ _ _ _ (by simp), World.cell?_setCell_other _ _ _ _ (by simp)]; exact h3)
def seekV (post : List Nd) : Value := match post with
  | [] => .tuple #[.agg #[.string ⟨#[]⟩, .int .u64 0, .bool false, .string ⟨#[]⟩], .bool false]
  | nd :: _ => .tuple #[.agg #[.string nd.e.1, .int .u64 nd.e.2.1, .bool nd.e.2.2.1, .string nd.e.2.2.2], .bool true]

set_option maxHeartbeats 1000000 in
theorem seek_in (L : Nat) (k : ByteArray) (s : Int) (ns pre post : List Nd) (w : World) (hw : Wk w L k s ns pre post) :
    CallsIn Fence.wide 7 Tryz.prog 17 #[.pointer (some ⟨L, 0, none⟩), .string k, .int .u64 s] w fun e w' => e = .returned (seekV post) ∧ Below w.heap.size w w' := by
  refine callsIn_of_wp_marks Tryz.func17 rfl trivial ?_ rfl
  simp only [Tryz.ntmps17, List.size_toArray, List.length_cons, List.length_nil, Nat.reduceAdd, Nat.reduceSub, Array.replicate_succ, Array.replicate_zero, List.push_toArray, List.append_toArray, List.nil_append, List.cons_append]
  have HW : Hid (Wk w L k s ns pre post) := hw
  have hfF : Fence.wide.fn 10 := trivial
  clear hw
  gi_wp2_with (gi_at_call 10; refine (callsIn_wide.2 (from_any L k s _)).mono ?_; rintro e w' ⟨rfl, rfl⟩)
  generalize ho1 : (Obj.cells #[.string ⟨#[]⟩, .int .u64 0, .bool false, .string ⟨#[]⟩] 61) = o1
  generalize ho2 : (Obj.cells #[.bool false] 4) = o2
  generalize ho3 : (Obj.cells #[.pointer (some ⟨L, 0, none⟩)] 25) = o3
  generalize ho4 : (Obj.cells #[.string k] 9) = o4
  generalize ho5 : (Obj.cells #[.int .u64 s] 57) = o5
  have hb5 : Below w.heap.size w (((((w.alloc o1).alloc o2).alloc o3).alloc o4).alloc o5) := (((((Below.refl _ _).alloc (Nat.le_refl _) _).alloc (by simp) _).alloc (by simp; omega) _).alloc (by simp; omega) _).alloc (by simp; omega) _
  have hs5 : (((((w.alloc o1).alloc o2).alloc o3).alloc o4).alloc o5).heap.size = w.heap.size + 5 := by simp
  have g1 : (((((w.alloc o1).alloc o2).alloc o3).alloc o4).alloc o5).heap[w.heap.size]? = some o1 := by
    rw [Below.heap_alloc _ _ _ (by simp <;> omega), Below.heap_alloc _ _ _ (by simp <;> omega), Below.heap_alloc _ _ _ (by simp <;> omega), Below.heap_alloc _ _ _ (by simp <;> omega)]
    exact World.alloc_heap_new w o1
  have g2 : (((((w.alloc o1).alloc o2).alloc o3).alloc o4).alloc o5).heap[w.heap.size + 1]? = some o2 := by
    rw [Below.heap_alloc _ _ _ (by simp <;> omega), Below.heap_alloc _ _ _ (by simp <;> omega), Below.heap_alloc _ _ _ (by simp <;> omega)]
    have := World.alloc_heap_new (w.alloc o1) o2
    rwa [World.size_alloc] at this
  have g3 : (((((w.alloc o1).alloc o2).alloc o3).alloc o4).alloc o5).heap[w.heap.size + 1 + 1]? = some o3 := by
    rw [Below.heap_alloc _ _ _ (by simp <;> omega), Below.heap_alloc _ _ _ (by simp <;> omega)]
    have := World.alloc_heap_new ((w.alloc o1).alloc o2) o3
    rwa [World.size_alloc, World.size_alloc] at this
  have g4 : (((((w.alloc o1).alloc o2).alloc o3).alloc o4).alloc o5).heap[w.heap.size + 1 + 1 + 1]? = some o4 := by
    rw [Below.heap_alloc _ _ _ (by simp <;> omega)]
    have := World.alloc_heap_new (((w.alloc o1).alloc o2).alloc o3) o4
    rwa [World.size_alloc, World.size_alloc, World.size_alloc] at this
  have g5 : (((((w.alloc o1).alloc o2).alloc o3).alloc o4).alloc o5).heap[w.heap.size + 1 + 1 + 2]? = some o5 := by
    have := World.alloc_heap_new ((((w.alloc o1).alloc o2).alloc o3).alloc o4) o5
    rwa [World.size_alloc, World.size_alloc, World.size_alloc, World.size_alloc] at this
  generalize ((((w.alloc o1).alloc o2).alloc o3).alloc o4).alloc o5 = W5 at *
  subst ho1 ho2 ho3 ho4 ho5
  have hw5 := HW.out.under hb5
  have ex : ∀ W, Below W5.heap.size W5 W → (W.heap[w.heap.size]? = some (.cells #[.string ⟨#[]⟩, .int .u64 0, .bool false, .string ⟨#[]⟩] 61) ∧ W.heap[w.heap.size + 1]? = some (.cells #[.bool false] 4)) := fun W hb => ⟨(hb.block _ (by omega)).trans g1, (hb.block _ (by omega)).trans g2⟩
  refine range_first rfl (by decide) (gf := 41) (lb := #[.pointer (some ⟨w.heap.size + 1 + 1, 0, none⟩), .pointer (some ⟨w.heap.size + 1 + 1 + 1, 0, none⟩), .pointer (some ⟨w.heap.size + 1 + 1 + 2, 0, none⟩)]) rfl trivial (enters_of Tryz.func41 (by kernel_rfl) rfl)
    (from_first hw5 (by rw [cell_of_obj g3]; rfl) (by rw [cell_of_obj g4]; rfl) (by rw [cell_of_obj g5]; rfl)) (fun _ => rfl)
    (fun e W => Below w.heap.size w W ∧ entAt W w.heap.size e ∧ W.cell? ⟨w.heap.size + 1, 0, none⟩ = some (.bool true)) ?hR
    (fun e a' W W' => W' = W.alloc (.cells #[.string e.1, .int .u64 e.2.1, .bool e.2.2.1, .string e.2.2.2] 61) ∧ a' = { tmps := #[.pointer (some ⟨L, 0, none⟩), .string k, .int .u64 s, undef, undef, undef, .pointer (some ⟨w.heap.size, 0, none⟩), .pointer (some ⟨w.heap.size + 1, 0, none⟩), .pointer (some ⟨W.heap.size, 0, none⟩), .pointer (some ⟨L, 0, none⟩), .string k, .int .u64 s, .func (.func 41) #[] #[.pointer (some ⟨w.heap.size + 1 + 1, 0, none⟩), .pointer (some ⟨w.heap.size + 1 + 1 + 1, 0, none⟩), .pointer (some ⟨w.heap.size + 1 + 1 + 2, 0, none⟩)], .agg #[.string e.1, .int .u64 e.2.1, .bool e.2.2.1, .string e.2.2.2], undef, undef], defers := [] })
    (fun e a' W W' h => by rw [h.1]; exact (Below.refl _ _).alloc (Nat.le_refl _) _) ?assign ?body ?done ?stop
  case hR =>
    rintro e A B row ⟨h1, h2, h3⟩ hg hr
    have hk : ∀ b, b < W5.heap.size → b < A.heap.size → B.heap[b]? = A.heap[b]? := fun b hb hb2 => hg.block b hb2 (fun e => by have := hr b e.symm; omega)
    have hA := h1.size
    have hlt : w.heap.size + 1 < A.heap.size := World.block_lt_of_cell? A _ h3
    exact ⟨h1.trans ⟨hg.os, hg.tape, hg.output, hg.size, fun b hb => hk b (by omega) (by omega)⟩, h2.keep (hk _ (by omega) (World.block_lt_of_cell? A _ h2.1)), (World.cell?_of_block (a := ⟨w.heap.size + 1, 0, none⟩) (hk (w.heap.size + 1) (by omega) hlt)).trans h3⟩
  case assign =>
    rintro l ⟨ek, es, ed, ev⟩ W K hb hK
    simp only [encE]
    gi_wp2
    try exact hK _ _ ⟨rfl, rfl⟩
  case body =>
    rintro l ⟨ek, es, ed, ev⟩ a' W W' W'' hb ⟨rfl, rfl⟩ hl1 hl2 hg
    obtain ⟨x1, x2⟩ := ex W hb
    have hsW := hb.size
    have hkb : ∀ b, b < W.heap.size → b ≠ l → W''.heap[b]? = W.heap[b]? := fun b hb1 hb2 => (hg.block b (by simp; omega) (fun e => hb2 (by cases e; rfl))).trans (Below.heap_alloc _ _ _ hb1)
    have y0 : W''.heap[W.heap.size]? = some (.cells #[.string ek, .int .u64 es, .bool ed, .string ev] 61) := (hg.block _ (by simp) (fun e => by cases e; omega)).trans (World.alloc_heap_new _ _)
    have y1 := (hkb w.heap.size (by omega) (by omega)).trans x1
    have y2 := (hkb (w.heap.size + 1) (by omega) (by omega)).trans x2
    have c0 : W''.cell? ⟨W.heap.size, 0, none⟩ = some (.string ek) := by rw [cell_of_obj y0]; rfl
    have c1 : W''.cell? ⟨W.heap.size, 1, none⟩ = some (.int .u64 es) := by rw [cell_of_obj y0]; rfl
    have c2 : W''.cell? ⟨W.heap.size, 2, none⟩ = some (.bool ed) := by rw [cell_of_obj y0]; rfl
    have c3 : W''.cell? ⟨W.heap.size, 3, none⟩ = some (.string ev) := by rw [cell_of_obj y0]; rfl
    have d0 : W''.cell? ⟨w.heap.size, 0, none⟩ = some (.string ⟨#[]⟩) := by rw [cell_of_obj y1]; rfl
    have d1 : W''.cell? ⟨w.heap.size, 1, none⟩ = some (.int .u64 0) := by rw [cell_of_obj y1]; rfl
    have d2 : W''.cell? ⟨w.heap.size, 2, none⟩ = some (.bool false) := by rw [cell_of_obj y1]; rfl
    have d3 : W''.cell? ⟨w.heap.size, 3, none⟩ = some (.string ⟨#[]⟩) := by rw [cell_of_obj y1]; rfl
    have f0 : W''.cell? ⟨w.heap.size + 1, 0, none⟩ = some (.bool false) := by rw [cell_of_obj y2]; rfl
    have fz1 : ∀ j, W''.frozen? ⟨w.heap.size, j, none⟩ = false := fun j => froz_of_obj y1
    have fz2 : ∀ j, W''.frozen? ⟨w.heap.size + 1, j, none⟩ = false := fun j => froz_of_obj y2
    have hbw : Below w.heap.size w W'' := (hb5.trans (hb.mono hb5.size)).trans ⟨hg.os, hg.tape, hg.output, by have := hg.size; simp at this; omega, fun b hb1 => hkb b (by omega) (by omega)⟩
    have HBW : Hid (Below w.heap.size w W'') := hbw
    have HSZ : Hid (W5.heap.size = w.heap.size + 5) := hs5
    clear hkb x1 x2 hg hb ex g1 g2 g3 g4 g5 hw5 hb5 y0 y1 y2 hbw hs5
    gi_wp2
    have hs5 := HSZ.out
    obtain ⟨q0, q1, q2, q3⟩ := set4_cells (v0 := .string ek) (v1 := .int .u64 es) (v2 := .bool ed) (v3 := .string ev) ⟨d0, d1, d2, d3⟩
    have oth : ∀ j, ((((W''.setCell ⟨w.heap.size, 0, none⟩ (.string ek)).setCell ⟨w.heap.size, 1, none⟩ (.int .u64 es)).setCell ⟨w.heap.size, 2, none⟩ (.bool ed)).setCell ⟨w.heap.size, 3, none⟩ (.string ev)).cell? ⟨w.heap.size + 1, j, none⟩ = W''.cell? ⟨w.heap.size + 1, j, none⟩ := fun j => by
      rw [World.cell?_of_block (a := ⟨w.heap.size + 1, j, none⟩) (Below.heap_setCell _ _ _ _ (by simp)), World.cell?_of_block (a := ⟨w.heap.size + 1, j, none⟩) (Below.heap_setCell _ _ _ _ (by simp)), World.cell?_of_block (a := ⟨w.heap.size + 1, j, none⟩) (Below.heap_setCell _ _ _ _ (by simp)), World.cell?_of_block (a := ⟨w.heap.size + 1, j, none⟩) (Below.heap_setCell _ _ _ _ (by simp))]
    have hblk : ∀ b, w.heap.size + 2 ≤ b → ((((W''.setCell ⟨w.heap.size, 0, none⟩ (.string ek)).setCell ⟨w.heap.size, 1, none⟩ (.int .u64 es)).setCell ⟨w.heap.size, 2, none⟩ (.bool ed)).setCell ⟨w.heap.size, 3, none⟩ (.string ev)).heap[b]? = W''.heap[b]? := fun b hb => by
      rw [Below.heap_setCell _ _ _ b (by simp; omega), Below.heap_setCell _ _ _ b (by simp; omega), Below.heap_setCell _ _ _ b (by simp; omega), Below.heap_setCell _ _ _ b (by simp; omega)]
    have hb4 : Below w.heap.size w ((((W''.setCell ⟨w.heap.size, 0, none⟩ (.string ek)).setCell ⟨w.heap.size, 1, none⟩ (.int .u64 es)).setCell ⟨w.heap.size, 2, none⟩ (.bool ed)).setCell ⟨w.heap.size, 3, none⟩ (.string ev)) := (((HBW.out.setCell (p := ⟨w.heap.size, 0, none⟩) (Nat.le_refl _) _).setCell (p := ⟨w.heap.size, 1, none⟩) (Nat.le_refl _) _).setCell (p := ⟨w.heap.size, 2, none⟩) (Nat.le_refl _) _).setCell (p := ⟨w.heap.size, 3, none⟩) (Nat.le_refl _) _
    have hsz4 : ((((W''.setCell ⟨w.heap.size, 0, none⟩ (.string ek)).setCell ⟨w.heap.size, 1, none⟩ (.int .u64 es)).setCell ⟨w.heap.size, 2, none⟩ (.bool ed)).setCell ⟨w.heap.size, 3, none⟩ (.string ev)).heap.size = W''.heap.size := by simp
    generalize (((W''.setCell ⟨w.heap.size, 0, none⟩ (.string ek)).setCell ⟨w.heap.size, 1, none⟩ (.int .u64 es)).setCell ⟨w.heap.size, 2, none⟩ (.bool ed)).setCell ⟨w.heap.size, 3, none⟩ (.string ev) = W4 at *
    have hE4 : (W4.setCell ⟨w.heap.size + 1, 0, none⟩ (.bool true)).heap[w.heap.size]? = W4.heap[w.heap.size]? := Below.heap_setCell _ _ _ _ (by simp)
    refine ⟨⟨hb4.setCell (p := ⟨w.heap.size + 1, 0, none⟩) (by simp) _, ?_, World.cell?_setCell_same _ _ _ ((oth 0).trans f0)⟩, by simp [hsz4], fun b hb1 hb2 => ?_⟩
    · exact entAt.keep (w := W4) ⟨q0, q1, q2, q3⟩ hE4
    · rw [Below.heap_setCell _ _ _ b (by simp; omega)]
      exact hblk b (by omega)
  case done =>
    rintro hpn D W hD hb hDd
    obtain ⟨y1, y2⟩ := ex W hb
    have d0 : W.cell? ⟨w.heap.size, 0, none⟩ = some (.string ⟨#[]⟩) := by rw [cell_of_obj y1]; rfl
    have d1 : W.cell? ⟨w.heap.size, 1, none⟩ = some (.int .u64 0) := by rw [cell_of_obj y1]; rfl
    have d2 : W.cell? ⟨w.heap.size, 2, none⟩ = some (.bool false) := by rw [cell_of_obj y1]; rfl
    have d3 : W.cell? ⟨w.heap.size, 3, none⟩ = some (.string ⟨#[]⟩) := by rw [cell_of_obj y1]; rfl
    have f0 : W.cell? ⟨w.heap.size + 1, 0, none⟩ = some (.bool false) := by rw [cell_of_obj y2]; rfl
    have fz1 : ∀ j, W.frozen? ⟨w.heap.size, j, none⟩ = false := fun j => froz_of_obj y1
    have fz2 : ∀ j, W.frozen? ⟨w.heap.size + 1, j, none⟩ = false := fun j => froz_of_obj y2
    have HBW : Hid (Below w.heap.size w W) := hb5.trans (hb.mono hb5.size)
    have HPN : Hid (post = []) := hpn
    have hsW := hb.size
    clear ex g1 g2 g3 g4 g5 hw5 hb5 y1 y2 hb hpn
    gi_wp2
    obtain ⟨q0, q1, q2, q3⟩ := set4_cells (v0 := .string ⟨#[]⟩) (v1 := .int .u64 0) (v2 := .bool false) (v3 := .string ⟨#[]⟩) ⟨d0, d1, d2, d3⟩
    have hblk : ∀ b, w.heap.size + 1 ≤ b → ((((W.setCell ⟨w.heap.size, 0, none⟩ (.string ⟨#[]⟩)).setCell ⟨w.heap.size, 1, none⟩ (.int .u64 0)).setCell ⟨w.heap.size, 2, none⟩ (.bool false)).setCell ⟨w.heap.size, 3, none⟩ (.string ⟨#[]⟩)).heap[b]? = W.heap[b]? := fun b hb => by
      rw [Below.heap_setCell _ _ _ b (by simp; omega), Below.heap_setCell _ _ _ b (by simp; omega), Below.heap_setCell _ _ _ b (by simp; omega), Below.heap_setCell _ _ _ b (by simp; omega)]
    have hb4 : Below w.heap.size w ((((W.setCell ⟨w.heap.size, 0, none⟩ (.string ⟨#[]⟩)).setCell ⟨w.heap.size, 1, none⟩ (.int .u64 0)).setCell ⟨w.heap.size, 2, none⟩ (.bool false)).setCell ⟨w.heap.size, 3, none⟩ (.string ⟨#[]⟩)) := (((HBW.out.setCell (p := ⟨w.heap.size, 0, none⟩) (Nat.le_refl _) _).setCell (p := ⟨w.heap.size, 1, none⟩) (Nat.le_refl _) _).setCell (p := ⟨w.heap.size, 2, none⟩) (Nat.le_refl _) _).setCell (p := ⟨w.heap.size, 3, none⟩) (Nat.le_refl _) _
    generalize (((W.setCell ⟨w.heap.size, 0, none⟩ (.string ⟨#[]⟩)).setCell ⟨w.heap.size, 1, none⟩ (.int .u64 0)).setCell ⟨w.heap.size, 2, none⟩ (.bool false)).setCell ⟨w.heap.size, 3, none⟩ (.string ⟨#[]⟩) = W4 at *
    have q4 : (W4.setCell ⟨w.heap.size + 1, 0, none⟩ (.bool false)).cell? ⟨w.heap.size + 1, 0, none⟩ = some (.bool false) := World.cell?_setCell_same _ _ _ ((World.cell?_of_block (a := ⟨w.heap.size + 1, 0, none⟩) (hblk _ (Nat.le_refl _))).trans f0)
    obtain ⟨r0, r1, r2, r3⟩ := entAt.keep (w := W4) (w' := W4.setCell ⟨w.heap.size + 1, 0, none⟩ (.bool false)) (b := w.heap.size) (e := (⟨#[]⟩, 0, false, ⟨#[]⟩)) ⟨q0, q1, q2, q3⟩ (Below.heap_setCell _ _ _ _ (by simp))
    have hb6 : Below w.heap.size w (W4.setCell ⟨w.heap.size + 1, 0, none⟩ (.bool false)) := hb4.setCell (p := ⟨w.heap.size + 1, 0, none⟩) (by simp) _
    have hD6 : (W4.setCell ⟨w.heap.size + 1, 0, none⟩ (.bool false)).heap[D]? = some (.deferred (some [])) := by
      rw [Below.heap_setCell _ _ _ D (by simp; omega), hblk D (by omega)]
      exact hDd
    generalize W4.setCell ⟨w.heap.size + 1, 0, none⟩ (.bool false) = W6 at *
    refine ⟨by simp, .inl ⟨_, _, rfl, run_takeDeferred hD6, ?_⟩⟩
    have hk : ∀ b, b ≠ D → (W6.putObj D (.deferred none)).heap[b]? = W6.heap[b]? := fun b hb => World.putObj_heap_other hb
    obtain ⟨t0, t1, t2, t3⟩ := entAt.keep (w := W6) (b := w.heap.size) (e := (⟨#[]⟩, 0, false, ⟨#[]⟩)) ⟨r0, r1, r2, r3⟩ (hk w.heap.size (by omega))
    have t4 := (World.cell?_of_block (a := ⟨w.heap.size + 1, 0, none⟩) (hk (w.heap.size + 1) (by omega))).trans q4
    refine ⟨seekV post, ?_, rfl, hb6.trans ⟨rfl, rfl, rfl, by simp, fun b hb => hk b (by omega)⟩⟩
    rw [HPN.out]
    simp [results, Tryz.results17, go_sem, seekV, t0, t1, t2, t3, t4]
  case stop =>
    rintro nd r hpn D W hD ⟨h1, h2, h3⟩ hDd
    gi_wp2
    refine ⟨by simp, .inl ⟨_, _, rfl, run_takeDeferred hDd, ?_⟩⟩
    have hk : ∀ b, b ≠ D → (W.putObj D (.deferred none)).heap[b]? = W.heap[b]? := fun b hb => World.putObj_heap_other hb
    obtain ⟨q0, q1, q2, q3⟩ := h2.keep (hk w.heap.size (by omega))
    have q4 := (World.cell?_of_block (a := ⟨w.heap.size + 1, 0, none⟩) (hk (w.heap.size + 1) (by omega))).trans h3
    refine ⟨seekV post, ?_, rfl, h1.trans ⟨rfl, rfl, rfl, by simp, fun b hb => hk b (by omega)⟩⟩
    rw [hpn]
    simp [results, Tryz.results17, go_sem, seekV, q0, q1, q2, q3, q4]
end Sk
end Go.Proofs.YtdflepndhemfgaaGreatDoor
