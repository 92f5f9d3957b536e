import Derived.Test.YtdflepndhemfgaaGreatDoorSf2
namespace Go.Proofs.YtdflepndhemfgaaGreatDoor
namespace Sf
open Go.RowKit Laws Irw Erw KMath Skm Byt Sk
set_option linter.unusedVariables false
set_option maxRecDepth 100000
set_option linter.unusedSimpArgs false
variable {T T' : Nat → Nat} {w w' : World} {L : Nat} {ns pre : List Nd} {B Bf Ba : Nat} {aA : Option Addr} {cA n : Nat}
set_option maxHeartbeats 4000000 in
/-- SkipFresh's own function, of the entry whose turn it is not -/
theorem fresh_no (h : Fx T w L ns pre B Bf Ba aA cA n) (Bw Bn i : Nat) (hw : w.cell? ⟨Bw, 0, none⟩ = some (.bool true)) (hn : w.cell? ⟨Bn, 0, none⟩ = some (.int .i64 (i : Int))) (fw : w.frozen? ⟨Bw, 0, none⟩ = false) (fn : w.frozen? ⟨Bn, 0, none⟩ = false) (tw : T Bw = 9000008) (tn : T Bn = 9000008) (hne : Bw ≠ Bn) (hi : i < n) (e : En) (he : (ns.map Nd.e).getD i ez ≠ e) :
    Calls Tryz.prog 12 #[.agg #[.string e.1, .int .u64 e.2.1, .bool e.2.2.1, .string e.2.2.2], .pointer (some ⟨Bf, 0, none⟩), .pointer (some ⟨Bw, 0, none⟩), .pointer (some ⟨Bn, 0, none⟩), .pointer (some ⟨Ba, 0, none⟩)] w fun r w' => r = .returned (.bool false) ∧ KeepsOthers w w' := by
  have HF : Hid (Fx T w L ns pre B Bf Ba aA cA n) := h
  have HB1 : Hid (Below w.heap.size w (w.alloc (.cells #[.string e.1, .int .u64 e.2.1, .bool e.2.2.1, .string e.2.2.2] 61))) := (Below.refl _ _).alloc (Nat.le_refl _) _
  have g1 : (w.alloc (.cells #[.string e.1, .int .u64 e.2.1, .bool e.2.2.1, .string e.2.2.2] 61)).heap[w.heap.size]? = some (.cells #[.string e.1, .int .u64 e.2.1, .bool e.2.2.1, .string e.2.2.2] 61) := World.alloc_heap_new _ _
  have HWN : Hid (w.cell? ⟨Bw, 0, none⟩ = some (.bool true) ∧ w.cell? ⟨Bn, 0, none⟩ = some (.int .i64 (i : Int)) ∧ w.frozen? ⟨Bw, 0, none⟩ = false ∧ w.frozen? ⟨Bn, 0, none⟩ = false ∧ Bw < w.heap.size ∧ Bn < w.heap.size) := ⟨hw, hn, fw, fn, World.block_lt_of_cell? w _ hw, World.block_lt_of_cell? w _ hn⟩
  have cf := (HF.out.below HB1.out).cf
  clear h hw hn fw fn
  go_enter Tryz.func12, Tryz.ntmps12
  generalize hW1 : w.alloc (.cells #[.string e.1, .int .u64 e.2.1, .bool e.2.2.1, .string e.2.2.2] 61) = W1 at *
  go_wp2_with fail
  try rw [hW1]
  refine (HF.out.below HB1.out).taken.mono ?_
  rintro r w4 ⟨aI, cI, rfl, iI, fI, hb2⟩
  have HB4 : Hid (Below w.heap.size w w4) := HB1.out.trans (hb2.mono HB1.out.size)
  have HG4 : Hid (w4.heap[w.heap.size]? = some (.cells #[.string e.1, .int .u64 e.2.1, .bool e.2.2.1, .string e.2.2.2] 61)) := (hb2.block _ (Array.getElem?_eq_some_iff.1 g1).1).trans g1
  have HI4 : Hid (EA T w4 aI (ns.map Nd.e)) := EA.of iI fun b off e => HF.out.zero b (Nat.le_trans HB1.out.size (fI b off e))
  clear iI fI hb2 hW1 g1 cf HB1
  have HF4 : Hid (Fx T w4 L ns pre B Bf Ba aA cA n) := HF.out.below HB4.out
  have hil : i < (ns.map Nd.e).length := by rw [List.length_map, HF.out.ln]; exact hi
  obtain ⟨bA, oA, rfl, hbA, y0, y1, y2, y3⟩ := rdE HF4.out.iA.isE hil
  generalize (ns.map Nd.e).getD i ez = f at *
  have HTA : Hid (T bA = 0) := by
    obtain ⟨b', o', e', _, t'⟩ := HF4.out.iA (List.ne_nil_of_length_pos (by omega))
    cases e'; exact t'
  obtain ⟨ek, es, ed, ev⟩ := e
  obtain ⟨fk, fs, fd, fv⟩ := f
  dsimp only at y0 y1 y2 y3 HG4 ⊢
  have b0 : w4.cell? ⟨w.heap.size, 0, none⟩ = some (.string ek) := by rw [cell_of_obj HG4.out]; rfl
  have b1 : w4.cell? ⟨w.heap.size, 1, none⟩ = some (.int .u64 es) := by rw [cell_of_obj HG4.out]; rfl
  have b2 : w4.cell? ⟨w.heap.size, 2, none⟩ = some (.bool ed) := by rw [cell_of_obj HG4.out]; rfl
  have b3 : w4.cell? ⟨w.heap.size, 3, none⟩ = some (.string ev) := by rw [cell_of_obj HG4.out]; rfl
  have z1 := (HB4.out.cell (p := ⟨Bw, 0, none⟩) HWN.out.2.2.2.2.1).trans HWN.out.1
  have z2 := (HB4.out.cell (p := ⟨Bn, 0, none⟩) HWN.out.2.2.2.2.2).trans HWN.out.2.1
  have z3 := (HB4.out.frozen (p := ⟨Bw, 0, none⟩) HWN.out.2.2.2.2.1).trans HWN.out.2.2.1
  have z4 := (HB4.out.frozen (p := ⟨Bn, 0, none⟩) HWN.out.2.2.2.2.2).trans HWN.out.2.2.2.1
  have ca4 := HF4.out.ca
  have q1 : (i : Int) < (n : Int) := by omega
  have q2 : (n : Int) ≤ 1000 := by have := HF.out.l9; omega
  have q3 : min (i : Int) ((n : Int) - 1) = (i : Int) := by omega
  have q4 : IntKind.i64.wrap ((n : Int) - 1) = (n : Int) - 1 := IntWalk.i64_in _ (by omega)
  have q5 : (0 : Int) ≤ (i : Int) := by omega
  have HNE : Hid (Bn ≠ Bw ∧ Ba ≠ Bw ∧ w.heap.size ≠ Bw ∧ bA ≠ Bw) := by
    have := HWN.out.2.2.2.2.1
    obtain ⟨_, _, _, _, t6⟩ := HF.out.tg
    refine ⟨fun e => hne e.symm, fun e => ?_, by omega, fun e => ?_⟩
    · rw [e] at t6; omega
    · have := HTA.out; rw [e] at this; omega
  clear hil HI4
  have hcs : (¬ ek = fk) ∨ (ek = fk ∧ ¬ es = fs) ∨ (ek = fk ∧ es = fs ∧ ¬ ed = fd) ∨ (ek = fk ∧ es = fs ∧ ed = fd ∧ ¬ ev = fv) := by
    by_cases h1 : ek = fk
    · by_cases h2 : es = fs
      · by_cases h3 : ed = fd
        · exact .inr (.inr (.inr ⟨h1, h2, h3, fun h4 => he (by rw [h1, h2, h3, h4])⟩))
        · exact .inr (.inr (.inl ⟨h1, h2, h3⟩))
      · exact .inr (.inl ⟨h1, h2⟩)
    · exact .inl h1
  clear he
  have HSZ : Hid ((w4.setCell ⟨Bw, 0, none⟩ (.bool false)).drew.cell? ⟨Bn, 0, none⟩ = some (.int .i64 (i : Int)) ∧ (w4.setCell ⟨Bw, 0, none⟩ (.bool false)).drew.frozen? ⟨Bn, 0, none⟩ = false ∧ (w4.setCell ⟨Bw, 0, none⟩ (.bool false)).drew.cell? ⟨Bw, 0, none⟩ = some (.bool false) ∧ KeepsOthers w (w4.setCell ⟨Bw, 0, none⟩ (.bool false)).drew) := by
    refine ⟨(World.cell?_of_block (a := ⟨Bn, 0, none⟩) (Below.heap_setCell _ _ _ _ HNE.out.1)).trans z2, ?_, World.cell?_setCell_same _ _ _ z1, ((keeps_below HB4.out).trans (KeepsOthers.setCell _ _ _)).trans (KeepsOthers.drew _)⟩
    show (w4.setCell ⟨Bw, 0, none⟩ (.bool false)).frozen? ⟨Bn, 0, none⟩ = false
    rw [World.frozen?_setCell]; exact z4
  have q6 : IntKind.i64.wrap ((i : Int) + 1) = (i : Int) + 1 := IntWalk.i64_in _ (by omega)
  rcases hcs with hc | ⟨rfl, hc⟩ | ⟨rfl, rfl, hc⟩ | ⟨rfl, rfl, rfl, hc⟩
  · have hd1 : ¬ ek.toList = fk.toList := fun h => hc (by rw [ByteArray.toList_eq, ByteArray.toList_eq] at h; cases ek; cases fk; exact congrArg _ (Array.toList_inj.1 h))
    have hd2 : (ek.toList == fk.toList) = false := by simp [hd1]
    have hd3 : decide (ek.toList = fk.toList) = false := by simp [hd1]
    go_wp2
    go_big_region
    have hz : (w4.setCell ⟨Bw, 0, none⟩ (.bool false)).drew.cell? ⟨Bn, 0, none⟩ = some (.int .i64 (i : Int)) := HSZ.out.1
    have hz2 : (w4.setCell ⟨Bw, 0, none⟩ (.bool false)).drew.frozen? ⟨Bn, 0, none⟩ = false := HSZ.out.2.1
    have hz3 : (w4.setCell ⟨Bw, 0, none⟩ (.bool false)).drew.cell? ⟨Bw, 0, none⟩ = some (.bool false) := HSZ.out.2.2.1
    have HZK : Hid (KeepsOthers w (w4.setCell ⟨Bw, 0, none⟩ (.bool false)).drew) := HSZ.out.2.2.2
    clear HSZ
    generalize (w4.setCell ⟨Bw, 0, none⟩ (.bool false)).drew = wZ at *
    have hz5 : (wZ.setCell ⟨Bn, 0, none⟩ (.int .i64 ((i : Int) + 1))).cell? ⟨Bw, 0, none⟩ = some (.bool false) := (World.cell?_of_block (a := ⟨Bw, 0, none⟩) (Below.heap_setCell _ _ _ _ hne)).trans hz3
    have HZ2 : Hid (KeepsOthers w (wZ.setCell ⟨Bn, 0, none⟩ (.int .i64 ((i : Int) + 1)))) := HZK.out.trans (KeepsOthers.setCell _ _ _)
    go_wp2
    exact ⟨rfl, _, results_tmp Tryz.results12 _ _ _, rfl, HZ2.out⟩
  · have hd : decide (es = fs) = false := by simp [hc]
    go_wp2
    go_big_region
    have hz : (w4.setCell ⟨Bw, 0, none⟩ (.bool false)).drew.cell? ⟨Bn, 0, none⟩ = some (.int .i64 (i : Int)) := HSZ.out.1
    have hz2 : (w4.setCell ⟨Bw, 0, none⟩ (.bool false)).drew.frozen? ⟨Bn, 0, none⟩ = false := HSZ.out.2.1
    have hz3 : (w4.setCell ⟨Bw, 0, none⟩ (.bool false)).drew.cell? ⟨Bw, 0, none⟩ = some (.bool false) := HSZ.out.2.2.1
    have HZK : Hid (KeepsOthers w (w4.setCell ⟨Bw, 0, none⟩ (.bool false)).drew) := HSZ.out.2.2.2
    clear HSZ
    generalize (w4.setCell ⟨Bw, 0, none⟩ (.bool false)).drew = wZ at *
    have hz5 : (wZ.setCell ⟨Bn, 0, none⟩ (.int .i64 ((i : Int) + 1))).cell? ⟨Bw, 0, none⟩ = some (.bool false) := (World.cell?_of_block (a := ⟨Bw, 0, none⟩) (Below.heap_setCell _ _ _ _ hne)).trans hz3
    have HZ2 : Hid (KeepsOthers w (wZ.setCell ⟨Bn, 0, none⟩ (.int .i64 ((i : Int) + 1)))) := HZK.out.trans (KeepsOthers.setCell _ _ _)
    go_wp2
    exact ⟨rfl, _, results_tmp Tryz.results12 _ _ _, rfl, HZ2.out⟩
  · have hd : (ed == fd) = false := by cases ed <;> cases fd <;> simp_all
    go_wp2
    go_big_region
    have hz : (w4.setCell ⟨Bw, 0, none⟩ (.bool false)).drew.cell? ⟨Bn, 0, none⟩ = some (.int .i64 (i : Int)) := HSZ.out.1
    have hz2 : (w4.setCell ⟨Bw, 0, none⟩ (.bool false)).drew.frozen? ⟨Bn, 0, none⟩ = false := HSZ.out.2.1
    have hz3 : (w4.setCell ⟨Bw, 0, none⟩ (.bool false)).drew.cell? ⟨Bw, 0, none⟩ = some (.bool false) := HSZ.out.2.2.1
    have HZK : Hid (KeepsOthers w (w4.setCell ⟨Bw, 0, none⟩ (.bool false)).drew) := HSZ.out.2.2.2
    clear HSZ
    generalize (w4.setCell ⟨Bw, 0, none⟩ (.bool false)).drew = wZ at *
    have hz5 : (wZ.setCell ⟨Bn, 0, none⟩ (.int .i64 ((i : Int) + 1))).cell? ⟨Bw, 0, none⟩ = some (.bool false) := (World.cell?_of_block (a := ⟨Bw, 0, none⟩) (Below.heap_setCell _ _ _ _ hne)).trans hz3
    have HZ2 : Hid (KeepsOthers w (wZ.setCell ⟨Bn, 0, none⟩ (.int .i64 ((i : Int) + 1)))) := HZK.out.trans (KeepsOthers.setCell _ _ _)
    go_wp2
    exact ⟨rfl, _, results_tmp Tryz.results12 _ _ _, rfl, HZ2.out⟩
  · have hd1 : ¬ ev.toList = fv.toList := fun h => hc (by rw [ByteArray.toList_eq, ByteArray.toList_eq] at h; cases ev; cases fv; exact congrArg _ (Array.toList_inj.1 h))
    have hd2 : (ev.toList == fv.toList) = false := by simp [hd1]
    have hd3 : decide (ev.toList = fv.toList) = false := by simp [hd1]
    go_wp2
    go_big_region
    have hz : (w4.setCell ⟨Bw, 0, none⟩ (.bool false)).drew.cell? ⟨Bn, 0, none⟩ = some (.int .i64 (i : Int)) := HSZ.out.1
    have hz2 : (w4.setCell ⟨Bw, 0, none⟩ (.bool false)).drew.frozen? ⟨Bn, 0, none⟩ = false := HSZ.out.2.1
    have hz3 : (w4.setCell ⟨Bw, 0, none⟩ (.bool false)).drew.cell? ⟨Bw, 0, none⟩ = some (.bool false) := HSZ.out.2.2.1
    have HZK : Hid (KeepsOthers w (w4.setCell ⟨Bw, 0, none⟩ (.bool false)).drew) := HSZ.out.2.2.2
    clear HSZ
    generalize (w4.setCell ⟨Bw, 0, none⟩ (.bool false)).drew = wZ at *
    have hz5 : (wZ.setCell ⟨Bn, 0, none⟩ (.int .i64 ((i : Int) + 1))).cell? ⟨Bw, 0, none⟩ = some (.bool false) := (World.cell?_of_block (a := ⟨Bw, 0, none⟩) (Below.heap_setCell _ _ _ _ hne)).trans hz3
    have HZ2 : Hid (KeepsOthers w (wZ.setCell ⟨Bn, 0, none⟩ (.int .i64 ((i : Int) + 1)))) := HZK.out.trans (KeepsOthers.setCell _ _ _)
    go_wp2
    exact ⟨rfl, _, results_tmp Tryz.results12 _ _ _, rfl, HZ2.out⟩
end Sf
end Go.Proofs.YtdflepndhemfgaaGreatDoor
