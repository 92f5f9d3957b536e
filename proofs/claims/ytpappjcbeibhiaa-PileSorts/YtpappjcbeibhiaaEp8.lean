import Derived.Test.YtpappjcbeibhiaaEp7
namespace Go.Proofs.Ytpappjcbeibhiaa
namespace Ehp
open Go.RowKit Laws Irw Erw
open Hp (swp swp_length swp_perm Ord Heapy Up Dn fore fore1 fore_lt fore_ge goes_drew goes_drewN above_any below_drewN)
set_option linter.unusedVariables false
set_option maxRecDepth 100000
set_option linter.unusedSimpArgs false

abbrev zcells : Obj := .cells #[.string ⟨#[]⟩, .int .u64 0, .bool false, .string ⟨#[]⟩] 28

theorem goes_drewE {t : Nat → Prop} {T T' : Nat → Nat} {w w' : World} (h : Goes t T w T' w') : Goes t T w.drew T' w' := ⟨h.os, h.tape, h.output, h.size, h.block, h.tag, h.high⟩
abbrev ecells (x : En) : Obj := .cells #[.string x.1, .int .u64 x.2.1, .bool x.2.2.1, .string x.2.2.2] 28
set_option maxHeartbeats 2000000 in
/-- TOP of nothing. -/
theorem topE_none (t : Nat) (T : Nat → Nat) (w : World) (h B : Nat) (o : Bool) (p : HeapE t T w h B o []) :
    Calls Try.prog 18 #[.pointer (some ⟨h, 0, none⟩)] w fun e w' => e = .returned (.tuple #[.agg #[.string ⟨#[]⟩, .int .u64 0, .bool false, .string ⟨#[]⟩], .bool false]) ∧ Below w.heap.size w w' := by
  have HB1 : Hid (Below w.heap.size w (w.alloc zcells)) := (Below.refl _ _).alloc (Nat.le_refl _) _
  obtain ⟨a, c, hc, _, hi, _, _⟩ := (p.below HB1.out).form
  clear p
  go_enter Try.func18, Try.ntmps18
  go_wp2
  exact bodyPost_ret (v := .tuple #[.agg #[.string ⟨#[]⟩, .int .u64 0, .bool false, .string ⟨#[]⟩], .bool false]) (by simp [results, Try.results18, go_sem]) rfl ⟨rfl, ((Below.refl _ _).alloc (Nat.le_refl _) _).alloc (by simp) _⟩
set_option maxHeartbeats 2000000 in
/-- TOP. -/
theorem topE_some (t : Nat) (T : Nat → Nat) (w : World) (h B : Nat) (o : Bool) (l : List En) (p : HeapE t T w h B o l) (h0 : 0 < l.length) (hlen : l.length ≤ 1000000000000) :
    Calls Try.prog 18 #[.pointer (some ⟨h, 0, none⟩)] w fun e w' => e = .returned (.tuple #[.agg #[.string (l.getD 0 ez).1, .int .u64 (l.getD 0 ez).2.1, .bool (l.getD 0 ez).2.2.1, .string (l.getD 0 ez).2.2.2], .bool true]) ∧ Below w.heap.size w w' := by
  have HB1 : Hid (Below w.heap.size w (w.alloc zcells)) := (Below.refl _ _).alloc (Nat.le_refl _) _
  obtain ⟨a, c, hc, ho, hi, _, _⟩ := (p.below HB1.out).form
  obtain ⟨gl, rfl⟩ := OwnE.blk ho h0
  obtain ⟨c0, c1, c2, c3⟩ := at0 (rowOf ho h0) h0
  simp only [Nat.zero_mul, Nat.zero_add] at c0 c1 c2 c3
  have q1 : ¬ (l.length : Int) = 0 := by omega
  have q2 : (0 : Int) < l.length := by omega
  clear p ho
  generalize l.getD 0 ez = x at *
  obtain ⟨xk, xs, xd, xv⟩ := x
  dsimp only at *
  go_enter Try.func18, Try.ntmps18
  go_wp2
  exact bodyPost_ret (v := .tuple #[.agg #[.string xk, .int .u64 xs, .bool xd, .string xv], .bool true]) (by simp [results, Try.results18, go_sem]) rfl ⟨rfl, (Below.refl _ _).alloc (Nat.le_refl _) _⟩

set_option maxHeartbeats 2000000 in
/-- POP of nothing. -/
theorem popE_none (t : Nat) (T : Nat → Nat) (w : World) (h B : Nat) (o : Bool) (p : HeapE t T w h B o []) :
    Calls Try.prog 8 #[.pointer (some ⟨h, 0, none⟩)] w fun e w' => e = .returned (.tuple #[.agg #[.string ⟨#[]⟩, .int .u64 0, .bool false, .string ⟨#[]⟩], .bool false]) ∧ Below w.heap.size w w' := by
  have HB1 : Hid (Below w.heap.size w (w.alloc zcells)) := (Below.refl _ _).alloc (Nat.le_refl _) _
  have b0 : (w.alloc zcells).cell? ⟨w.heap.size, 0, none⟩ = some (.string ⟨#[]⟩) := by simp
  have b1 : (w.alloc zcells).cell? ⟨w.heap.size, 1, none⟩ = some (.int .u64 0) := by simp
  have b2 : (w.alloc zcells).cell? ⟨w.heap.size, 2, none⟩ = some (.bool false) := by simp
  have b3 : (w.alloc zcells).cell? ⟨w.heap.size, 3, none⟩ = some (.string ⟨#[]⟩) := by simp
  have hs1 : (w.alloc zcells).heap.size = w.heap.size + 1 := by simp
  have hf : ∀ j, (w.alloc zcells).frozen? ⟨w.heap.size, j, none⟩ = false := fun j => by simp
  go_enter Try.func8, Try.ntmps8
  go_wp2_with fail
  refine (topE_none t T _ h B o (p.below HB1.out)).mono ?_
  rintro e w2 ⟨rfl, hb⟩
  generalize w.alloc zcells = W1 at *
  have hlt : w.heap.size < W1.heap.size := by omega
  have d0 : w2.cell? ⟨w.heap.size, 0, none⟩ = some (.string ⟨#[]⟩) := (hb.cell (p := ⟨w.heap.size, 0, none⟩) hlt).trans b0
  have d1 : w2.cell? ⟨w.heap.size, 1, none⟩ = some (.int .u64 0) := (hb.cell (p := ⟨w.heap.size, 1, none⟩) hlt).trans b1
  have d2 : w2.cell? ⟨w.heap.size, 2, none⟩ = some (.bool false) := (hb.cell (p := ⟨w.heap.size, 2, none⟩) hlt).trans b2
  have d3 : w2.cell? ⟨w.heap.size, 3, none⟩ = some (.string ⟨#[]⟩) := (hb.cell (p := ⟨w.heap.size, 3, none⟩) hlt).trans b3
  have hf2 : ∀ j, w2.frozen? ⟨w.heap.size, j, none⟩ = false := fun j => (hb.frozen (p := ⟨w.heap.size, j, none⟩) hlt).trans (hf j)
  have hs2 := hb.size
  have HB2 : Hid (Below w.heap.size w w2) := HB1.out.trans (hb.mono (by omega))
  have hne : ¬ w.heap.size = w2.heap.size := by omega
  have hne' : ¬ w2.heap.size = w.heap.size := by omega
  have hlt2 : w.heap.size < w2.heap.size := by omega
  clear hb HB1 b0 b1 b2 b3 hf hs2 hs1
  go_wp2
  refine bodyPost_ret (v := .tuple #[.agg #[.string ⟨#[]⟩, .int .u64 0, .bool false, .string ⟨#[]⟩], .bool false]) ?_ rfl ⟨rfl, ?_⟩
  · simp [results, Try.results8, go_sem, d0, d1, d2, d3, hlt2, hne, hne']
  · exact ((((HB2.out.setCell (p := ⟨w.heap.size, 0, none⟩) (Nat.le_refl _) _).setCell (p := ⟨w.heap.size, 1, none⟩) (Nat.le_refl _) _).setCell (p := ⟨w.heap.size, 2, none⟩) (Nat.le_refl _) _).setCell (p := ⟨w.heap.size, 3, none⟩) (Nat.le_refl _) _).alloc (by simp; omega) _

theorem run_clear_one {P : Program} (w : World) (t e ty : TypeId) (z z0 z1 z2 z3 : Value) (ht : P.underlying t = some (.slice e)) (hv : ∀ w, (zeroValue e).run P w = .ok z w) (hz : z.cells = #[z0, z1, z2, z3]) (h1 : ∀ v ∈ [z0, z1, z2, z3], v.oneCell' = true) (b o c : Nat)
    (hc : ∀ j, j < 4 → (w.cell? ⟨b, o + j, none⟩).isSome = true) (hf : ∀ j, j < 4 → w.frozen? ⟨b, o + j, none⟩ = false) :
    (Builtin.clear_ #[t] ty #[.slice (some ⟨b, o, none⟩) 1 c]).run P w = .ok (.tuple #[]) ((((w.setCell ⟨b, o, none⟩ z0).setCell ⟨b, o + 1, none⟩ z1).setCell ⟨b, o + 2, none⟩ z2).setCell ⟨b, o + 3, none⟩ z3) := by
  have hzc : (Builtin.zeroCells z.cells 1).toList = [z0, z1, z2, z3] := by
    rw [hz]
    simp [Builtin.zeroCells]
    rfl
  have hst := run_storeCells_cells (P := P) b o [z0, z1, z2, z3] 0 w (by simpa using hc) (by simpa using hf) h1
  simp only [Nat.add_zero] at hst
  simp [Builtin.clear_, run_underlying ht, hv, hzc, hst]
  rfl
theorem zeroE (w : World) : (zeroValue 28).run Try.prog w = .ok (.agg #[.string ⟨#[]⟩, .int .u64 0, .bool false, .string ⟨#[]⟩]) w := by kernel_rfl
end Ehp
end Go.Proofs.Ytpappjcbeibhiaa
