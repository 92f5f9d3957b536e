import Derived.Test.YtdflepndhemfgaaGreatDoorSf0
import Derived.Deep.RegionHeld3
import Derived.MapKept
import Derived.Lib.MinMax
namespace Go.Proofs.YtdflepndhemfgaaGreatDoor
namespace Sf
open Go.RowKit Laws Irw Erw KMath Skm Byt Sk
set_option linter.unusedVariables false
set_option maxRecDepth 100000
set_option linter.unusedSimpArgs false
abbrev clA (B : Nat) : Value := .func (.func 41) #[] #[.pointer (some ⟨B, 0, none⟩), .pointer (some ⟨B + 1, 0, none⟩), .pointer (some ⟨B + 2, 0, none⟩)]
/-- a list of entries in memory of no tag -/
def EA (T : Nat → Nat) (w : World) (a : Option Addr) (l : List En) : Prop := l ≠ [] → ∃ b off, a = some ⟨b, off, none⟩ ∧ ERow w b off l ∧ T b = 0
theorem EA.isE {T : Nat → Nat} {w : World} {a : Option Addr} {l : List En} (h : EA T w a l) : IsE w a l := fun hne => by
  obtain ⟨b, off, e, hr, _⟩ := h hne
  exact ⟨b, off, e, hr⟩
theorem EA.goes {u : Nat → Prop} {T T' : Nat → Nat} {w w' : World} {a : Option Addr} {l : List En} (h : EA T w a l) (hg : Goes u T w T' w') (h0 : ¬ u 0) : EA T' w' a l := fun hne => by
  obtain ⟨b, off, e, hr, ht⟩ := h hne
  exact ⟨b, off, e, hr.keep (hg.block b hr.1 (by rw [ht]; exact h0)) hg.size, (hg.tag b hr.1 (by rw [ht]; exact h0)).trans ht⟩
theorem EA.of {T : Nat → Nat} {w : World} {a : Option Addr} {l : List En} (h : IsE w a l) (ht : ∀ b off, a = some ⟨b, off, none⟩ → T b = 0) : EA T w a l := fun hne => by
  obtain ⟨b, off, e, hr⟩ := h hne
  exact ⟨b, off, e, hr, ht b off e⟩
theorem EA.below {T : Nat → Nat} {w w' : World} {a : Option Addr} {l : List En} (h : EA T w a l) (hb : Below w.heap.size w w') : EA T w' a l := h.goes (Goes.below (t := fun _ => False) hb) (fun z => z)
theorem keeps_below {w w' : World} (h : Below w.heap.size w w') : KeepsOthers w w' := ⟨h.size, fun k o hk _ => (h.block k (Array.getElem?_eq_some_iff.1 hk).1).trans hk⟩
/-- what SkipFresh's own function reads -/
structure Fx (T : Nat → Nat) (w : World) (L : Nat) (ns pre : List Nd) (B Bf Ba : Nat) (aA : Option Addr) (cA : Nat) (n : Nat) : Prop where
  wk : Wk w L ⟨#[]⟩ 18446744073709551615 ns pre ns
  tn : (∀ nd ∈ ns, T nd.b = 0) ∧ T L = 0
  zero : ∀ b, w.heap.size ≤ b → T b = 0
  k1 : w.cell? ⟨B, 0, none⟩ = some (.pointer (some ⟨L, 0, none⟩))
  k2 : w.cell? ⟨B + 1, 0, none⟩ = some (.string ⟨#[]⟩)
  k3 : w.cell? ⟨B + 2, 0, none⟩ = some (.int .u64 18446744073709551615)
  cf : w.cell? ⟨Bf, 0, none⟩ = some (clA B)
  ca : w.cell? ⟨Ba, 0, none⟩ = some (.slice aA n cA)
  tg : T B = 0 ∧ T (B + 1) = 0 ∧ T (B + 2) = 0 ∧ T Bf = 0 ∧ T Ba = 0
  iA : EA T w aA (ns.map Nd.e)
  ln : ns.length = n
  l9 : n ≤ 1000
variable {T T' : Nat → Nat} {w w' : World} {L : Nat} {ns pre : List Nd} {B Bf Ba : Nat} {aA : Option Addr} {cA n : Nat}
theorem Fx.goes {u : Nat → Prop} (h : Fx T w L ns pre B Bf Ba aA cA n) (hg : Goes u T w T' w') (h0 : ¬ u 0) (hz : ∀ b, w'.heap.size ≤ b → T' b = 0) : Fx T' w' L ns pre B Bf Ba aA cA n := by
  obtain ⟨t1, t2, t3, t4, t6⟩ := h.tg
  have bl : ∀ b, T b = 0 → b < w.heap.size → w'.heap[b]? = w.heap[b]? := fun b e hb => hg.block b hb (by rw [e]; exact h0)
  have cl : ∀ b, T b = 0 → b < w.heap.size → w'.cell? ⟨b, 0, none⟩ = w.cell? ⟨b, 0, none⟩ := fun b e hb => hg.cell hb (by rw [e]; exact h0)
  have tl : ∀ b, T b = 0 → b < w.heap.size → T' b = 0 := fun b e hb => (hg.tag b hb (by rw [e]; exact h0)).trans e
  have b1 := World.block_lt_of_cell? w _ h.k1
  have b2 := World.block_lt_of_cell? w _ h.k2
  have b3 := World.block_lt_of_cell? w _ h.k3
  have b4 := World.block_lt_of_cell? w _ h.cf
  have b6 := World.block_lt_of_cell? w _ h.ca
  have nl : ∀ nd ∈ ns, nd.b < w.heap.size := fun nd hnd => h.wk.chain.lt hnd
  exact ⟨h.wk.keep hg.size (bl L h.tn.2 h.wk.lt) (fun nd hnd => bl _ (h.tn.1 nd hnd) (nl nd hnd)), ⟨fun nd hnd => tl _ (h.tn.1 nd hnd) (nl nd hnd), tl _ h.tn.2 h.wk.lt⟩, hz, (cl B t1 b1).trans h.k1, (cl _ t2 b2).trans h.k2, (cl _ t3 b3).trans h.k3, (cl _ t4 b4).trans h.cf, (cl _ t6 b6).trans h.ca, ⟨tl _ t1 b1, tl _ t2 b2, tl _ t3 b3, tl _ t4 b4, tl _ t6 b6⟩, h.iA.goes hg h0, h.ln, h.l9⟩
theorem Fx.below (h : Fx T w L ns pre B Bf Ba aA cA n) (hb : Below w.heap.size w w') : Fx T w' L ns pre B Bf Ba aA cA n := h.goes (Goes.below (t := fun _ => False) hb) (fun z => z) (fun b hb' => h.zero b (Nat.le_trans hb.size hb'))
theorem Fx.taken (h : Fx T w L ns pre B Bf Ba aA cA n) : Calls Tryz.prog 11 #[clA B, .int .i64 (-1)] w fun e w' => ∃ a c, e = .returned (.tuple #[.slice a n c, .bool true]) ∧ IsE w' a (ns.map Nd.e) ∧ (∀ b off, a = some ⟨b, off, none⟩ → w.heap.size ≤ b) ∧ Below w.heap.size w w' := by
  have := taken_fr B (B + 1) (B + 2) L ⟨#[]⟩ 18446744073709551615 ns pre ns w h.wk h.k1 h.k2 h.k3 (by have := h.ln; have := h.l9; omega)
  rw [h.ln] at this
  exact this
set_option maxHeartbeats 4000000 in
/-- SkipFresh's own function, of the entry whose turn it is -/
theorem fresh_ok (h : Fx T w L ns pre B Bf Ba aA cA n) (Bw Bn i : Nat) (hw : w.cell? ⟨Bw, 0, none⟩ = some (.bool true)) (hn : w.cell? ⟨Bn, 0, none⟩ = some (.int .i64 (i : Int))) (fw : w.frozen? ⟨Bw, 0, none⟩ = false) (fn : w.frozen? ⟨Bn, 0, none⟩ = false) (tw : T Bw = 9000008) (tn : T Bn = 9000008) (hne : Bw ≠ Bn) (hi : i < n) (e : En) (he : (ns.map Nd.e).getD i ez = e) :
    Calls Tryz.prog 12 #[.agg #[.string e.1, .int .u64 e.2.1, .bool e.2.2.1, .string e.2.2.2], .pointer (some ⟨Bf, 0, none⟩), .pointer (some ⟨Bw, 0, none⟩), .pointer (some ⟨Bn, 0, none⟩), .pointer (some ⟨Ba, 0, none⟩)] w fun r w' => r = .returned (.bool true) ∧ Goes (· = 9000008) T w T w' ∧ KeepsOthers w w' ∧ w'.cell? ⟨Bw, 0, none⟩ = some (.bool true) ∧ w'.cell? ⟨Bn, 0, none⟩ = some (.int .i64 ((i + 1 : Nat) : Int)) ∧ w'.frozen? ⟨Bw, 0, none⟩ = false ∧ w'.frozen? ⟨Bn, 0, none⟩ = false := by
  have HF : Hid (Fx T w L ns pre B Bf Ba aA cA n) := h
  have HB1 : Hid (Below w.heap.size w (w.alloc (.cells #[.string e.1, .int .u64 e.2.1, .bool e.2.2.1, .string e.2.2.2] 61))) := (Below.refl _ _).alloc (Nat.le_refl _) _
  have g1 : (w.alloc (.cells #[.string e.1, .int .u64 e.2.1, .bool e.2.2.1, .string e.2.2.2] 61)).heap[w.heap.size]? = some (.cells #[.string e.1, .int .u64 e.2.1, .bool e.2.2.1, .string e.2.2.2] 61) := World.alloc_heap_new _ _
  have HWN : Hid (w.cell? ⟨Bw, 0, none⟩ = some (.bool true) ∧ w.cell? ⟨Bn, 0, none⟩ = some (.int .i64 (i : Int)) ∧ w.frozen? ⟨Bw, 0, none⟩ = false ∧ w.frozen? ⟨Bn, 0, none⟩ = false ∧ Bw < w.heap.size ∧ Bn < w.heap.size) := ⟨hw, hn, fw, fn, World.block_lt_of_cell? w _ hw, World.block_lt_of_cell? w _ hn⟩
  have cf := (HF.out.below HB1.out).cf
  clear h hw hn fw fn
  go_enter Tryz.func12, Tryz.ntmps12
  generalize hW1 : w.alloc (.cells #[.string e.1, .int .u64 e.2.1, .bool e.2.2.1, .string e.2.2.2] 61) = W1 at *
  go_wp2_with fail
  try rw [hW1]
  refine (HF.out.below HB1.out).taken.mono ?_
  rintro r w4 ⟨aI, cI, rfl, iI, fI, hb2⟩
  have HB4 : Hid (Below w.heap.size w w4) := HB1.out.trans (hb2.mono HB1.out.size)
  have HG4 : Hid (w4.heap[w.heap.size]? = some (.cells #[.string e.1, .int .u64 e.2.1, .bool e.2.2.1, .string e.2.2.2] 61)) := (hb2.block _ (Array.getElem?_eq_some_iff.1 g1).1).trans g1
  have HI4 : Hid (EA T w4 aI (ns.map Nd.e)) := EA.of iI fun b off e => HF.out.zero b (Nat.le_trans HB1.out.size (fI b off e))
  clear iI fI hb2 hW1 g1 cf HB1
  have HF4 : Hid (Fx T w4 L ns pre B Bf Ba aA cA n) := HF.out.below HB4.out
  have hil : i < (ns.map Nd.e).length := by rw [List.length_map, HF.out.ln]; exact hi
  obtain ⟨bA, oA, rfl, hbA, y0, y1, y2, y3⟩ := rdE HF4.out.iA.isE hil
  rw [he] at y0 y1 y2 y3
  have HTA : Hid (T bA = 0) := by
    obtain ⟨b', o', e', _, t'⟩ := HF4.out.iA (List.ne_nil_of_length_pos (by omega))
    cases e'; exact t'
  have HSA : Hid (∀ W, Goes (· = 9000008) T w4 T W → Calls Tryz.prog 13 #[.slice aI n cI, .slice (some ⟨bA, oA, none⟩) n cA] W fun e w' => e = .returned (.bool true) ∧ ∃ n, w' = W.drewN n) := fun W hW => sameEntries_true aI _ cI cA n _ W (HI4.out.goes hW (by omega)).isE (HF4.out.iA.goes hW (by omega)).isE (by rw [List.length_map]; exact HF.out.ln) (by have := HF.out.l9; omega)
  obtain ⟨ek, es, ed, ev⟩ := e
  dsimp only at y0 y1 y2 y3 HG4 ⊢
  have b0 : w4.cell? ⟨w.heap.size, 0, none⟩ = some (.string ek) := by rw [cell_of_obj HG4.out]; rfl
  have b1 : w4.cell? ⟨w.heap.size, 1, none⟩ = some (.int .u64 es) := by rw [cell_of_obj HG4.out]; rfl
  have b2 : w4.cell? ⟨w.heap.size, 2, none⟩ = some (.bool ed) := by rw [cell_of_obj HG4.out]; rfl
  have b3 : w4.cell? ⟨w.heap.size, 3, none⟩ = some (.string ev) := by rw [cell_of_obj HG4.out]; rfl
  have z1 := (HB4.out.cell (p := ⟨Bw, 0, none⟩) HWN.out.2.2.2.2.1).trans HWN.out.1
  have z2 := (HB4.out.cell (p := ⟨Bn, 0, none⟩) HWN.out.2.2.2.2.2).trans HWN.out.2.1
  have z3 := (HB4.out.frozen (p := ⟨Bw, 0, none⟩) HWN.out.2.2.2.2.1).trans HWN.out.2.2.1
  have z4 := (HB4.out.frozen (p := ⟨Bn, 0, none⟩) HWN.out.2.2.2.2.2).trans HWN.out.2.2.2.1
  have ca4 := HF4.out.ca
  have q1 : (i : Int) < (n : Int) := by omega
  have q2 : (n : Int) ≤ 1000 := by have := HF.out.l9; omega
  have q3 : min (i : Int) ((n : Int) - 1) = (i : Int) := by omega
  have q4 : IntKind.i64.wrap ((n : Int) - 1) = (n : Int) - 1 := IntWalk.i64_in _ (by omega)
  have q5 : (0 : Int) ≤ (i : Int) := by omega
  have HNE : Hid (Bn ≠ Bw ∧ Ba ≠ Bw ∧ w.heap.size ≠ Bw ∧ bA ≠ Bw) := by
    have := HWN.out.2.2.2.2.1
    obtain ⟨_, _, _, _, t6⟩ := HF.out.tg
    refine ⟨fun e => hne e.symm, fun e => ?_, by omega, fun e => ?_⟩
    · rw [e] at t6; omega
    · have := HTA.out; rw [e] at this; omega
  have HS0 : Hid (Goes (· = 9000008) T w4 T w4.drew ∧ KeepsOthers w4 w4.drew ∧ w4.drew.cell? ⟨Bw, 0, none⟩ = some (.bool true) ∧ w4.drew.frozen? ⟨Bw, 0, none⟩ = false ∧ w4.drew.cell? ⟨Bn, 0, none⟩ = some (.int .i64 (i : Int)) ∧ w4.drew.frozen? ⟨Bn, 0, none⟩ = false ∧ w4.drew.cell? ⟨Ba, 0, none⟩ = some (.slice (some ⟨bA, oA, none⟩) n cA) ∧ w4.drew.cell? ⟨w.heap.size, 0, none⟩ = some (.string ek) ∧ w4.drew.cell? ⟨w.heap.size, 1, none⟩ = some (.int .u64 es) ∧ w4.drew.cell? ⟨w.heap.size, 2, none⟩ = some (.bool ed) ∧ w4.drew.cell? ⟨w.heap.size, 3, none⟩ = some (.string ev) ∧ w4.drew.cell? ⟨bA, oA + i * 4, none⟩ = some (.string ek) ∧ w4.drew.cell? ⟨bA, oA + i * 4 + 1, none⟩ = some (.int .u64 es) ∧ w4.drew.cell? ⟨bA, oA + i * 4 + 2, none⟩ = some (.bool ed) ∧ w4.drew.cell? ⟨bA, oA + i * 4 + 3, none⟩ = some (.string ev)) := ⟨Goes.below (below_drewN (Below.refl _ _) 1), KeepsOthers.drew _, z1, z3, z2, z4, ca4, b0, b1, b2, b3, y0, y1, y2, y3⟩
  have HSD : Hid (∀ W m, (Goes (· = 9000008) T w4 T W ∧ KeepsOthers w4 W ∧ W.cell? ⟨Bw, 0, none⟩ = some (.bool true) ∧ W.frozen? ⟨Bw, 0, none⟩ = false ∧ W.cell? ⟨Bn, 0, none⟩ = some (.int .i64 (i : Int)) ∧ W.frozen? ⟨Bn, 0, none⟩ = false ∧ W.cell? ⟨Ba, 0, none⟩ = some (.slice (some ⟨bA, oA, none⟩) n cA) ∧ W.cell? ⟨w.heap.size, 0, none⟩ = some (.string ek) ∧ W.cell? ⟨w.heap.size, 1, none⟩ = some (.int .u64 es) ∧ W.cell? ⟨w.heap.size, 2, none⟩ = some (.bool ed) ∧ W.cell? ⟨w.heap.size, 3, none⟩ = some (.string ev) ∧ W.cell? ⟨bA, oA + i * 4, none⟩ = some (.string ek) ∧ W.cell? ⟨bA, oA + i * 4 + 1, none⟩ = some (.int .u64 es) ∧ W.cell? ⟨bA, oA + i * 4 + 2, none⟩ = some (.bool ed) ∧ W.cell? ⟨bA, oA + i * 4 + 3, none⟩ = some (.string ev)) → (Goes (· = 9000008) T w4 T (W.drewN m) ∧ KeepsOthers w4 (W.drewN m) ∧ (W.drewN m).cell? ⟨Bw, 0, none⟩ = some (.bool true) ∧ (W.drewN m).frozen? ⟨Bw, 0, none⟩ = false ∧ (W.drewN m).cell? ⟨Bn, 0, none⟩ = some (.int .i64 (i : Int)) ∧ (W.drewN m).frozen? ⟨Bn, 0, none⟩ = false ∧ (W.drewN m).cell? ⟨Ba, 0, none⟩ = some (.slice (some ⟨bA, oA, none⟩) n cA) ∧ (W.drewN m).cell? ⟨w.heap.size, 0, none⟩ = some (.string ek) ∧ (W.drewN m).cell? ⟨w.heap.size, 1, none⟩ = some (.int .u64 es) ∧ (W.drewN m).cell? ⟨w.heap.size, 2, none⟩ = some (.bool ed) ∧ (W.drewN m).cell? ⟨w.heap.size, 3, none⟩ = some (.string ev) ∧ (W.drewN m).cell? ⟨bA, oA + i * 4, none⟩ = some (.string ek) ∧ (W.drewN m).cell? ⟨bA, oA + i * 4 + 1, none⟩ = some (.int .u64 es) ∧ (W.drewN m).cell? ⟨bA, oA + i * 4 + 2, none⟩ = some (.bool ed) ∧ (W.drewN m).cell? ⟨bA, oA + i * 4 + 3, none⟩ = some (.string ev))) := by
    rintro W m ⟨x0, xk, x1, x2, x3, x4, x5, x7, x8, x9, x10, x11, x12, x13, x14⟩
    exact ⟨x0.trans (Goes.below (below_drewN (Below.refl _ _) _)), xk.trans ⟨Nat.le_refl _, fun _ _ h _ => h⟩, x1, x2, x3, x4, x5, x7, x8, x9, x10, x11, x12, x13, x14⟩
  have HST : Hid (∀ W, (Goes (· = 9000008) T w4 T W ∧ KeepsOthers w4 W ∧ W.cell? ⟨Bw, 0, none⟩ = some (.bool true) ∧ W.frozen? ⟨Bw, 0, none⟩ = false ∧ W.cell? ⟨Bn, 0, none⟩ = some (.int .i64 (i : Int)) ∧ W.frozen? ⟨Bn, 0, none⟩ = false ∧ W.cell? ⟨Ba, 0, none⟩ = some (.slice (some ⟨bA, oA, none⟩) n cA) ∧ W.cell? ⟨w.heap.size, 0, none⟩ = some (.string ek) ∧ W.cell? ⟨w.heap.size, 1, none⟩ = some (.int .u64 es) ∧ W.cell? ⟨w.heap.size, 2, none⟩ = some (.bool ed) ∧ W.cell? ⟨w.heap.size, 3, none⟩ = some (.string ev) ∧ W.cell? ⟨bA, oA + i * 4, none⟩ = some (.string ek) ∧ W.cell? ⟨bA, oA + i * 4 + 1, none⟩ = some (.int .u64 es) ∧ W.cell? ⟨bA, oA + i * 4 + 2, none⟩ = some (.bool ed) ∧ W.cell? ⟨bA, oA + i * 4 + 3, none⟩ = some (.string ev)) → (Goes (· = 9000008) T w4 T (W.setCell ⟨Bw, 0, none⟩ (.bool true)) ∧ KeepsOthers w4 (W.setCell ⟨Bw, 0, none⟩ (.bool true)) ∧ (W.setCell ⟨Bw, 0, none⟩ (.bool true)).cell? ⟨Bw, 0, none⟩ = some (.bool true) ∧ (W.setCell ⟨Bw, 0, none⟩ (.bool true)).frozen? ⟨Bw, 0, none⟩ = false ∧ (W.setCell ⟨Bw, 0, none⟩ (.bool true)).cell? ⟨Bn, 0, none⟩ = some (.int .i64 (i : Int)) ∧ (W.setCell ⟨Bw, 0, none⟩ (.bool true)).frozen? ⟨Bn, 0, none⟩ = false ∧ (W.setCell ⟨Bw, 0, none⟩ (.bool true)).cell? ⟨Ba, 0, none⟩ = some (.slice (some ⟨bA, oA, none⟩) n cA) ∧ (W.setCell ⟨Bw, 0, none⟩ (.bool true)).cell? ⟨w.heap.size, 0, none⟩ = some (.string ek) ∧ (W.setCell ⟨Bw, 0, none⟩ (.bool true)).cell? ⟨w.heap.size, 1, none⟩ = some (.int .u64 es) ∧ (W.setCell ⟨Bw, 0, none⟩ (.bool true)).cell? ⟨w.heap.size, 2, none⟩ = some (.bool ed) ∧ (W.setCell ⟨Bw, 0, none⟩ (.bool true)).cell? ⟨w.heap.size, 3, none⟩ = some (.string ev) ∧ (W.setCell ⟨Bw, 0, none⟩ (.bool true)).cell? ⟨bA, oA + i * 4, none⟩ = some (.string ek) ∧ (W.setCell ⟨Bw, 0, none⟩ (.bool true)).cell? ⟨bA, oA + i * 4 + 1, none⟩ = some (.int .u64 es) ∧ (W.setCell ⟨Bw, 0, none⟩ (.bool true)).cell? ⟨bA, oA + i * 4 + 2, none⟩ = some (.bool ed) ∧ (W.setCell ⟨Bw, 0, none⟩ (.bool true)).cell? ⟨bA, oA + i * 4 + 3, none⟩ = some (.string ev))) := by
    rintro W ⟨x0, xk, x1, x2, x3, x4, x5, x7, x8, x9, x10, x11, x12, x13, x14⟩
    obtain ⟨d1, d2, d4, d5⟩ := HNE.out
    have ot : ∀ b j, b ≠ Bw → (W.setCell ⟨Bw, 0, none⟩ (.bool true)).cell? ⟨b, j, none⟩ = W.cell? ⟨b, j, none⟩ := fun b j hb => World.cell?_of_block (a := ⟨b, j, none⟩) (Below.heap_setCell _ _ _ _ hb)
    exact ⟨x0.trans (Goes.setCell tw), xk.trans (KeepsOthers.setCell _ _ _), World.cell?_setCell_same _ _ _ x1, by rw [World.frozen?_setCell]; exact x2, (ot _ _ d1).trans x3, by rw [World.frozen?_setCell]; exact x4, (ot _ _ d2).trans x5, (ot _ _ d4).trans x7, (ot _ _ d4).trans x8, (ot _ _ d4).trans x9, (ot _ _ d4).trans x10, (ot _ _ d5).trans x11, (ot _ _ d5).trans x12, (ot _ _ d5).trans x13, (ot _ _ d5).trans x14⟩
  clear hil he HI4
  go_wp2
  go_region_held3 (fun W => Goes (· = 9000008) T w4 T W ∧ KeepsOthers w4 W ∧ W.cell? ⟨Bw, 0, none⟩ = some (.bool true) ∧ W.frozen? ⟨Bw, 0, none⟩ = false ∧ W.cell? ⟨Bn, 0, none⟩ = some (.int .i64 (i : Int)) ∧ W.frozen? ⟨Bn, 0, none⟩ = false ∧ W.cell? ⟨Ba, 0, none⟩ = some (.slice (some ⟨bA, oA, none⟩) n cA) ∧ W.cell? ⟨w.heap.size, 0, none⟩ = some (.string ek) ∧ W.cell? ⟨w.heap.size, 1, none⟩ = some (.int .u64 es) ∧ W.cell? ⟨w.heap.size, 2, none⟩ = some (.bool ed) ∧ W.cell? ⟨w.heap.size, 3, none⟩ = some (.string ev) ∧ W.cell? ⟨bA, oA + i * 4, none⟩ = some (.string ek) ∧ W.cell? ⟨bA, oA + i * 4 + 1, none⟩ = some (.int .u64 es) ∧ W.cell? ⟨bA, oA + i * 4 + 2, none⟩ = some (.bool ed) ∧ W.cell? ⟨bA, oA + i * 4 + 3, none⟩ = some (.string ev)) (first | assumption | exact HS0.out | exact HST.out _ hSY)
    (first
      | (go_at_call 13; refine (HSA.out _ HS0.out.1).mono ?_; rintro r wY ⟨rfl, nY, hY⟩; have hSY : Goes (· = 9000008) T w4 T wY ∧ KeepsOthers w4 wY ∧ wY.cell? ⟨Bw, 0, none⟩ = some (.bool true) ∧ wY.frozen? ⟨Bw, 0, none⟩ = false ∧ wY.cell? ⟨Bn, 0, none⟩ = some (.int .i64 (i : Int)) ∧ wY.frozen? ⟨Bn, 0, none⟩ = false ∧ wY.cell? ⟨Ba, 0, none⟩ = some (.slice (some ⟨bA, oA, none⟩) n cA) ∧ wY.cell? ⟨w.heap.size, 0, none⟩ = some (.string ek) ∧ wY.cell? ⟨w.heap.size, 1, none⟩ = some (.int .u64 es) ∧ wY.cell? ⟨w.heap.size, 2, none⟩ = some (.bool ed) ∧ wY.cell? ⟨w.heap.size, 3, none⟩ = some (.string ev) ∧ wY.cell? ⟨bA, oA + i * 4, none⟩ = some (.string ek) ∧ wY.cell? ⟨bA, oA + i * 4 + 1, none⟩ = some (.int .u64 es) ∧ wY.cell? ⟨bA, oA + i * 4 + 2, none⟩ = some (.bool ed) ∧ wY.cell? ⟨bA, oA + i * 4 + 3, none⟩ = some (.string ev) := (by rw [hY]; exact HSD.out _ _ HS0.out); have zf : wY.frozen? ⟨Bw, 0, none⟩ = false := hSY.2.2.2.1; clear hY))
  have HSZ : Hid _ := HST.out _ hSY
  have HW0 : Hid (Goes (· = 9000008) T w T w4 ∧ KeepsOthers w w4) := ⟨Goes.below HB4.out, keeps_below HB4.out⟩
  have q6 : IntKind.i64.wrap ((i : Int) + 1) = (i : Int) + 1 := IntWalk.i64_in _ (by omega)
  clear hSY zf HS0 HSD HST HSA HTA HF HF4 HG4 z1 z2 z3 z4 b0 b1 b2 b3 y0 y1 y2 y3 ca4 HB4 HWN hbA
  generalize wY.setCell ⟨Bw, 0, none⟩ (.bool true) = wZ at *
  obtain ⟨x0, xk, x1, x2, x3, x4, _⟩ := HSZ.out
  clear HSZ
  have x5 : (wZ.setCell ⟨Bn, 0, none⟩ (.int .i64 ((i : Int) + 1))).cell? ⟨Bw, 0, none⟩ = some (.bool true) := (World.cell?_of_block (a := ⟨Bw, 0, none⟩) (Below.heap_setCell _ _ _ _ hne)).trans x1
  have x6 : (wZ.setCell ⟨Bn, 0, none⟩ (.int .i64 ((i : Int) + 1))).cell? ⟨Bn, 0, none⟩ = some (.int .i64 ((i : Int) + 1)) := World.cell?_setCell_same _ _ _ x3
  have HX0 : Hid (Goes (· = 9000008) T w T (wZ.setCell ⟨Bn, 0, none⟩ (.int .i64 ((i : Int) + 1))) ∧ KeepsOthers w (wZ.setCell ⟨Bn, 0, none⟩ (.int .i64 ((i : Int) + 1)))) := ⟨(HW0.out.1.trans x0).trans (Goes.setCell tn), (HW0.out.2.trans xk).trans (KeepsOthers.setCell _ _ _)⟩
  go_wp2
  refine ⟨rfl, _, results_tmp Tryz.results12 _ _ _, rfl, HX0.out.1, HX0.out.2, x5, ?_, ?_, ?_⟩
  · rw [x6]; rfl
  · rw [World.frozen?_setCell]; exact x2
  · rw [World.frozen?_setCell]; exact x4
end Sf
end Go.Proofs.YtdflepndhemfgaaGreatDoor
