import Derived.Test.YtkofopaejkabhaaMf1
import Derived.Test.YtkofopaejkabhaaEf1
import Derived.Test.YtkofopaejkabhaaEf1
import Derived.Deep.RegionHeld3
import Derived.MapKept
namespace Go.Proofs.Ytkofopaejkabhaa
namespace Mem
open Go.RowKit Laws Irw Erw KMath Skm Byt Sk Grp Crw
set_option linter.unusedVariables false
set_option maxRecDepth 100000
set_option linter.unusedSimpArgs false

abbrev clA (B : Nat) : Value := .func (.func 88) #[] #[.pointer (some ⟨B, 0, none⟩), .pointer (some ⟨B + 1, 0, none⟩), .pointer (some ⟨B + 2, 0, none⟩)]
/-- a list of entries in memory of no tag -/
def EA (T : Nat → Nat) (w : World) (a : Option Addr) (l : List En) : Prop := l ≠ [] → ∃ b off, a = some ⟨b, off, none⟩ ∧ ERow w b off l ∧ T b = 0
theorem EA.isE {T : Nat → Nat} {w : World} {a : Option Addr} {l : List En} (h : EA T w a l) : IsE w a l := fun hne => by
  obtain ⟨b, off, e, hr, _⟩ := h hne
  exact ⟨b, off, e, hr⟩
theorem EA.goes {u : Nat → Prop} {T T' : Nat → Nat} {w w' : World} {a : Option Addr} {l : List En} (h : EA T w a l) (hg : Goes u T w T' w') (h0 : ¬ u 0) : EA T' w' a l := fun hne => by
  obtain ⟨b, off, e, hr, ht⟩ := h hne
  exact ⟨b, off, e, hr.keep (hg.block b hr.1 (by rw [ht]; exact h0)) hg.size, (hg.tag b hr.1 (by rw [ht]; exact h0)).trans ht⟩
theorem EA.of {T : Nat → Nat} {w : World} {a : Option Addr} {l : List En} (h : IsE w a l) (ht : ∀ b off, a = some ⟨b, off, none⟩ → T b = 0) : EA T w a l := fun hne => by
  obtain ⟨b, off, e, hr⟩ := h hne
  exact ⟨b, off, e, hr, ht b off e⟩
theorem EA.below {T : Nat → Nat} {w w' : World} {a : Option Addr} {l : List En} (h : EA T w a l) (hb : Below w.heap.size w w') : EA T w' a l := h.goes (Goes.below (t := fun _ => False) hb) (fun z => z)
theorem keeps_below {w w' : World} (h : Below w.heap.size w w') : KeepsOthers w w' := ⟨h.size, fun k o hk _ => (h.block k (Array.getElem?_eq_some_iff.1 hk).1).trans hk⟩
/-- what MemFresh's own function reads -/
structure Fx (T : Nat → Nat) (w : World) (M L : Nat) (ds : List Nat) (ns : List Nd) (B Bf Bt Ba Bp : Nat) (aA : Option Addr) (cA : Nat) (aP : Option Addr) (cP : Nat) (n nP : Nat) : Prop where
  mt : Mt 10 T w M L ds ns true
  zero : ∀ b, w.heap.size ≤ b → T b = 0
  k1 : w.cell? ⟨B, 0, none⟩ = some (.pointer (some ⟨L, 0, none⟩))
  k2 : w.cell? ⟨B + 1, 0, none⟩ = some (.string ⟨#[]⟩)
  k3 : w.cell? ⟨B + 2, 0, none⟩ = some (.int .u64 18446744073709551615)
  cf : w.cell? ⟨Bf, 0, none⟩ = some (clA B)
  ct : w.cell? ⟨Bt, 0, none⟩ = some (.pointer (some ⟨M, 0, none⟩))
  ca : w.cell? ⟨Ba, 0, none⟩ = some (.slice aA n cA)
  cp : w.cell? ⟨Bp, 0, none⟩ = some (.slice aP nP cP)
  tg : T B = 0 ∧ T (B + 1) = 0 ∧ T (B + 2) = 0 ∧ T Bf = 0 ∧ T Bt = 0 ∧ T Ba = 0 ∧ T Bp = 0
  iA : EA T w aA (ns.map Nd.e)
  iP : EA T w aP (frm ⟨#[]⟩ 18446744073709551615 (ns.map Nd.e))
  ln : ns.length = n
  lp : (frm ⟨#[]⟩ 18446744073709551615 (ns.map Nd.e)).length = nP
  l9 : n ≤ 1000
variable {T T' : Nat → Nat} {w w' : World} {M L : Nat} {ds : List Nat} {ns : List Nd} {B Bf Bt Ba Bp : Nat} {aA : Option Addr} {cA : Nat} {aP : Option Addr} {cP n nP : Nat}
theorem Fx.goes (h : Fx T w M L ds ns B Bf Bt Ba Bp aA cA aP cP n nP) (hg : Goes (· = 8) T w T' w') (hz : ∀ b, w'.heap.size ≤ b → T' b = 0) : Fx T' w' M L ds ns B Bf Bt Ba Bp aA cA aP cP n nP := by
  obtain ⟨t1, t2, t3, t4, t5, t6, t7⟩ := h.tg
  have cl : ∀ b, T b = 0 → b < w.heap.size → w'.cell? ⟨b, 0, none⟩ = w.cell? ⟨b, 0, none⟩ := fun b h0 hb => hg.cell hb (by omega)
  have tl : ∀ b, T b = 0 → b < w.heap.size → T' b = 0 := fun b h0 hb => (hg.tag b hb (by omega)).trans h0
  have b1 := World.block_lt_of_cell? w _ h.k1
  have b2 := World.block_lt_of_cell? w _ h.k2
  have b3 := World.block_lt_of_cell? w _ h.k3
  have b4 := World.block_lt_of_cell? w _ h.cf
  have b5 := World.block_lt_of_cell? w _ h.ct
  have b6 := World.block_lt_of_cell? w _ h.ca
  have b7 := World.block_lt_of_cell? w _ h.cp
  exact ⟨h.mt.goes hg (by omega) (by omega) (by omega), hz, (cl B t1 b1).trans h.k1, (cl _ t2 b2).trans h.k2, (cl _ t3 b3).trans h.k3, (cl _ t4 b4).trans h.cf, (cl _ t5 b5).trans h.ct, (cl _ t6 b6).trans h.ca, (cl _ t7 b7).trans h.cp, ⟨tl _ t1 b1, tl _ t2 b2, tl _ t3 b3, tl _ t4 b4, tl _ t5 b5, tl _ t6 b6, tl _ t7 b7⟩, h.iA.goes hg (by omega), h.iP.goes hg (by omega), h.ln, h.lp, h.l9⟩
theorem Fx.below (h : Fx T w M L ds ns B Bf Bt Ba Bp aA cA aP cP n nP) (hb : Below w.heap.size w w') : Fx T w' M L ds ns B Bf Bt Ba Bp aA cA aP cP n nP := h.goes (Goes.below hb) (fun b hb' => h.zero b (Nat.le_trans hb.size hb'))
theorem Fx.p9 (h : Fx T w M L ds ns B Bf Bt Ba Bp aA cA aP cP n nP) : nP ≤ 1000 := by
  have h2 := stt_len 18446744073709551615 ((ns.map Nd.e).filter fun e => !decide (cmpE e.1 ⟨#[]⟩ e.2.1 18446744073709551615 < 0))
  have h3 := List.length_filter_le (fun e : En => !decide (cmpE e.1 ⟨#[]⟩ e.2.1 18446744073709551615 < 0)) (ns.map Nd.e)
  rw [List.length_map, h.ln] at h3
  have h4 := h.lp
  have h5 := h.l9
  unfold frm at h4
  omega
set_option maxHeartbeats 4000000 in
/-- MemFresh's own function, of the entry whose turn it is -/
theorem fresh_ok (h : Fx T w M L ds ns B Bf Bt Ba Bp aA cA aP cP n nP) (Bw Bn i : Nat) (hw : w.cell? ⟨Bw, 0, none⟩ = some (.bool true)) (hn : w.cell? ⟨Bn, 0, none⟩ = some (.int .i64 (i : Int))) (fw : w.frozen? ⟨Bw, 0, none⟩ = false) (fn : w.frozen? ⟨Bn, 0, none⟩ = false) (tw : T Bw = 8) (tn : T Bn = 8) (hne : Bw ≠ Bn) (hi : i < n) (e : En) (he : (ns.map Nd.e).getD i ez = e) :
    Calls Try.prog 35 #[.agg #[.string e.1, .int .u64 e.2.1, .bool e.2.2.1, .string e.2.2.2], .pointer (some ⟨Bf, 0, none⟩), .pointer (some ⟨Bt, 0, none⟩), .pointer (some ⟨Bw, 0, none⟩), .pointer (some ⟨Bn, 0, none⟩), .pointer (some ⟨Ba, 0, none⟩), .pointer (some ⟨Bp, 0, none⟩)] w fun r w' => r = .returned (.bool true) ∧ Goes (· = 8) T w T w' ∧ KeepsOthers w w' ∧ w'.cell? ⟨Bw, 0, none⟩ = some (.bool true) ∧ w'.cell? ⟨Bn, 0, none⟩ = some (.int .i64 ((i + 1 : Nat) : Int)) ∧ w'.frozen? ⟨Bw, 0, none⟩ = false ∧ w'.frozen? ⟨Bn, 0, none⟩ = false := by
  have HF : Hid (Fx T w M L ds ns B Bf Bt Ba Bp aA cA aP cP n nP) := h
  have HB1 : Hid (Below w.heap.size w (w.alloc (.cells #[.string e.1, .int .u64 e.2.1, .bool e.2.2.1, .string e.2.2.2] 77))) := (Below.refl _ _).alloc (Nat.le_refl _) _
  have g1 : (w.alloc (.cells #[.string e.1, .int .u64 e.2.1, .bool e.2.2.1, .string e.2.2.2] 77)).heap[w.heap.size]? = some (.cells #[.string e.1, .int .u64 e.2.1, .bool e.2.2.1, .string e.2.2.2] 77) := World.alloc_heap_new _ _
  have HWN : Hid (w.cell? ⟨Bw, 0, none⟩ = some (.bool true) ∧ w.cell? ⟨Bn, 0, none⟩ = some (.int .i64 (i : Int)) ∧ w.frozen? ⟨Bw, 0, none⟩ = false ∧ w.frozen? ⟨Bn, 0, none⟩ = false ∧ Bw < w.heap.size ∧ Bn < w.heap.size) := ⟨hw, hn, fw, fn, World.block_lt_of_cell? w _ hw, World.block_lt_of_cell? w _ hn⟩
  have cf := (HF.out.below HB1.out).cf
  clear h hw hn fw fn
  go_enter Try.func35, Try.ntmps35
  generalize hW1 : w.alloc (.cells #[.string e.1, .int .u64 e.2.1, .bool e.2.2.1, .string e.2.2.2] 77) = W1 at *
  go_wp2_with fail
  try rw [hW1]
  refine (taken_memf (HF.out.below HB1.out).mt (B := B) (n := n) (by have := HF.out.l9; have := HF.out.ln; omega) HF.out.ln (HF.out.below HB1.out).k1 (HF.out.below HB1.out).k2 (HF.out.below HB1.out).k3).mono ?_
  rintro r w2 ⟨aI, cI, rfl, iI, fI, hb2⟩
  have HB2 : Hid (Below w.heap.size w w2) := HB1.out.trans (hb2.mono HB1.out.size)
  have HG2 : Hid (w2.heap[w.heap.size]? = some (.cells #[.string e.1, .int .u64 e.2.1, .bool e.2.2.1, .string e.2.2.2] 77)) := (hb2.block _ (Array.getElem?_eq_some_iff.1 g1).1).trans g1
  have HI2 : Hid (EA T w2 aI (ns.map Nd.e)) := EA.of iI fun b off e => HF.out.zero b (Nat.le_trans HB1.out.size (fI b off e))
  have ct2 := (HF.out.below HB2.out).ct
  clear iI fI hb2 hW1 g1 cf HB1
  go_wp2_with fail
  refine (from_mem M _ _ w2 (B := w2.heap.size) rfl).mono ?_
  rintro r w3 ⟨rfl, hb3, k1, k2, k3⟩
  have HB3 : Hid (Below w.heap.size w w3) := HB2.out.trans (hb3.mono HB2.out.size)
  have HG3 : Hid (w3.heap[w.heap.size]? = some (.cells #[.string e.1, .int .u64 e.2.1, .bool e.2.2.1, .string e.2.2.2] 77)) := (hb3.block _ (Array.getElem?_eq_some_iff.1 HG2.out).1).trans HG2.out
  have HI3 : Hid (EA T w3 aI (ns.map Nd.e)) := HI2.out.below hb3
  have HTA : Hid _ := mtaken_mem (HF.out.below HB3.out).mt (B := w2.heap.size) (n := nP) (by have := HF.out.l9; have := HF.out.ln; omega) (fun e => absurd ((HF.out.zero (w2.heap.size + 2) (Nat.le_trans HB2.out.size (Nat.le_add_right _ 2))).symm.trans e) (by decide)) HF.out.lp k1 k2 k3
  clear k1 k2 k3 hb3 HG2 HI2 ct2
  go_wp2_with fail
  refine Calls.mono HTA.out ?_
  rintro r w4 ⟨aO, cO, rfl, iO, fO, hb4⟩
  have HB4 : Hid (Below w.heap.size w w4) := HB3.out.trans (hb4.mono HB3.out.size)
  have HG4 : Hid (w4.heap[w.heap.size]? = some (.cells #[.string e.1, .int .u64 e.2.1, .bool e.2.2.1, .string e.2.2.2] 77)) := (hb4.block _ (Array.getElem?_eq_some_iff.1 HG3.out).1).trans HG3.out
  have HI4 : Hid (EA T w4 aI (ns.map Nd.e) ∧ EA T w4 aO (frm ⟨#[]⟩ 18446744073709551615 (ns.map Nd.e))) := ⟨HI3.out.below hb4, EA.of iO fun b off e => HF.out.zero b (Nat.le_trans HB3.out.size (fO b off e))⟩
  clear iO fO hb4 HTA HG3 HI3 HB3 HB2
  have HF4 : Hid (Fx T w4 M L ds ns B Bf Bt Ba Bp aA cA aP cP n nP) := HF.out.below HB4.out
  have hil : i < (ns.map Nd.e).length := by rw [List.length_map, HF.out.ln]; exact hi
  obtain ⟨bA, oA, rfl, hbA, y0, y1, y2, y3⟩ := SkipOrder.rd HF4.out.iA.isE hil
  rw [he] at y0 y1 y2 y3
  have HTA : Hid (T bA = 0) := by
    obtain ⟨b', o', e', _, t'⟩ := HF4.out.iA (List.ne_nil_of_length_pos (by omega))
    cases e'; exact t'
  have HSA : Hid (∀ W, Goes (· = 8) T w4 T W → Calls Try.prog 29 #[.slice aI n cI, .slice (some ⟨bA, oA, none⟩) n cA] W fun e w' => e = .returned (.bool true) ∧ ∃ n, w' = W.drewN n) := fun W hW => sameEntries_true aI _ cI cA n _ W (HI4.out.1.goes hW (by omega)).isE (HF4.out.iA.goes hW (by omega)).isE (by rw [List.length_map]; exact HF.out.ln) (by have := HF.out.l9; omega)
  have HSP : Hid (∀ W, Goes (· = 8) T w4 T W → Calls Try.prog 29 #[.slice aO nP cO, .slice aP nP cP] W fun e w' => e = .returned (.bool true) ∧ ∃ n, w' = W.drewN n) := fun W hW => sameEntries_true aO aP cO cP nP _ W (HI4.out.2.goes hW (by omega)).isE (HF4.out.iP.goes hW (by omega)).isE HF.out.lp (by have := HF.out.p9; omega)
  obtain ⟨ek, es, ed, ev⟩ := e
  dsimp only at y0 y1 y2 y3 HG4 ⊢
  have b0 : w4.cell? ⟨w.heap.size, 0, none⟩ = some (.string ek) := by rw [cell_of_obj HG4.out]; rfl
  have b1 : w4.cell? ⟨w.heap.size, 1, none⟩ = some (.int .u64 es) := by rw [cell_of_obj HG4.out]; rfl
  have b2 : w4.cell? ⟨w.heap.size, 2, none⟩ = some (.bool ed) := by rw [cell_of_obj HG4.out]; rfl
  have b3 : w4.cell? ⟨w.heap.size, 3, none⟩ = some (.string ev) := by rw [cell_of_obj HG4.out]; rfl
  have z1 := (HB4.out.cell (p := ⟨Bw, 0, none⟩) HWN.out.2.2.2.2.1).trans HWN.out.1
  have z2 := (HB4.out.cell (p := ⟨Bn, 0, none⟩) HWN.out.2.2.2.2.2).trans HWN.out.2.1
  have z3 := (HB4.out.frozen (p := ⟨Bw, 0, none⟩) HWN.out.2.2.2.2.1).trans HWN.out.2.2.1
  have z4 := (HB4.out.frozen (p := ⟨Bn, 0, none⟩) HWN.out.2.2.2.2.2).trans HWN.out.2.2.2.1
  have ca4 := HF4.out.ca
  have cp4 := HF4.out.cp
  have q1 : (i : Int) < (n : Int) := by omega
  have q2 : (n : Int) ≤ 1000 := by have := HF.out.l9; omega
  have q3 : min (i : Int) ((n : Int) - 1) = (i : Int) := by omega
  have q4 : IntKind.i64.wrap ((n : Int) - 1) = (n : Int) - 1 := IntWalk.i64_in _ (by omega)
  have q5 : (0 : Int) ≤ (i : Int) := by omega
  have HNE : Hid (Bn ≠ Bw ∧ Ba ≠ Bw ∧ Bp ≠ Bw ∧ w.heap.size ≠ Bw ∧ bA ≠ Bw) := by
    have := HWN.out.2.2.2.2.1
    obtain ⟨_, _, _, _, _, t6, t7⟩ := HF.out.tg
    refine ⟨fun e => hne e.symm, fun e => ?_, fun e => ?_, by omega, fun e => ?_⟩
    · rw [e] at t6; omega
    · rw [e] at t7; omega
    · have := HTA.out; rw [e] at this; omega
  have HS0 : Hid (Goes (· = 8) T w4 T w4.drew ∧ KeepsOthers w4 w4.drew ∧ w4.drew.cell? ⟨Bw, 0, none⟩ = some (.bool true) ∧ w4.drew.frozen? ⟨Bw, 0, none⟩ = false ∧ w4.drew.cell? ⟨Bn, 0, none⟩ = some (.int .i64 (i : Int)) ∧ w4.drew.frozen? ⟨Bn, 0, none⟩ = false ∧ w4.drew.cell? ⟨Ba, 0, none⟩ = some (.slice (some ⟨bA, oA, none⟩) n cA) ∧ w4.drew.cell? ⟨Bp, 0, none⟩ = some (.slice aP nP cP) ∧ w4.drew.cell? ⟨w.heap.size, 0, none⟩ = some (.string ek) ∧ w4.drew.cell? ⟨w.heap.size, 1, none⟩ = some (.int .u64 es) ∧ w4.drew.cell? ⟨w.heap.size, 2, none⟩ = some (.bool ed) ∧ w4.drew.cell? ⟨w.heap.size, 3, none⟩ = some (.string ev) ∧ w4.drew.cell? ⟨bA, oA + i * 4, none⟩ = some (.string ek) ∧ w4.drew.cell? ⟨bA, oA + i * 4 + 1, none⟩ = some (.int .u64 es) ∧ w4.drew.cell? ⟨bA, oA + i * 4 + 2, none⟩ = some (.bool ed) ∧ w4.drew.cell? ⟨bA, oA + i * 4 + 3, none⟩ = some (.string ev)) := ⟨Goes.below (below_drewN (Below.refl _ _) 1), KeepsOthers.drew _, z1, z3, z2, z4, ca4, cp4, b0, b1, b2, b3, y0, y1, y2, y3⟩
  have HSD : Hid (∀ W m, (Goes (· = 8) T w4 T W ∧ KeepsOthers w4 W ∧ W.cell? ⟨Bw, 0, none⟩ = some (.bool true) ∧ W.frozen? ⟨Bw, 0, none⟩ = false ∧ W.cell? ⟨Bn, 0, none⟩ = some (.int .i64 (i : Int)) ∧ W.frozen? ⟨Bn, 0, none⟩ = false ∧ W.cell? ⟨Ba, 0, none⟩ = some (.slice (some ⟨bA, oA, none⟩) n cA) ∧ W.cell? ⟨Bp, 0, none⟩ = some (.slice aP nP cP) ∧ W.cell? ⟨w.heap.size, 0, none⟩ = some (.string ek) ∧ W.cell? ⟨w.heap.size, 1, none⟩ = some (.int .u64 es) ∧ W.cell? ⟨w.heap.size, 2, none⟩ = some (.bool ed) ∧ W.cell? ⟨w.heap.size, 3, none⟩ = some (.string ev) ∧ W.cell? ⟨bA, oA + i * 4, none⟩ = some (.string ek) ∧ W.cell? ⟨bA, oA + i * 4 + 1, none⟩ = some (.int .u64 es) ∧ W.cell? ⟨bA, oA + i * 4 + 2, none⟩ = some (.bool ed) ∧ W.cell? ⟨bA, oA + i * 4 + 3, none⟩ = some (.string ev)) → (Goes (· = 8) T w4 T (W.drewN m) ∧ KeepsOthers w4 (W.drewN m) ∧ (W.drewN m).cell? ⟨Bw, 0, none⟩ = some (.bool true) ∧ (W.drewN m).frozen? ⟨Bw, 0, none⟩ = false ∧ (W.drewN m).cell? ⟨Bn, 0, none⟩ = some (.int .i64 (i : Int)) ∧ (W.drewN m).frozen? ⟨Bn, 0, none⟩ = false ∧ (W.drewN m).cell? ⟨Ba, 0, none⟩ = some (.slice (some ⟨bA, oA, none⟩) n cA) ∧ (W.drewN m).cell? ⟨Bp, 0, none⟩ = some (.slice aP nP cP) ∧ (W.drewN m).cell? ⟨w.heap.size, 0, none⟩ = some (.string ek) ∧ (W.drewN m).cell? ⟨w.heap.size, 1, none⟩ = some (.int .u64 es) ∧ (W.drewN m).cell? ⟨w.heap.size, 2, none⟩ = some (.bool ed) ∧ (W.drewN m).cell? ⟨w.heap.size, 3, none⟩ = some (.string ev) ∧ (W.drewN m).cell? ⟨bA, oA + i * 4, none⟩ = some (.string ek) ∧ (W.drewN m).cell? ⟨bA, oA + i * 4 + 1, none⟩ = some (.int .u64 es) ∧ (W.drewN m).cell? ⟨bA, oA + i * 4 + 2, none⟩ = some (.bool ed) ∧ (W.drewN m).cell? ⟨bA, oA + i * 4 + 3, none⟩ = some (.string ev))) := by
    rintro W m ⟨x0, xk, x1, x2, x3, x4, x5, x6, x7, x8, x9, x10, x11, x12, x13, x14⟩
    exact ⟨x0.trans (Goes.below (below_drewN (Below.refl _ _) _)), xk.trans ⟨Nat.le_refl _, fun _ _ h _ => h⟩, x1, x2, x3, x4, x5, x6, x7, x8, x9, x10, x11, x12, x13, x14⟩
  have HST : Hid (∀ W, (Goes (· = 8) T w4 T W ∧ KeepsOthers w4 W ∧ W.cell? ⟨Bw, 0, none⟩ = some (.bool true) ∧ W.frozen? ⟨Bw, 0, none⟩ = false ∧ W.cell? ⟨Bn, 0, none⟩ = some (.int .i64 (i : Int)) ∧ W.frozen? ⟨Bn, 0, none⟩ = false ∧ W.cell? ⟨Ba, 0, none⟩ = some (.slice (some ⟨bA, oA, none⟩) n cA) ∧ W.cell? ⟨Bp, 0, none⟩ = some (.slice aP nP cP) ∧ W.cell? ⟨w.heap.size, 0, none⟩ = some (.string ek) ∧ W.cell? ⟨w.heap.size, 1, none⟩ = some (.int .u64 es) ∧ W.cell? ⟨w.heap.size, 2, none⟩ = some (.bool ed) ∧ W.cell? ⟨w.heap.size, 3, none⟩ = some (.string ev) ∧ W.cell? ⟨bA, oA + i * 4, none⟩ = some (.string ek) ∧ W.cell? ⟨bA, oA + i * 4 + 1, none⟩ = some (.int .u64 es) ∧ W.cell? ⟨bA, oA + i * 4 + 2, none⟩ = some (.bool ed) ∧ W.cell? ⟨bA, oA + i * 4 + 3, none⟩ = some (.string ev)) → (Goes (· = 8) T w4 T (W.setCell ⟨Bw, 0, none⟩ (.bool true)) ∧ KeepsOthers w4 (W.setCell ⟨Bw, 0, none⟩ (.bool true)) ∧ (W.setCell ⟨Bw, 0, none⟩ (.bool true)).cell? ⟨Bw, 0, none⟩ = some (.bool true) ∧ (W.setCell ⟨Bw, 0, none⟩ (.bool true)).frozen? ⟨Bw, 0, none⟩ = false ∧ (W.setCell ⟨Bw, 0, none⟩ (.bool true)).cell? ⟨Bn, 0, none⟩ = some (.int .i64 (i : Int)) ∧ (W.setCell ⟨Bw, 0, none⟩ (.bool true)).frozen? ⟨Bn, 0, none⟩ = false ∧ (W.setCell ⟨Bw, 0, none⟩ (.bool true)).cell? ⟨Ba, 0, none⟩ = some (.slice (some ⟨bA, oA, none⟩) n cA) ∧ (W.setCell ⟨Bw, 0, none⟩ (.bool true)).cell? ⟨Bp, 0, none⟩ = some (.slice aP nP cP) ∧ (W.setCell ⟨Bw, 0, none⟩ (.bool true)).cell? ⟨w.heap.size, 0, none⟩ = some (.string ek) ∧ (W.setCell ⟨Bw, 0, none⟩ (.bool true)).cell? ⟨w.heap.size, 1, none⟩ = some (.int .u64 es) ∧ (W.setCell ⟨Bw, 0, none⟩ (.bool true)).cell? ⟨w.heap.size, 2, none⟩ = some (.bool ed) ∧ (W.setCell ⟨Bw, 0, none⟩ (.bool true)).cell? ⟨w.heap.size, 3, none⟩ = some (.string ev) ∧ (W.setCell ⟨Bw, 0, none⟩ (.bool true)).cell? ⟨bA, oA + i * 4, none⟩ = some (.string ek) ∧ (W.setCell ⟨Bw, 0, none⟩ (.bool true)).cell? ⟨bA, oA + i * 4 + 1, none⟩ = some (.int .u64 es) ∧ (W.setCell ⟨Bw, 0, none⟩ (.bool true)).cell? ⟨bA, oA + i * 4 + 2, none⟩ = some (.bool ed) ∧ (W.setCell ⟨Bw, 0, none⟩ (.bool true)).cell? ⟨bA, oA + i * 4 + 3, none⟩ = some (.string ev))) := by
    rintro W ⟨x0, xk, x1, x2, x3, x4, x5, x6, x7, x8, x9, x10, x11, x12, x13, x14⟩
    obtain ⟨d1, d2, d3, d4, d5⟩ := HNE.out
    have ot : ∀ b j, b ≠ Bw → (W.setCell ⟨Bw, 0, none⟩ (.bool true)).cell? ⟨b, j, none⟩ = W.cell? ⟨b, j, none⟩ := fun b j hb => World.cell?_of_block (a := ⟨b, j, none⟩) (Below.heap_setCell _ _ _ _ hb)
    exact ⟨x0.trans (Goes.setCell tw), xk.trans (KeepsOthers.setCell _ _ _), World.cell?_setCell_same _ _ _ x1, by rw [World.frozen?_setCell]; exact x2, (ot _ _ d1).trans x3, by rw [World.frozen?_setCell]; exact x4, (ot _ _ d2).trans x5, (ot _ _ d3).trans x6, (ot _ _ d4).trans x7, (ot _ _ d4).trans x8, (ot _ _ d4).trans x9, (ot _ _ d4).trans x10, (ot _ _ d5).trans x11, (ot _ _ d5).trans x12, (ot _ _ d5).trans x13, (ot _ _ d5).trans x14⟩
  clear hil he HI4
  go_wp2
  go_region_held3 (fun W => Goes (· = 8) T w4 T W ∧ KeepsOthers w4 W ∧ W.cell? ⟨Bw, 0, none⟩ = some (.bool true) ∧ W.frozen? ⟨Bw, 0, none⟩ = false ∧ W.cell? ⟨Bn, 0, none⟩ = some (.int .i64 (i : Int)) ∧ W.frozen? ⟨Bn, 0, none⟩ = false ∧ W.cell? ⟨Ba, 0, none⟩ = some (.slice (some ⟨bA, oA, none⟩) n cA) ∧ W.cell? ⟨Bp, 0, none⟩ = some (.slice aP nP cP) ∧ W.cell? ⟨w.heap.size, 0, none⟩ = some (.string ek) ∧ W.cell? ⟨w.heap.size, 1, none⟩ = some (.int .u64 es) ∧ W.cell? ⟨w.heap.size, 2, none⟩ = some (.bool ed) ∧ W.cell? ⟨w.heap.size, 3, none⟩ = some (.string ev) ∧ W.cell? ⟨bA, oA + i * 4, none⟩ = some (.string ek) ∧ W.cell? ⟨bA, oA + i * 4 + 1, none⟩ = some (.int .u64 es) ∧ W.cell? ⟨bA, oA + i * 4 + 2, none⟩ = some (.bool ed) ∧ W.cell? ⟨bA, oA + i * 4 + 3, none⟩ = some (.string ev)) (first | assumption | exact HS0.out | exact HST.out _ hSY)
    (first
      | (go_at_call_of 29 (Value.slice aI n cI); refine (HSA.out _ HS0.out.1).mono ?_; rintro r wX ⟨rfl, nX, hX⟩; have hSX : Goes (· = 8) T w4 T wX ∧ KeepsOthers w4 wX ∧ wX.cell? ⟨Bw, 0, none⟩ = some (.bool true) ∧ wX.frozen? ⟨Bw, 0, none⟩ = false ∧ wX.cell? ⟨Bn, 0, none⟩ = some (.int .i64 (i : Int)) ∧ wX.frozen? ⟨Bn, 0, none⟩ = false ∧ wX.cell? ⟨Ba, 0, none⟩ = some (.slice (some ⟨bA, oA, none⟩) n cA) ∧ wX.cell? ⟨Bp, 0, none⟩ = some (.slice aP nP cP) ∧ wX.cell? ⟨w.heap.size, 0, none⟩ = some (.string ek) ∧ wX.cell? ⟨w.heap.size, 1, none⟩ = some (.int .u64 es) ∧ wX.cell? ⟨w.heap.size, 2, none⟩ = some (.bool ed) ∧ wX.cell? ⟨w.heap.size, 3, none⟩ = some (.string ev) ∧ wX.cell? ⟨bA, oA + i * 4, none⟩ = some (.string ek) ∧ wX.cell? ⟨bA, oA + i * 4 + 1, none⟩ = some (.int .u64 es) ∧ wX.cell? ⟨bA, oA + i * 4 + 2, none⟩ = some (.bool ed) ∧ wX.cell? ⟨bA, oA + i * 4 + 3, none⟩ = some (.string ev) := (by rw [hX]; exact HSD.out _ _ HS0.out); clear hX)
      | (go_at_call_of 29 (Value.slice aO nP cO); refine (HSP.out _ hSX.1).mono ?_; rintro r wY ⟨rfl, nY, hY⟩; have hSY : Goes (· = 8) T w4 T wY ∧ KeepsOthers w4 wY ∧ wY.cell? ⟨Bw, 0, none⟩ = some (.bool true) ∧ wY.frozen? ⟨Bw, 0, none⟩ = false ∧ wY.cell? ⟨Bn, 0, none⟩ = some (.int .i64 (i : Int)) ∧ wY.frozen? ⟨Bn, 0, none⟩ = false ∧ wY.cell? ⟨Ba, 0, none⟩ = some (.slice (some ⟨bA, oA, none⟩) n cA) ∧ wY.cell? ⟨Bp, 0, none⟩ = some (.slice aP nP cP) ∧ wY.cell? ⟨w.heap.size, 0, none⟩ = some (.string ek) ∧ wY.cell? ⟨w.heap.size, 1, none⟩ = some (.int .u64 es) ∧ wY.cell? ⟨w.heap.size, 2, none⟩ = some (.bool ed) ∧ wY.cell? ⟨w.heap.size, 3, none⟩ = some (.string ev) ∧ wY.cell? ⟨bA, oA + i * 4, none⟩ = some (.string ek) ∧ wY.cell? ⟨bA, oA + i * 4 + 1, none⟩ = some (.int .u64 es) ∧ wY.cell? ⟨bA, oA + i * 4 + 2, none⟩ = some (.bool ed) ∧ wY.cell? ⟨bA, oA + i * 4 + 3, none⟩ = some (.string ev) := (by rw [hY]; exact HSD.out _ _ hSX); have zf : wY.frozen? ⟨Bw, 0, none⟩ = false := hSY.2.2.2.1; clear hY))
  have HSZ : Hid _ := HST.out _ hSY
  have HW0 : Hid (Goes (· = 8) T w T w4 ∧ KeepsOthers w w4) := ⟨Goes.below HB4.out, keeps_below HB4.out⟩
  have q6 : IntKind.i64.wrap ((i : Int) + 1) = (i : Int) + 1 := IntWalk.i64_in _ (by omega)
  clear hSX hSY zf HS0 HSD HST HSA HSP HTA HF HF4 HG4 z1 z2 z3 z4 b0 b1 b2 b3 y0 y1 y2 y3 ca4 cp4 HB4 HWN hbA
  generalize wY.setCell ⟨Bw, 0, none⟩ (.bool true) = wZ at *
  obtain ⟨x0, xk, x1, x2, x3, x4, _⟩ := HSZ.out
  clear HSZ
  have x5 : (wZ.setCell ⟨Bn, 0, none⟩ (.int .i64 ((i : Int) + 1))).cell? ⟨Bw, 0, none⟩ = some (.bool true) := (World.cell?_of_block (a := ⟨Bw, 0, none⟩) (Below.heap_setCell _ _ _ _ hne)).trans x1
  have x6 : (wZ.setCell ⟨Bn, 0, none⟩ (.int .i64 ((i : Int) + 1))).cell? ⟨Bn, 0, none⟩ = some (.int .i64 ((i : Int) + 1)) := World.cell?_setCell_same _ _ _ x3
  have HX0 : Hid (Goes (· = 8) T w T (wZ.setCell ⟨Bn, 0, none⟩ (.int .i64 ((i : Int) + 1))) ∧ KeepsOthers w (wZ.setCell ⟨Bn, 0, none⟩ (.int .i64 ((i : Int) + 1)))) := ⟨(HW0.out.1.trans x0).trans (Goes.setCell tn), (HW0.out.2.trans xk).trans (KeepsOthers.setCell _ _ _)⟩
  go_wp2
  refine ⟨rfl, _, results_tmp Try.results35 _ _ _, rfl, HX0.out.1, HX0.out.2, x5, ?_, ?_, ?_⟩
  · rw [x6]; rfl
  · rw [World.frozen?_setCell]; exact x2
  · rw [World.frozen?_setCell]; exact x4
end Mem
end Go.Proofs.Ytkofopaejkabhaa
namespace Go.Proofs.Ytkofopaejkabhaa
namespace Mem
open Go.RowKit Laws Irw Erw KMath Skm Byt Sk Grp Crw
set_option linter.unusedVariables false
set_option maxRecDepth 100000
set_option linter.unusedSimpArgs false
variable {T T' : Nat → Nat} {w w' : World} {M L : Nat} {ds : List Nat} {ns : List Nd} {B Bf Bt Ba Bp : Nat} {aA : Option Addr} {cA : Nat} {aP : Option Addr} {cP n nP : Nat}
set_option maxHeartbeats 4000000 in
/-- MemFresh's own function, of the entry whose turn it is not -/
theorem fresh_no (h : Fx T w M L ds ns B Bf Bt Ba Bp aA cA aP cP n nP) (Bw Bn i : Nat) (hw : w.cell? ⟨Bw, 0, none⟩ = some (.bool true)) (hn : w.cell? ⟨Bn, 0, none⟩ = some (.int .i64 (i : Int))) (fw : w.frozen? ⟨Bw, 0, none⟩ = false) (fn : w.frozen? ⟨Bn, 0, none⟩ = false) (tw : T Bw = 8) (tn : T Bn = 8) (hne : Bw ≠ Bn) (hi : i < n) (e : En) (he : (ns.map Nd.e).getD i ez ≠ e) :
    Calls Try.prog 35 #[.agg #[.string e.1, .int .u64 e.2.1, .bool e.2.2.1, .string e.2.2.2], .pointer (some ⟨Bf, 0, none⟩), .pointer (some ⟨Bt, 0, none⟩), .pointer (some ⟨Bw, 0, none⟩), .pointer (some ⟨Bn, 0, none⟩), .pointer (some ⟨Ba, 0, none⟩), .pointer (some ⟨Bp, 0, none⟩)] w fun r w' => r = .returned (.bool false) ∧ KeepsOthers w w' := by
  have HF : Hid (Fx T w M L ds ns B Bf Bt Ba Bp aA cA aP cP n nP) := h
  have HB1 : Hid (Below w.heap.size w (w.alloc (.cells #[.string e.1, .int .u64 e.2.1, .bool e.2.2.1, .string e.2.2.2] 77))) := (Below.refl _ _).alloc (Nat.le_refl _) _
  have g1 : (w.alloc (.cells #[.string e.1, .int .u64 e.2.1, .bool e.2.2.1, .string e.2.2.2] 77)).heap[w.heap.size]? = some (.cells #[.string e.1, .int .u64 e.2.1, .bool e.2.2.1, .string e.2.2.2] 77) := World.alloc_heap_new _ _
  have HWN : Hid (w.cell? ⟨Bw, 0, none⟩ = some (.bool true) ∧ w.cell? ⟨Bn, 0, none⟩ = some (.int .i64 (i : Int)) ∧ w.frozen? ⟨Bw, 0, none⟩ = false ∧ w.frozen? ⟨Bn, 0, none⟩ = false ∧ Bw < w.heap.size ∧ Bn < w.heap.size) := ⟨hw, hn, fw, fn, World.block_lt_of_cell? w _ hw, World.block_lt_of_cell? w _ hn⟩
  have cf := (HF.out.below HB1.out).cf
  clear h hw hn fw fn
  go_enter Try.func35, Try.ntmps35
  generalize hW1 : w.alloc (.cells #[.string e.1, .int .u64 e.2.1, .bool e.2.2.1, .string e.2.2.2] 77) = W1 at *
  go_wp2_with fail
  try rw [hW1]
  refine (taken_memf (HF.out.below HB1.out).mt (B := B) (n := n) (by have := HF.out.l9; have := HF.out.ln; omega) HF.out.ln (HF.out.below HB1.out).k1 (HF.out.below HB1.out).k2 (HF.out.below HB1.out).k3).mono ?_
  rintro r w2 ⟨aI, cI, rfl, iI, fI, hb2⟩
  have HB2 : Hid (Below w.heap.size w w2) := HB1.out.trans (hb2.mono HB1.out.size)
  have HG2 : Hid (w2.heap[w.heap.size]? = some (.cells #[.string e.1, .int .u64 e.2.1, .bool e.2.2.1, .string e.2.2.2] 77)) := (hb2.block _ (Array.getElem?_eq_some_iff.1 g1).1).trans g1
  have HI2 : Hid (EA T w2 aI (ns.map Nd.e)) := EA.of iI fun b off e => HF.out.zero b (Nat.le_trans HB1.out.size (fI b off e))
  have ct2 := (HF.out.below HB2.out).ct
  clear iI fI hb2 hW1 g1 cf HB1
  go_wp2_with fail
  refine (from_mem M _ _ w2 (B := w2.heap.size) rfl).mono ?_
  rintro r w3 ⟨rfl, hb3, k1, k2, k3⟩
  have HB3 : Hid (Below w.heap.size w w3) := HB2.out.trans (hb3.mono HB2.out.size)
  have HG3 : Hid (w3.heap[w.heap.size]? = some (.cells #[.string e.1, .int .u64 e.2.1, .bool e.2.2.1, .string e.2.2.2] 77)) := (hb3.block _ (Array.getElem?_eq_some_iff.1 HG2.out).1).trans HG2.out
  have HI3 : Hid (EA T w3 aI (ns.map Nd.e)) := HI2.out.below hb3
  have HTA : Hid _ := mtaken_mem (HF.out.below HB3.out).mt (B := w2.heap.size) (n := nP) (by have := HF.out.l9; have := HF.out.ln; omega) (fun e => absurd ((HF.out.zero (w2.heap.size + 2) (Nat.le_trans HB2.out.size (Nat.le_add_right _ 2))).symm.trans e) (by decide)) HF.out.lp k1 k2 k3
  clear k1 k2 k3 hb3 HG2 HI2 ct2
  go_wp2_with fail
  refine Calls.mono HTA.out ?_
  rintro r w4 ⟨aO, cO, rfl, iO, fO, hb4⟩
  have HB4 : Hid (Below w.heap.size w w4) := HB3.out.trans (hb4.mono HB3.out.size)
  have HG4 : Hid (w4.heap[w.heap.size]? = some (.cells #[.string e.1, .int .u64 e.2.1, .bool e.2.2.1, .string e.2.2.2] 77)) := (hb4.block _ (Array.getElem?_eq_some_iff.1 HG3.out).1).trans HG3.out
  have HI4 : Hid (EA T w4 aI (ns.map Nd.e) ∧ EA T w4 aO (frm ⟨#[]⟩ 18446744073709551615 (ns.map Nd.e))) := ⟨HI3.out.below hb4, EA.of iO fun b off e => HF.out.zero b (Nat.le_trans HB3.out.size (fO b off e))⟩
  clear iO fO hb4 HTA HG3 HI3 HB3 HB2
  have HF4 : Hid (Fx T w4 M L ds ns B Bf Bt Ba Bp aA cA aP cP n nP) := HF.out.below HB4.out
  have hil : i < (ns.map Nd.e).length := by rw [List.length_map, HF.out.ln]; exact hi
  obtain ⟨bA, oA, rfl, hbA, y0, y1, y2, y3⟩ := SkipOrder.rd HF4.out.iA.isE hil
  generalize (ns.map Nd.e).getD i ez = f at *
  have HTA : Hid (T bA = 0) := by
    obtain ⟨b', o', e', _, t'⟩ := HF4.out.iA (List.ne_nil_of_length_pos (by omega))
    cases e'; exact t'
  obtain ⟨ek, es, ed, ev⟩ := e
  obtain ⟨fk, fs, fd, fv⟩ := f
  dsimp only at y0 y1 y2 y3 HG4 ⊢
  have b0 : w4.cell? ⟨w.heap.size, 0, none⟩ = some (.string ek) := by rw [cell_of_obj HG4.out]; rfl
  have b1 : w4.cell? ⟨w.heap.size, 1, none⟩ = some (.int .u64 es) := by rw [cell_of_obj HG4.out]; rfl
  have b2 : w4.cell? ⟨w.heap.size, 2, none⟩ = some (.bool ed) := by rw [cell_of_obj HG4.out]; rfl
  have b3 : w4.cell? ⟨w.heap.size, 3, none⟩ = some (.string ev) := by rw [cell_of_obj HG4.out]; rfl
  have z1 := (HB4.out.cell (p := ⟨Bw, 0, none⟩) HWN.out.2.2.2.2.1).trans HWN.out.1
  have z2 := (HB4.out.cell (p := ⟨Bn, 0, none⟩) HWN.out.2.2.2.2.2).trans HWN.out.2.1
  have z3 := (HB4.out.frozen (p := ⟨Bw, 0, none⟩) HWN.out.2.2.2.2.1).trans HWN.out.2.2.1
  have z4 := (HB4.out.frozen (p := ⟨Bn, 0, none⟩) HWN.out.2.2.2.2.2).trans HWN.out.2.2.2.1
  have ca4 := HF4.out.ca
  have cp4 := HF4.out.cp
  have q1 : (i : Int) < (n : Int) := by omega
  have q2 : (n : Int) ≤ 1000 := by have := HF.out.l9; omega
  have q3 : min (i : Int) ((n : Int) - 1) = (i : Int) := by omega
  have q4 : IntKind.i64.wrap ((n : Int) - 1) = (n : Int) - 1 := IntWalk.i64_in _ (by omega)
  have q5 : (0 : Int) ≤ (i : Int) := by omega
  clear hil HI4
  have HNE : Hid (Bn ≠ Bw ∧ Ba ≠ Bw ∧ Bp ≠ Bw ∧ w.heap.size ≠ Bw ∧ bA ≠ Bw) := by
    have := HWN.out.2.2.2.2.1
    obtain ⟨_, _, _, _, _, t6, t7⟩ := HF.out.tg
    refine ⟨fun e => hne e.symm, fun e => ?_, fun e => ?_, by omega, fun e => ?_⟩
    · rw [e] at t6; omega
    · rw [e] at t7; omega
    · have := HTA.out; rw [e] at this; omega
  have hcs : (¬ ek = fk) ∨ (ek = fk ∧ ¬ es = fs) ∨ (ek = fk ∧ es = fs ∧ ¬ ed = fd) ∨ (ek = fk ∧ es = fs ∧ ed = fd ∧ ¬ ev = fv) := by
    by_cases h1 : ek = fk
    · by_cases h2 : es = fs
      · by_cases h3 : ed = fd
        · exact .inr (.inr (.inr ⟨h1, h2, h3, fun h4 => he (by rw [h1, h2, h3, h4])⟩))
        · exact .inr (.inr (.inl ⟨h1, h2, h3⟩))
      · exact .inr (.inl ⟨h1, h2⟩)
    · exact .inl h1
  clear he
  have HSZ : Hid ((w4.setCell ⟨Bw, 0, none⟩ (.bool false)).drew.cell? ⟨Bn, 0, none⟩ = some (.int .i64 (i : Int)) ∧ (w4.setCell ⟨Bw, 0, none⟩ (.bool false)).drew.frozen? ⟨Bn, 0, none⟩ = false ∧ (w4.setCell ⟨Bw, 0, none⟩ (.bool false)).drew.cell? ⟨Bw, 0, none⟩ = some (.bool false) ∧ KeepsOthers w (w4.setCell ⟨Bw, 0, none⟩ (.bool false)).drew) := by
    refine ⟨(World.cell?_of_block (a := ⟨Bn, 0, none⟩) (Below.heap_setCell _ _ _ _ HNE.out.1)).trans z2, ?_, World.cell?_setCell_same _ _ _ z1, ((keeps_below HB4.out).trans (KeepsOthers.setCell _ _ _)).trans (KeepsOthers.drew _)⟩
    show (w4.setCell ⟨Bw, 0, none⟩ (.bool false)).frozen? ⟨Bn, 0, none⟩ = false
    rw [World.frozen?_setCell]; exact z4
  have q6 : IntKind.i64.wrap ((i : Int) + 1) = (i : Int) + 1 := IntWalk.i64_in _ (by omega)
  rcases hcs with hc | ⟨rfl, hc⟩ | ⟨rfl, rfl, hc⟩ | ⟨rfl, rfl, rfl, hc⟩
  · have hd1 : ¬ ek.toList = fk.toList := fun h => hc (by rw [ByteArray.toList_eq, ByteArray.toList_eq] at h; cases ek; cases fk; exact congrArg _ (Array.toList_inj.1 h))
    have hd2 : (ek.toList == fk.toList) = false := by simp [hd1]
    have hd3 : decide (ek.toList = fk.toList) = false := by simp [hd1]
    go_wp2
    go_big_region
    have hz : (w4.setCell ⟨Bw, 0, none⟩ (.bool false)).drew.cell? ⟨Bn, 0, none⟩ = some (.int .i64 (i : Int)) := HSZ.out.1
    have hz2 : (w4.setCell ⟨Bw, 0, none⟩ (.bool false)).drew.frozen? ⟨Bn, 0, none⟩ = false := HSZ.out.2.1
    have hz3 : (w4.setCell ⟨Bw, 0, none⟩ (.bool false)).drew.cell? ⟨Bw, 0, none⟩ = some (.bool false) := HSZ.out.2.2.1
    have HZK : Hid (KeepsOthers w (w4.setCell ⟨Bw, 0, none⟩ (.bool false)).drew) := HSZ.out.2.2.2
    clear HSZ
    generalize (w4.setCell ⟨Bw, 0, none⟩ (.bool false)).drew = wZ at *
    have hz5 : (wZ.setCell ⟨Bn, 0, none⟩ (.int .i64 ((i : Int) + 1))).cell? ⟨Bw, 0, none⟩ = some (.bool false) := (World.cell?_of_block (a := ⟨Bw, 0, none⟩) (Below.heap_setCell _ _ _ _ hne)).trans hz3
    have HZ2 : Hid (KeepsOthers w (wZ.setCell ⟨Bn, 0, none⟩ (.int .i64 ((i : Int) + 1)))) := HZK.out.trans (KeepsOthers.setCell _ _ _)
    go_wp2
    exact ⟨rfl, _, results_tmp Try.results35 _ _ _, rfl, HZ2.out⟩
  · have hd : decide (es = fs) = false := by simp [hc]
    go_wp2
    go_big_region
    have hz : (w4.setCell ⟨Bw, 0, none⟩ (.bool false)).drew.cell? ⟨Bn, 0, none⟩ = some (.int .i64 (i : Int)) := HSZ.out.1
    have hz2 : (w4.setCell ⟨Bw, 0, none⟩ (.bool false)).drew.frozen? ⟨Bn, 0, none⟩ = false := HSZ.out.2.1
    have hz3 : (w4.setCell ⟨Bw, 0, none⟩ (.bool false)).drew.cell? ⟨Bw, 0, none⟩ = some (.bool false) := HSZ.out.2.2.1
    have HZK : Hid (KeepsOthers w (w4.setCell ⟨Bw, 0, none⟩ (.bool false)).drew) := HSZ.out.2.2.2
    clear HSZ
    generalize (w4.setCell ⟨Bw, 0, none⟩ (.bool false)).drew = wZ at *
    have hz5 : (wZ.setCell ⟨Bn, 0, none⟩ (.int .i64 ((i : Int) + 1))).cell? ⟨Bw, 0, none⟩ = some (.bool false) := (World.cell?_of_block (a := ⟨Bw, 0, none⟩) (Below.heap_setCell _ _ _ _ hne)).trans hz3
    have HZ2 : Hid (KeepsOthers w (wZ.setCell ⟨Bn, 0, none⟩ (.int .i64 ((i : Int) + 1)))) := HZK.out.trans (KeepsOthers.setCell _ _ _)
    go_wp2
    exact ⟨rfl, _, results_tmp Try.results35 _ _ _, rfl, HZ2.out⟩
  · have hd : (ed == fd) = false := by cases ed <;> cases fd <;> simp_all
    go_wp2
    go_big_region
    have hz : (w4.setCell ⟨Bw, 0, none⟩ (.bool false)).drew.cell? ⟨Bn, 0, none⟩ = some (.int .i64 (i : Int)) := HSZ.out.1
    have hz2 : (w4.setCell ⟨Bw, 0, none⟩ (.bool false)).drew.frozen? ⟨Bn, 0, none⟩ = false := HSZ.out.2.1
    have hz3 : (w4.setCell ⟨Bw, 0, none⟩ (.bool false)).drew.cell? ⟨Bw, 0, none⟩ = some (.bool false) := HSZ.out.2.2.1
    have HZK : Hid (KeepsOthers w (w4.setCell ⟨Bw, 0, none⟩ (.bool false)).drew) := HSZ.out.2.2.2
    clear HSZ
    generalize (w4.setCell ⟨Bw, 0, none⟩ (.bool false)).drew = wZ at *
    have hz5 : (wZ.setCell ⟨Bn, 0, none⟩ (.int .i64 ((i : Int) + 1))).cell? ⟨Bw, 0, none⟩ = some (.bool false) := (World.cell?_of_block (a := ⟨Bw, 0, none⟩) (Below.heap_setCell _ _ _ _ hne)).trans hz3
    have HZ2 : Hid (KeepsOthers w (wZ.setCell ⟨Bn, 0, none⟩ (.int .i64 ((i : Int) + 1)))) := HZK.out.trans (KeepsOthers.setCell _ _ _)
    go_wp2
    exact ⟨rfl, _, results_tmp Try.results35 _ _ _, rfl, HZ2.out⟩
  · have hd1 : ¬ ev.toList = fv.toList := fun h => hc (by rw [ByteArray.toList_eq, ByteArray.toList_eq] at h; cases ev; cases fv; exact congrArg _ (Array.toList_inj.1 h))
    have hd2 : (ev.toList == fv.toList) = false := by simp [hd1]
    have hd3 : decide (ev.toList = fv.toList) = false := by simp [hd1]
    go_wp2
    go_big_region
    have hz : (w4.setCell ⟨Bw, 0, none⟩ (.bool false)).drew.cell? ⟨Bn, 0, none⟩ = some (.int .i64 (i : Int)) := HSZ.out.1
    have hz2 : (w4.setCell ⟨Bw, 0, none⟩ (.bool false)).drew.frozen? ⟨Bn, 0, none⟩ = false := HSZ.out.2.1
    have hz3 : (w4.setCell ⟨Bw, 0, none⟩ (.bool false)).drew.cell? ⟨Bw, 0, none⟩ = some (.bool false) := HSZ.out.2.2.1
    have HZK : Hid (KeepsOthers w (w4.setCell ⟨Bw, 0, none⟩ (.bool false)).drew) := HSZ.out.2.2.2
    clear HSZ
    generalize (w4.setCell ⟨Bw, 0, none⟩ (.bool false)).drew = wZ at *
    have hz5 : (wZ.setCell ⟨Bn, 0, none⟩ (.int .i64 ((i : Int) + 1))).cell? ⟨Bw, 0, none⟩ = some (.bool false) := (World.cell?_of_block (a := ⟨Bw, 0, none⟩) (Below.heap_setCell _ _ _ _ hne)).trans hz3
    have HZ2 : Hid (KeepsOthers w (wZ.setCell ⟨Bn, 0, none⟩ (.int .i64 ((i : Int) + 1)))) := HZK.out.trans (KeepsOthers.setCell _ _ _)
    go_wp2
    exact ⟨rfl, _, results_tmp Try.results35 _ _ _, rfl, HZ2.out⟩
end Mem
end Go.Proofs.Ytkofopaejkabhaa
