import Derived.Test.YtebfokjgeknciabGreatDoorPc2
import Derived.Deep.Cut
import Derived.Deep.DeepCutAuto
import Derived.Deep.RegionLaw
import Derived.Deep.RegionWith
namespace Go.Proofs.YtebfokjgeknciabGreatDoor
namespace Pcm
open Go.RowKit Laws Irw
set_option linter.unusedVariables false
set_option linter.unusedSimpArgs false
set_option maxRecDepth 20000

set_option maxHeartbeats 2000000 in
theorem memCap_any (c : Cf) (hc : RC c) (w : World) :
    Calls Tryz.prog 55 #[.agg (figA c)] w fun e w' => e = .returned (.int .i64 (pmem c)) ∧ Below w.heap.size w w' := by
  show Calls Tryz.prog 55 #[.agg #[.int .i64 (c 0), .int .i64 (c 2), .int .i64 (c 3), .int .i64 (c 4), .int .i64 (c 8), .int .i64 (c 9), .int .i64 (c 10), .int .i64 (c 11), .int .i64 (c 12), .int .i64 (c 16), .int .i64 (c 17), .int .i64 (c 19), .int .i64 (c 21), .int .i64 (c 22), .int .i64 (c 23), .int .i64 (c 26)]] w fun e w' => e = .returned (.int .i64 (pmem c)) ∧ Below w.heap.size w w'
  have HC := hid hc
  clear hc
  go_enter Tryz.func55, Tryz.ntmps55
  go_wp2_with (go_at_call 61; refine (plus_any (wrap64 (c 3 - 1)) (max (c 21) 17408) (wrap_r _) (by have := HC.out 21; unfold R64 at *; omega) _).mono ?_; rintro e w' ⟨rfl, hw9⟩; have hw8 := hw9.symm; clear hw9; subst hw8)
  go_ret
  exact ⟨rfl, (Below.refl _ _).alloc (Nat.le_refl _) _⟩

end Pcm
end Go.Proofs.YtebfokjgeknciabGreatDoor
namespace Go.Proofs.YtebfokjgeknciabGreatDoor
namespace Pcm
open Go.RowKit Laws Irw
set_option linter.unusedVariables false
set_option linter.unusedSimpArgs false
set_option maxRecDepth 20000

/-- the figures lie there -/
def Fg (W : World) (B : Nat) (c : Cf) : Prop := W.cell? ⟨B, 0, none⟩ = some (.int .i64 (c 0)) ∧ W.cell? ⟨B, 1, none⟩ = some (.int .i64 (c 2)) ∧ W.cell? ⟨B, 2, none⟩ = some (.int .i64 (c 3)) ∧ W.cell? ⟨B, 3, none⟩ = some (.int .i64 (c 4)) ∧ W.cell? ⟨B, 4, none⟩ = some (.int .i64 (c 8)) ∧ W.cell? ⟨B, 5, none⟩ = some (.int .i64 (c 9)) ∧ W.cell? ⟨B, 6, none⟩ = some (.int .i64 (c 10)) ∧ W.cell? ⟨B, 7, none⟩ = some (.int .i64 (c 11)) ∧ W.cell? ⟨B, 8, none⟩ = some (.int .i64 (c 12)) ∧ W.cell? ⟨B, 9, none⟩ = some (.int .i64 (c 16)) ∧ W.cell? ⟨B, 10, none⟩ = some (.int .i64 (c 17)) ∧ W.cell? ⟨B, 11, none⟩ = some (.int .i64 (c 19)) ∧ W.cell? ⟨B, 12, none⟩ = some (.int .i64 (c 21)) ∧ W.cell? ⟨B, 13, none⟩ = some (.int .i64 (c 22)) ∧ W.cell? ⟨B, 14, none⟩ = some (.int .i64 (c 23)) ∧ W.cell? ⟨B, 15, none⟩ = some (.int .i64 (c 26))
theorem Fg.keep {W W' : World} {B : Nat} {c : Cf} (h : Fg W B c) (hz : B < W.heap.size) (hb : Below W.heap.size W W') : Fg W' B c := by
  have e : ∀ k, W'.cell? ⟨B, k, none⟩ = W.cell? ⟨B, k, none⟩ := fun k => hb.cell (p := ⟨B, k, none⟩) hz
  unfold Fg at *
  simp only [e]
  exact h
theorem fg_new (w : World) (c : Cf) (T : TypeId) : Fg (w.alloc (.cells #[.int .i64 (c 0), .int .i64 (c 2), .int .i64 (c 3), .int .i64 (c 4), .int .i64 (c 8), .int .i64 (c 9), .int .i64 (c 10), .int .i64 (c 11), .int .i64 (c 12), .int .i64 (c 16), .int .i64 (c 17), .int .i64 (c 19), .int .i64 (c 21), .int .i64 (c 22), .int .i64 (c 23), .int .i64 (c 26)] T)) w.heap.size c := by
  unfold Fg
  refine ⟨?_, ?_, ?_, ?_, ?_, ?_, ?_, ?_, ?_, ?_, ?_, ?_, ?_, ?_, ?_, ?_⟩ <;> (rw [World.cell?_alloc_at _ _ _ _ rfl]; rfl)
/-- they lie there in every world of a region that turns nothing from before -/
def Sg (W : World) (B : Nat) (c : Cf) (V : World) : Prop := V.cell? ⟨B, 0, none⟩ = some (.int .i64 (c 0)) ∧ V.cell? ⟨B, 1, none⟩ = some (.int .i64 (c 2)) ∧ V.cell? ⟨B, 2, none⟩ = some (.int .i64 (c 3)) ∧ V.cell? ⟨B, 3, none⟩ = some (.int .i64 (c 4)) ∧ V.cell? ⟨B, 4, none⟩ = some (.int .i64 (c 8)) ∧ V.cell? ⟨B, 5, none⟩ = some (.int .i64 (c 9)) ∧ V.cell? ⟨B, 6, none⟩ = some (.int .i64 (c 10)) ∧ V.cell? ⟨B, 7, none⟩ = some (.int .i64 (c 11)) ∧ V.cell? ⟨B, 8, none⟩ = some (.int .i64 (c 12)) ∧ V.cell? ⟨B, 9, none⟩ = some (.int .i64 (c 16)) ∧ V.cell? ⟨B, 10, none⟩ = some (.int .i64 (c 17)) ∧ V.cell? ⟨B, 11, none⟩ = some (.int .i64 (c 19)) ∧ V.cell? ⟨B, 12, none⟩ = some (.int .i64 (c 21)) ∧ V.cell? ⟨B, 13, none⟩ = some (.int .i64 (c 22)) ∧ V.cell? ⟨B, 14, none⟩ = some (.int .i64 (c 23)) ∧ V.cell? ⟨B, 15, none⟩ = some (.int .i64 (c 26)) ∧ Below W.heap.size W V
theorem Sg.mk {W V : World} {B : Nat} {c : Cf} (h : Fg W B c) (hz : B < W.heap.size) (hb : Below W.heap.size W V) : Sg W B c V := by
  obtain ⟨h0, h1, h2, h3, h4, h5, h6, h7, h8, h9, h10, h11, h12, h13, h14, h15⟩ := h.keep hz hb
  exact ⟨h0, h1, h2, h3, h4, h5, h6, h7, h8, h9, h10, h11, h12, h13, h14, h15, hb⟩
theorem Sg.below {W V : World} {B : Nat} {c : Cf} (h : Sg W B c V) : Below W.heap.size W V := by
  obtain ⟨h0, h1, h2, h3, h4, h5, h6, h7, h8, h9, h10, h11, h12, h13, h14, h15, hb⟩ := h
  exact hb
theorem Sg.start {W : World} {B : Nat} {c : Cf} (h : Fg W B c) (hz : B < W.heap.size) : Sg W B c W.drew := Sg.mk h hz (Below.refl _ _).drew
theorem Sg.call {W V V' : World} {B : Nat} {c : Cf} (h0 : Fg W B c) (hz : B < W.heap.size) (hb : Below V.heap.size V V') (h : Sg W B c V) : Sg W B c V' := Sg.mk h0 hz (h.below.trans (hb.mono h.below.size))
theorem Sg.alloc {W V : World} {B : Nat} {c : Cf} {x : Obj} (h0 : Fg W B c) (hz : B < W.heap.size) (h : Sg W B c V) : Sg W B c (V.alloc x) := Sg.mk h0 hz (h.below.alloc h.below.size _)
/-- numbers that were laid into a new list -/
theorem row_new (w : World) (l : List Int) (T : TypeId) (vs : Array Value) (h : vs.toList = cellsI l) : IRow (w.alloc (.cells vs T)) w.heap.size 0 l := by
  refine ⟨by simp, fun i x hx => ?_⟩
  rw [World.cell?_alloc_at _ _ _ _ rfl, Nat.zero_add, ← Array.getElem?_toList, h]
  exact cellsI_get hx

end Pcm
end Go.Proofs.YtebfokjgeknciabGreatDoor
namespace Go.Proofs.YtebfokjgeknciabGreatDoor
namespace Pcm
open Go.RowKit Laws Irw
set_option linter.unusedVariables false
set_option linter.unusedSimpArgs false
set_option maxRecDepth 20000

theorem row_newD (w : World) (l : List Int) (T : TypeId) (vs : Array Value) (h : vs.toList = cellsI l) : IRow (w.alloc (.cells vs T)).drew w.heap.size 0 l := row_new w l T vs h
theorem rcons {a : Int} {l : List Int} (ha : R64 a) (hl : ∀ x ∈ l, R64 x) : ∀ x ∈ a :: l, R64 x := by
  intro y hy
  rcases List.mem_cons.1 hy with rfl | hy
  · exact ha
  · exact hl y hy
theorem rnil : ∀ x ∈ ([] : List Int), R64 x := by simp
theorem sum3_any (W : World) (b : Nat) (x0 x1 x2 : Int) (h : IRow W b 0 [x0, x1, x2]) (h0 : R64 x0) (h1 : R64 x1) (h2 : R64 x2) :
    Calls Tryz.prog 130 #[.slice (some ⟨b, 0, none⟩) 3 3] W fun e w' => e = .returned (.int .i64 (ssum [x0, x1, x2])) ∧ Below W.heap.size W w' :=
  (sum_any b 0 3 3 _ W h rfl (by simp) (rcons h0 (rcons h1 (rcons h2 (rnil))))).mono fun e w' ⟨he, hw⟩ => ⟨he, by rw [hw]; exact Below.refl _ _⟩
theorem sum4_any (W : World) (b : Nat) (x0 x1 x2 x3 : Int) (h : IRow W b 0 [x0, x1, x2, x3]) (h0 : R64 x0) (h1 : R64 x1) (h2 : R64 x2) (h3 : R64 x3) :
    Calls Tryz.prog 130 #[.slice (some ⟨b, 0, none⟩) 4 4] W fun e w' => e = .returned (.int .i64 (ssum [x0, x1, x2, x3])) ∧ Below W.heap.size W w' :=
  (sum_any b 0 4 4 _ W h rfl (by simp) (rcons h0 (rcons h1 (rcons h2 (rcons h3 (rnil)))))).mono fun e w' ⟨he, hw⟩ => ⟨he, by rw [hw]; exact Below.refl _ _⟩
theorem sum5_any (W : World) (b : Nat) (x0 x1 x2 x3 x4 : Int) (h : IRow W b 0 [x0, x1, x2, x3, x4]) (h0 : R64 x0) (h1 : R64 x1) (h2 : R64 x2) (h3 : R64 x3) (h4 : R64 x4) :
    Calls Tryz.prog 130 #[.slice (some ⟨b, 0, none⟩) 5 5] W fun e w' => e = .returned (.int .i64 (ssum [x0, x1, x2, x3, x4])) ∧ Below W.heap.size W w' :=
  (sum_any b 0 5 5 _ W h rfl (by simp) (rcons h0 (rcons h1 (rcons h2 (rcons h3 (rcons h4 (rnil))))))).mono fun e w' ⟨he, hw⟩ => ⟨he, by rw [hw]; exact Below.refl _ _⟩
theorem sum6_any (W : World) (b : Nat) (x0 x1 x2 x3 x4 x5 : Int) (h : IRow W b 0 [x0, x1, x2, x3, x4, x5]) (h0 : R64 x0) (h1 : R64 x1) (h2 : R64 x2) (h3 : R64 x3) (h4 : R64 x4) (h5 : R64 x5) :
    Calls Tryz.prog 130 #[.slice (some ⟨b, 0, none⟩) 6 6] W fun e w' => e = .returned (.int .i64 (ssum [x0, x1, x2, x3, x4, x5])) ∧ Below W.heap.size W w' :=
  (sum_any b 0 6 6 _ W h rfl (by simp) (rcons h0 (rcons h1 (rcons h2 (rcons h3 (rcons h4 (rcons h5 (rnil)))))))).mono fun e w' ⟨he, hw⟩ => ⟨he, by rw [hw]; exact Below.refl _ _⟩
theorem plusB (a b : Int) (ha : R64 a) (hb : R64 b) (w : World) : Calls Tryz.prog 61 #[.int .i64 a, .int .i64 b] w fun e w' => e = .returned (.int .i64 (sadd a b)) ∧ Below w.heap.size w w' := (plus_any a b ha hb w).mono fun e w' ⟨he, hw⟩ => ⟨he, by rw [hw]; exact Below.refl _ _⟩
theorem timesB (a b : Int) (ha : R64 a) (hb : R64 b) (w : World) : Calls Tryz.prog 131 #[.int .i64 a, .int .i64 b] w fun e w' => e = .returned (.int .i64 (smul a b)) ∧ Below w.heap.size w w' := (times_any a b ha hb w).mono fun e w' ⟨he, hw⟩ => ⟨he, by rw [hw]; exact Below.refl _ _⟩

set_option maxHeartbeats 4000000 in
theorem fileCap_any (c : Cf) (hc : RC c) (h : Right c) (w : World) :
    Calls Tryz.prog 57 #[.agg (figA c)] w fun e w' => e = .returned (.int .i64 (pfile c)) ∧ Below w.heap.size w w' := by
  show Calls Tryz.prog 57 #[.agg #[.int .i64 (c 0), .int .i64 (c 2), .int .i64 (c 3), .int .i64 (c 4), .int .i64 (c 8), .int .i64 (c 9), .int .i64 (c 10), .int .i64 (c 11), .int .i64 (c 12), .int .i64 (c 16), .int .i64 (c 17), .int .i64 (c 19), .int .i64 (c 21), .int .i64 (c 22), .int .i64 (c 23), .int .i64 (c 26)]] w fun e w' => e = .returned (.int .i64 (pfile c)) ∧ Below w.heap.size w w'
  have HC := hid hc
  obtain ⟨a1, a2⟩ := h.o.h11
  have HD := hid (show 0 ≤ c 11 by omega)
  clear hc h
  go_enter Tryz.func57, Tryz.ntmps57
  go_wp2_with (first | (go_at_call 61; go_loud (refine (plus_any _ _ (by first | exact sadd_r _ _ | exact smul_r _ _ | exact ssum_r _ | exact HC.out _ | (have hq1 := HD.out; unfold R64; omega)) (by first | exact sadd_r _ _ | exact smul_r _ _ | exact ssum_r _ | exact HC.out _ | (have hq1 := HD.out; unfold R64; omega)) _).mono ?_; rintro e w' ⟨rfl, hw9⟩; have hw8 := hw9.symm; clear hw9; subst hw8)) | (go_at_call 131; go_loud (refine (times_any _ _ (by first | exact sadd_r _ _ | exact smul_r _ _ | exact ssum_r _ | exact HC.out _ | (have hq1 := HD.out; unfold R64; omega)) (by first | exact sadd_r _ _ | exact smul_r _ _ | exact ssum_r _ | exact HC.out _ | (have hq1 := HD.out; unfold R64; omega)) _).mono ?_; rintro e w' ⟨rfl, hw9⟩; have hw8 := hw9.symm; clear hw9; subst hw8)))
  go_ret
  exact ⟨rfl, (Below.refl _ _).alloc (Nat.le_refl _) _⟩

set_option maxHeartbeats 4000000 in
theorem debtCap_any (c : Cf) (hc : RC c) (h : Right c) (w : World) :
    Calls Tryz.prog 58 #[.agg (figA c)] w fun e w' => e = .returned (.int .i64 (pdebt c)) ∧ Below w.heap.size w w' := by
  show Calls Tryz.prog 58 #[.agg #[.int .i64 (c 0), .int .i64 (c 2), .int .i64 (c 3), .int .i64 (c 4), .int .i64 (c 8), .int .i64 (c 9), .int .i64 (c 10), .int .i64 (c 11), .int .i64 (c 12), .int .i64 (c 16), .int .i64 (c 17), .int .i64 (c 19), .int .i64 (c 21), .int .i64 (c 22), .int .i64 (c 23), .int .i64 (c 26)]] w fun e w' => e = .returned (.int .i64 (pdebt c)) ∧ Below w.heap.size w w'
  have HC := hid hc
  obtain ⟨a1, a2⟩ := h.h23
  have HD := hid (show 0 ≤ c 23 by omega)
  clear hc h
  go_enter Tryz.func58, Tryz.ntmps58
  go_wp2_with (first | (go_at_call 61; go_loud (refine (plus_any _ _ (by first | exact sadd_r _ _ | exact smul_r _ _ | exact ssum_r _ | exact HC.out _ | (have hq1 := HD.out; unfold R64; omega)) (by first | exact sadd_r _ _ | exact smul_r _ _ | exact ssum_r _ | exact HC.out _ | (have hq1 := HD.out; unfold R64; omega)) _).mono ?_; rintro e w' ⟨rfl, hw9⟩; have hw8 := hw9.symm; clear hw9; subst hw8)) | (go_at_call 131; go_loud (refine (times_any _ _ (by first | exact sadd_r _ _ | exact smul_r _ _ | exact ssum_r _ | exact HC.out _ | (have hq1 := HD.out; unfold R64; omega)) (by first | exact sadd_r _ _ | exact smul_r _ _ | exact ssum_r _ | exact HC.out _ | (have hq1 := HD.out; unfold R64; omega)) _).mono ?_; rintro e w' ⟨rfl, hw9⟩; have hw8 := hw9.symm; clear hw9; subst hw8)))
  go_ret
  exact ⟨rfl, (Below.refl _ _).alloc (Nat.le_refl _) _⟩

end Pcm
end Go.Proofs.YtebfokjgeknciabGreatDoor
namespace Go.Proofs.YtebfokjgeknciabGreatDoor
namespace Pcm
open Go.RowKit Laws Irw
set_option linter.unusedVariables false
set_option linter.unusedSimpArgs false
set_option maxRecDepth 20000

theorem wtd {a b : Int} (ha : 0 ≤ a) (hR : R64 a) (hb : 1 ≤ b) : IntKind.i64.wrap (a.tdiv b) = a / b := by
  rw [Int.tdiv_eq_ediv_of_nonneg ha]
  have h := div_le ha hb
  unfold R64 at hR
  exact IntWalk.i64_in _ (by omega)
/-- the numbers of a list's cells -/
def ints (vs : Array Value) : List Int := vs.toList.map intOf
theorem inil : ∀ x ∈ ([] : List Value).map intOf, R64 x := by simp
theorem icons {a : Int} {l : List Value} (ha : R64 a) (hl : ∀ x ∈ l.map intOf, R64 x) : ∀ x ∈ (Value.int .i64 a :: l).map intOf, R64 x := by
  intro y hy
  rw [List.map_cons] at hy
  rcases List.mem_cons.1 hy with rfl | hy
  · exact ha
  · exact hl y hy
theorem sumD_any (W : World) (T : TypeId) (vs : Array Value) (n : Nat) (hv : vs.toList = cellsI (ints vs)) (hn : n = (ints vs).length) (hr : ∀ x ∈ ints vs, R64 x) (hl : n ≤ 1000 := by decide) :
    Calls Tryz.prog 130 #[.slice (some ⟨W.heap.size, 0, none⟩) n n] (W.alloc (.cells vs T)).drew fun e w' => e = .returned (.int .i64 (ssum (ints vs))) ∧ Below (W.alloc (.cells vs T)).drew.heap.size (W.alloc (.cells vs T)).drew w' :=
  (sum_any W.heap.size 0 n n (ints vs) _ (row_newD W _ T vs hv) hn (by omega) hr).mono fun e w' ⟨he, hw⟩ => ⟨he, by rw [hw]; exact Below.refl _ _⟩
theorem sumN_any (W : World) (T : TypeId) (vs : Array Value) (n : Nat) (hv : vs.toList = cellsI (ints vs)) (hn : n = (ints vs).length) (hr : ∀ x ∈ ints vs, R64 x) (hl : n ≤ 1000 := by decide) :
    Calls Tryz.prog 130 #[.slice (some ⟨W.heap.size, 0, none⟩) n n] (W.alloc (.cells vs T)) fun e w' => e = .returned (.int .i64 (ssum (ints vs))) ∧ Below (W.alloc (.cells vs T)).heap.size (W.alloc (.cells vs T)) w' :=
  (sum_any W.heap.size 0 n n (ints vs) _ (row_new W _ T vs hv) hn (by omega) hr).mono fun e w' ⟨he, hw⟩ => ⟨he, by rw [hw]; exact Below.refl _ _⟩

end Pcm
end Go.Proofs.YtebfokjgeknciabGreatDoor
