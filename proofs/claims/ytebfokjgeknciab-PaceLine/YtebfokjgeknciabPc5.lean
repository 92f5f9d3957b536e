import Derived.Test.YtebfokjgeknciabPc4
namespace Go.Proofs.Ytebfokjgeknciab
namespace Pcm
open Go.RowKit Laws Irw
set_option linter.unusedVariables false
set_option linter.unusedSimpArgs false
set_option maxRecDepth 20000

theorem row_newD (w : World) (l : List Int) (T : TypeId) (vs : Array Value) (h : vs.toList = cellsI l) : IRow (w.alloc (.cells vs T)).drew w.heap.size 0 l := row_new w l T vs h
theorem rcons {a : Int} {l : List Int} (ha : R64 a) (hl : ∀ x ∈ l, R64 x) : ∀ x ∈ a :: l, R64 x := by
  intro y hy
  rcases List.mem_cons.1 hy with rfl | hy
  · exact ha
  · exact hl y hy
theorem rnil : ∀ x ∈ ([] : List Int), R64 x := by simp
theorem sum3_any (W : World) (b : Nat) (x0 x1 x2 : Int) (h : IRow W b 0 [x0, x1, x2]) (h0 : R64 x0) (h1 : R64 x1) (h2 : R64 x2) :
    Calls Try.prog 40 #[.slice (some ⟨b, 0, none⟩) 3 3] W fun e w' => e = .returned (.int .i64 (ssum [x0, x1, x2])) ∧ Below W.heap.size W w' :=
  (sum_any b 0 3 3 _ W h rfl (by simp) (rcons h0 (rcons h1 (rcons h2 (rnil))))).mono fun e w' ⟨he, hw⟩ => ⟨he, by rw [hw]; exact Below.refl _ _⟩
theorem sum4_any (W : World) (b : Nat) (x0 x1 x2 x3 : Int) (h : IRow W b 0 [x0, x1, x2, x3]) (h0 : R64 x0) (h1 : R64 x1) (h2 : R64 x2) (h3 : R64 x3) :
    Calls Try.prog 40 #[.slice (some ⟨b, 0, none⟩) 4 4] W fun e w' => e = .returned (.int .i64 (ssum [x0, x1, x2, x3])) ∧ Below W.heap.size W w' :=
  (sum_any b 0 4 4 _ W h rfl (by simp) (rcons h0 (rcons h1 (rcons h2 (rcons h3 (rnil)))))).mono fun e w' ⟨he, hw⟩ => ⟨he, by rw [hw]; exact Below.refl _ _⟩
theorem sum5_any (W : World) (b : Nat) (x0 x1 x2 x3 x4 : Int) (h : IRow W b 0 [x0, x1, x2, x3, x4]) (h0 : R64 x0) (h1 : R64 x1) (h2 : R64 x2) (h3 : R64 x3) (h4 : R64 x4) :
    Calls Try.prog 40 #[.slice (some ⟨b, 0, none⟩) 5 5] W fun e w' => e = .returned (.int .i64 (ssum [x0, x1, x2, x3, x4])) ∧ Below W.heap.size W w' :=
  (sum_any b 0 5 5 _ W h rfl (by simp) (rcons h0 (rcons h1 (rcons h2 (rcons h3 (rcons h4 (rnil))))))).mono fun e w' ⟨he, hw⟩ => ⟨he, by rw [hw]; exact Below.refl _ _⟩
theorem sum6_any (W : World) (b : Nat) (x0 x1 x2 x3 x4 x5 : Int) (h : IRow W b 0 [x0, x1, x2, x3, x4, x5]) (h0 : R64 x0) (h1 : R64 x1) (h2 : R64 x2) (h3 : R64 x3) (h4 : R64 x4) (h5 : R64 x5) :
    Calls Try.prog 40 #[.slice (some ⟨b, 0, none⟩) 6 6] W fun e w' => e = .returned (.int .i64 (ssum [x0, x1, x2, x3, x4, x5])) ∧ Below W.heap.size W w' :=
  (sum_any b 0 6 6 _ W h rfl (by simp) (rcons h0 (rcons h1 (rcons h2 (rcons h3 (rcons h4 (rcons h5 (rnil)))))))).mono fun e w' ⟨he, hw⟩ => ⟨he, by rw [hw]; exact Below.refl _ _⟩
theorem plusB (a b : Int) (ha : R64 a) (hb : R64 b) (w : World) : Calls Try.prog 22 #[.int .i64 a, .int .i64 b] w fun e w' => e = .returned (.int .i64 (sadd a b)) ∧ Below w.heap.size w w' := (plus_any a b ha hb w).mono fun e w' ⟨he, hw⟩ => ⟨he, by rw [hw]; exact Below.refl _ _⟩
theorem timesB (a b : Int) (ha : R64 a) (hb : R64 b) (w : World) : Calls Try.prog 41 #[.int .i64 a, .int .i64 b] w fun e w' => e = .returned (.int .i64 (smul a b)) ∧ Below w.heap.size w w' := (times_any a b ha hb w).mono fun e w' ⟨he, hw⟩ => ⟨he, by rw [hw]; exact Below.refl _ _⟩

set_option maxHeartbeats 4000000 in
theorem fileCap_any (c : Cf) (hc : RC c) (h : Right c) (w : World) :
    Calls Try.prog 31 #[.agg (figA c)] w fun e w' => e = .returned (.int .i64 (pfile c)) ∧ Below w.heap.size w w' := by
  show Calls Try.prog 31 #[.agg #[.int .i64 (c 0), .int .i64 (c 2), .int .i64 (c 3), .int .i64 (c 4), .int .i64 (c 8), .int .i64 (c 9), .int .i64 (c 10), .int .i64 (c 11), .int .i64 (c 12), .int .i64 (c 16), .int .i64 (c 17), .int .i64 (c 19), .int .i64 (c 21), .int .i64 (c 22), .int .i64 (c 23), .int .i64 (c 26)]] w fun e w' => e = .returned (.int .i64 (pfile c)) ∧ Below w.heap.size w w'
  have HC := hid hc
  obtain ⟨a1, a2⟩ := h.o.h11
  have HD := hid (show 0 ≤ c 11 by omega)
  clear hc h
  go_enter Try.func31, Try.ntmps31
  go_wp2_with (first | (go_at_call 22; go_loud (refine (plus_any _ _ (by first | exact sadd_r _ _ | exact smul_r _ _ | exact ssum_r _ | exact HC.out _ | (have hq1 := HD.out; unfold R64; omega)) (by first | exact sadd_r _ _ | exact smul_r _ _ | exact ssum_r _ | exact HC.out _ | (have hq1 := HD.out; unfold R64; omega)) _).mono ?_; rintro e w' ⟨rfl, hw9⟩; have hw8 := hw9.symm; clear hw9; subst hw8)) | (go_at_call 41; go_loud (refine (times_any _ _ (by first | exact sadd_r _ _ | exact smul_r _ _ | exact ssum_r _ | exact HC.out _ | (have hq1 := HD.out; unfold R64; omega)) (by first | exact sadd_r _ _ | exact smul_r _ _ | exact ssum_r _ | exact HC.out _ | (have hq1 := HD.out; unfold R64; omega)) _).mono ?_; rintro e w' ⟨rfl, hw9⟩; have hw8 := hw9.symm; clear hw9; subst hw8)))
  go_ret
  exact ⟨rfl, (Below.refl _ _).alloc (Nat.le_refl _) _⟩

set_option maxHeartbeats 4000000 in
theorem debtCap_any (c : Cf) (hc : RC c) (h : Right c) (w : World) :
    Calls Try.prog 32 #[.agg (figA c)] w fun e w' => e = .returned (.int .i64 (pdebt c)) ∧ Below w.heap.size w w' := by
  show Calls Try.prog 32 #[.agg #[.int .i64 (c 0), .int .i64 (c 2), .int .i64 (c 3), .int .i64 (c 4), .int .i64 (c 8), .int .i64 (c 9), .int .i64 (c 10), .int .i64 (c 11), .int .i64 (c 12), .int .i64 (c 16), .int .i64 (c 17), .int .i64 (c 19), .int .i64 (c 21), .int .i64 (c 22), .int .i64 (c 23), .int .i64 (c 26)]] w fun e w' => e = .returned (.int .i64 (pdebt c)) ∧ Below w.heap.size w w'
  have HC := hid hc
  obtain ⟨a1, a2⟩ := h.h23
  have HD := hid (show 0 ≤ c 23 by omega)
  clear hc h
  go_enter Try.func32, Try.ntmps32
  go_wp2_with (first | (go_at_call 22; go_loud (refine (plus_any _ _ (by first | exact sadd_r _ _ | exact smul_r _ _ | exact ssum_r _ | exact HC.out _ | (have hq1 := HD.out; unfold R64; omega)) (by first | exact sadd_r _ _ | exact smul_r _ _ | exact ssum_r _ | exact HC.out _ | (have hq1 := HD.out; unfold R64; omega)) _).mono ?_; rintro e w' ⟨rfl, hw9⟩; have hw8 := hw9.symm; clear hw9; subst hw8)) | (go_at_call 41; go_loud (refine (times_any _ _ (by first | exact sadd_r _ _ | exact smul_r _ _ | exact ssum_r _ | exact HC.out _ | (have hq1 := HD.out; unfold R64; omega)) (by first | exact sadd_r _ _ | exact smul_r _ _ | exact ssum_r _ | exact HC.out _ | (have hq1 := HD.out; unfold R64; omega)) _).mono ?_; rintro e w' ⟨rfl, hw9⟩; have hw8 := hw9.symm; clear hw9; subst hw8)))
  go_ret
  exact ⟨rfl, (Below.refl _ _).alloc (Nat.le_refl _) _⟩

end Pcm
end Go.Proofs.Ytebfokjgeknciab
