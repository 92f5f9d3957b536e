import Derived.Test.YtebfokjgeknciaaPc5
namespace Go.Proofs.Ytebfokjgeknciaa
namespace Pcm
open Go.RowKit Laws Irw
set_option linter.unusedVariables false
set_option linter.unusedSimpArgs false
set_option maxRecDepth 20000

theorem wtd {a b : Int} (ha : 0 ≤ a) (hR : R64 a) (hb : 1 ≤ b) : IntKind.i64.wrap (a.tdiv b) = a / b := by
  rw [Int.tdiv_eq_ediv_of_nonneg ha]
  have h := div_le ha hb
  unfold R64 at hR
  exact IntWalk.i64_in _ (by omega)
/-- the numbers of a list's cells -/
def ints (vs : Array Value) : List Int := vs.toList.map intOf
theorem inil : ∀ x ∈ ([] : List Value).map intOf, R64 x := by simp
theorem icons {a : Int} {l : List Value} (ha : R64 a) (hl : ∀ x ∈ l.map intOf, R64 x) : ∀ x ∈ (Value.int .i64 a :: l).map intOf, R64 x := by
  intro y hy
  rw [List.map_cons] at hy
  rcases List.mem_cons.1 hy with rfl | hy
  · exact ha
  · exact hl y hy
theorem sumD_any (W : World) (T : TypeId) (vs : Array Value) (n : Nat) (hv : vs.toList = cellsI (ints vs)) (hn : n = (ints vs).length) (hr : ∀ x ∈ ints vs, R64 x) (hl : n ≤ 1000 := by decide) :
    Calls Try.prog 85 #[.slice (some ⟨W.heap.size, 0, none⟩) n n] (W.alloc (.cells vs T)).drew fun e w' => e = .returned (.int .i64 (ssum (ints vs))) ∧ Below (W.alloc (.cells vs T)).drew.heap.size (W.alloc (.cells vs T)).drew w' :=
  (sum_any W.heap.size 0 n n (ints vs) _ (row_newD W _ T vs hv) hn (by omega) hr).mono fun e w' ⟨he, hw⟩ => ⟨he, by rw [hw]; exact Below.refl _ _⟩
theorem sumN_any (W : World) (T : TypeId) (vs : Array Value) (n : Nat) (hv : vs.toList = cellsI (ints vs)) (hn : n = (ints vs).length) (hr : ∀ x ∈ ints vs, R64 x) (hl : n ≤ 1000 := by decide) :
    Calls Try.prog 85 #[.slice (some ⟨W.heap.size, 0, none⟩) n n] (W.alloc (.cells vs T)) fun e w' => e = .returned (.int .i64 (ssum (ints vs))) ∧ Below (W.alloc (.cells vs T)).heap.size (W.alloc (.cells vs T)) w' :=
  (sum_any W.heap.size 0 n n (ints vs) _ (row_new W _ T vs hv) hn (by omega) hr).mono fun e w' ⟨he, hw⟩ => ⟨he, by rw [hw]; exact Below.refl _ _⟩

set_option maxHeartbeats 8000000 in
theorem g_any (c : Cf) (hc : RC c) (h : Right c) (w : World) :
    Calls Try.prog 86 #[.agg (figA c)] w fun e w' => e = .returned (.int .i64 (pg c)) ∧ Below w.heap.size w w' := by
  show Calls Try.prog 86 #[.agg #[.int .i64 (c 0), .int .i64 (c 2), .int .i64 (c 3), .int .i64 (c 4), .int .i64 (c 8), .int .i64 (c 9), .int .i64 (c 10), .int .i64 (c 11), .int .i64 (c 12), .int .i64 (c 16), .int .i64 (c 17), .int .i64 (c 19), .int .i64 (c 21), .int .i64 (c 22), .int .i64 (c 23), .int .i64 (c 26)]] w fun e w' => e = .returned (.int .i64 (pg c)) ∧ Below w.heap.size w w'
  have HC := hid hc
  have HR := hid h
  obtain ⟨a1, a2⟩ := h.o.h16
  obtain ⟨b1, b2⟩ := h.o.h17
  have HD := hid (div_le (show 0 ≤ c 16 by omega) (show 1 ≤ c 17 by omega))
  have q0 : ¬ c 17 = 0 := by omega
  have q1 := wtd (show 0 ≤ c 16 by omega) (hc 16) (show 1 ≤ c 17 by omega)
  clear hc h
  go_enter Try.func86, Try.ntmps86
  go_wp2
  have hF : Fg (w.alloc (.cells #[.int .i64 (c 0), .int .i64 (c 2), .int .i64 (c 3), .int .i64 (c 4), .int .i64 (c 8), .int .i64 (c 9), .int .i64 (c 10), .int .i64 (c 11), .int .i64 (c 12), .int .i64 (c 16), .int .i64 (c 17), .int .i64 (c 19), .int .i64 (c 21), .int .i64 (c 22), .int .i64 (c 23), .int .i64 (c 26)] 71)) w.heap.size c := fg_new w c 71
  have HBW : Hid (Below w.heap.size w (w.alloc (.cells #[.int .i64 (c 0), .int .i64 (c 2), .int .i64 (c 3), .int .i64 (c 4), .int .i64 (c 8), .int .i64 (c 9), .int .i64 (c 10), .int .i64 (c 11), .int .i64 (c 12), .int .i64 (c 16), .int .i64 (c 17), .int .i64 (c 19), .int .i64 (c 21), .int .i64 (c 22), .int .i64 (c 23), .int .i64 (c 26)] 71))) := (Below.refl _ _).alloc (Nat.le_refl _) _
  have hz : w.heap.size < (w.alloc (.cells #[.int .i64 (c 0), .int .i64 (c 2), .int .i64 (c 3), .int .i64 (c 4), .int .i64 (c 8), .int .i64 (c 9), .int .i64 (c 10), .int .i64 (c 11), .int .i64 (c 12), .int .i64 (c 16), .int .i64 (c 17), .int .i64 (c 19), .int .i64 (c 21), .int .i64 (c 22), .int .i64 (c 23), .int .i64 (c 26)] 71)).heap.size := by simp
  generalize (w.alloc (.cells #[.int .i64 (c 0), .int .i64 (c 2), .int .i64 (c 3), .int .i64 (c 4), .int .i64 (c 8), .int .i64 (c 9), .int .i64 (c 10), .int .i64 (c 11), .int .i64 (c 12), .int .i64 (c 16), .int .i64 (c 17), .int .i64 (c 19), .int .i64 (c 21), .int .i64 (c 22), .int .i64 (c 23), .int .i64 (c 26)] 71)) = W at *
  go_region_held3 (fun V => V.cell? ⟨w.heap.size, 0, none⟩ = some (.int .i64 (c 0)) ∧ V.cell? ⟨w.heap.size, 1, none⟩ = some (.int .i64 (c 2)) ∧ V.cell? ⟨w.heap.size, 2, none⟩ = some (.int .i64 (c 3)) ∧ V.cell? ⟨w.heap.size, 3, none⟩ = some (.int .i64 (c 4)) ∧ V.cell? ⟨w.heap.size, 4, none⟩ = some (.int .i64 (c 8)) ∧ V.cell? ⟨w.heap.size, 5, none⟩ = some (.int .i64 (c 9)) ∧ V.cell? ⟨w.heap.size, 6, none⟩ = some (.int .i64 (c 10)) ∧ V.cell? ⟨w.heap.size, 7, none⟩ = some (.int .i64 (c 11)) ∧ V.cell? ⟨w.heap.size, 8, none⟩ = some (.int .i64 (c 12)) ∧ V.cell? ⟨w.heap.size, 9, none⟩ = some (.int .i64 (c 16)) ∧ V.cell? ⟨w.heap.size, 10, none⟩ = some (.int .i64 (c 17)) ∧ V.cell? ⟨w.heap.size, 11, none⟩ = some (.int .i64 (c 19)) ∧ V.cell? ⟨w.heap.size, 12, none⟩ = some (.int .i64 (c 21)) ∧ V.cell? ⟨w.heap.size, 13, none⟩ = some (.int .i64 (c 22)) ∧ V.cell? ⟨w.heap.size, 14, none⟩ = some (.int .i64 (c 23)) ∧ V.cell? ⟨w.heap.size, 15, none⟩ = some (.int .i64 (c 26)) ∧ Below W.heap.size W V) (first | assumption | exact Sg.start hF hz | exact Sg.call hF hz (by assumption) (by assumption) | exact Sg.alloc hF hz (by assumption))
    (first | (go_at_call 85; go_loud (first | (refine (sumD_any _ _ _ _ (by rfl) (by rfl) (by repeat (first | exact inil | refine icons (by first | exact sadd_r _ _ | exact smul_r _ _ | exact ssum_r _ | exact HC.out _ | (have hq1 := HD.out; unfold R64; omega)) ?_))).mono ?_; rintro e w9 ⟨rfl, hb9⟩) | (refine (sumN_any _ _ _ _ (by rfl) (by rfl) (by repeat (first | exact inil | refine icons (by first | exact sadd_r _ _ | exact smul_r _ _ | exact ssum_r _ | exact HC.out _ | (have hq1 := HD.out; unfold R64; omega)) ?_))).mono ?_; rintro e w9 ⟨rfl, hb9⟩))) | (go_at_call 47; go_loud (refine (plusB _ _ (by first | exact sadd_r _ _ | exact smul_r _ _ | exact ssum_r _ | exact HC.out _ | (have hq1 := HD.out; unfold R64; omega)) (by first | exact sadd_r _ _ | exact smul_r _ _ | exact ssum_r _ | exact HC.out _ | (have hq1 := HD.out; unfold R64; omega)) _).mono ?_; rintro e w9 ⟨rfl, hb9⟩)) | (go_at_call 48; go_loud (refine (timesB _ _ (by first | exact sadd_r _ _ | exact smul_r _ _ | exact ssum_r _ | exact HC.out _ | (have hq1 := HD.out; unfold R64; omega)) (by first | exact sadd_r _ _ | exact smul_r _ _ | exact ssum_r _ | exact HC.out _ | (have hq1 := HD.out; unfold R64; omega)) _).mono ?_; rintro e w9 ⟨rfl, hb9⟩)))
  have HBZ := hid (Sg.below (by assumption))
  go_wp2
  go_ret
  exact ⟨rfl, HBW.out.trans (HBZ.out.mono HBW.out.size)⟩

set_option maxHeartbeats 8000000 in
theorem j_any (c : Cf) (hc : RC c) (h : Right c) (w : World) :
    Calls Try.prog 91 #[.agg (figA c)] w fun e w' => e = .returned (.int .i64 (pj c)) ∧ Below w.heap.size w w' := by
  show Calls Try.prog 91 #[.agg #[.int .i64 (c 0), .int .i64 (c 2), .int .i64 (c 3), .int .i64 (c 4), .int .i64 (c 8), .int .i64 (c 9), .int .i64 (c 10), .int .i64 (c 11), .int .i64 (c 12), .int .i64 (c 16), .int .i64 (c 17), .int .i64 (c 19), .int .i64 (c 21), .int .i64 (c 22), .int .i64 (c 23), .int .i64 (c 26)]] w fun e w' => e = .returned (.int .i64 (pj c)) ∧ Below w.heap.size w w'
  have HC := hid hc
  have HR := hid h
  have HfileCapC : ∀ W, Calls Try.prog 57 #[.agg #[.int .i64 (c 0), .int .i64 (c 2), .int .i64 (c 3), .int .i64 (c 4), .int .i64 (c 8), .int .i64 (c 9), .int .i64 (c 10), .int .i64 (c 11), .int .i64 (c 12), .int .i64 (c 16), .int .i64 (c 17), .int .i64 (c 19), .int .i64 (c 21), .int .i64 (c 22), .int .i64 (c 23), .int .i64 (c 26)]] W fun e w' => e = .returned (.int .i64 (pfile c)) ∧ Below W.heap.size W w' := fun W => fileCap_any c HC.out HR.out W
  have HD := hid (show (0 : Int) ≤ 0 by omega)
  clear hc h
  go_enter Try.func91, Try.ntmps91
  go_wp2
  have hF : Fg (w.alloc (.cells #[.int .i64 (c 0), .int .i64 (c 2), .int .i64 (c 3), .int .i64 (c 4), .int .i64 (c 8), .int .i64 (c 9), .int .i64 (c 10), .int .i64 (c 11), .int .i64 (c 12), .int .i64 (c 16), .int .i64 (c 17), .int .i64 (c 19), .int .i64 (c 21), .int .i64 (c 22), .int .i64 (c 23), .int .i64 (c 26)] 71)) w.heap.size c := fg_new w c 71
  have HBW : Hid (Below w.heap.size w (w.alloc (.cells #[.int .i64 (c 0), .int .i64 (c 2), .int .i64 (c 3), .int .i64 (c 4), .int .i64 (c 8), .int .i64 (c 9), .int .i64 (c 10), .int .i64 (c 11), .int .i64 (c 12), .int .i64 (c 16), .int .i64 (c 17), .int .i64 (c 19), .int .i64 (c 21), .int .i64 (c 22), .int .i64 (c 23), .int .i64 (c 26)] 71))) := (Below.refl _ _).alloc (Nat.le_refl _) _
  have hz : w.heap.size < (w.alloc (.cells #[.int .i64 (c 0), .int .i64 (c 2), .int .i64 (c 3), .int .i64 (c 4), .int .i64 (c 8), .int .i64 (c 9), .int .i64 (c 10), .int .i64 (c 11), .int .i64 (c 12), .int .i64 (c 16), .int .i64 (c 17), .int .i64 (c 19), .int .i64 (c 21), .int .i64 (c 22), .int .i64 (c 23), .int .i64 (c 26)] 71)).heap.size := by simp
  generalize (w.alloc (.cells #[.int .i64 (c 0), .int .i64 (c 2), .int .i64 (c 3), .int .i64 (c 4), .int .i64 (c 8), .int .i64 (c 9), .int .i64 (c 10), .int .i64 (c 11), .int .i64 (c 12), .int .i64 (c 16), .int .i64 (c 17), .int .i64 (c 19), .int .i64 (c 21), .int .i64 (c 22), .int .i64 (c 23), .int .i64 (c 26)] 71)) = W at *
  go_region_held3 (fun V => V.cell? ⟨w.heap.size, 0, none⟩ = some (.int .i64 (c 0)) ∧ V.cell? ⟨w.heap.size, 1, none⟩ = some (.int .i64 (c 2)) ∧ V.cell? ⟨w.heap.size, 2, none⟩ = some (.int .i64 (c 3)) ∧ V.cell? ⟨w.heap.size, 3, none⟩ = some (.int .i64 (c 4)) ∧ V.cell? ⟨w.heap.size, 4, none⟩ = some (.int .i64 (c 8)) ∧ V.cell? ⟨w.heap.size, 5, none⟩ = some (.int .i64 (c 9)) ∧ V.cell? ⟨w.heap.size, 6, none⟩ = some (.int .i64 (c 10)) ∧ V.cell? ⟨w.heap.size, 7, none⟩ = some (.int .i64 (c 11)) ∧ V.cell? ⟨w.heap.size, 8, none⟩ = some (.int .i64 (c 12)) ∧ V.cell? ⟨w.heap.size, 9, none⟩ = some (.int .i64 (c 16)) ∧ V.cell? ⟨w.heap.size, 10, none⟩ = some (.int .i64 (c 17)) ∧ V.cell? ⟨w.heap.size, 11, none⟩ = some (.int .i64 (c 19)) ∧ V.cell? ⟨w.heap.size, 12, none⟩ = some (.int .i64 (c 21)) ∧ V.cell? ⟨w.heap.size, 13, none⟩ = some (.int .i64 (c 22)) ∧ V.cell? ⟨w.heap.size, 14, none⟩ = some (.int .i64 (c 23)) ∧ V.cell? ⟨w.heap.size, 15, none⟩ = some (.int .i64 (c 26)) ∧ Below W.heap.size W V) (first | assumption | exact Sg.start hF hz | exact Sg.call hF hz (by assumption) (by assumption) | exact Sg.alloc hF hz (by assumption))
    (first | (go_at_call 85; go_loud (first | (refine (sumD_any _ _ _ _ (by rfl) (by rfl) (by repeat (first | exact inil | refine icons (by first | exact sadd_r _ _ | exact smul_r _ _ | exact ssum_r _ | exact HC.out _ | (have hq1 := HD.out; unfold R64; omega)) ?_))).mono ?_; rintro e w9 ⟨rfl, hb9⟩) | (refine (sumN_any _ _ _ _ (by rfl) (by rfl) (by repeat (first | exact inil | refine icons (by first | exact sadd_r _ _ | exact smul_r _ _ | exact ssum_r _ | exact HC.out _ | (have hq1 := HD.out; unfold R64; omega)) ?_))).mono ?_; rintro e w9 ⟨rfl, hb9⟩))) | (go_at_call 47; go_loud (refine (plusB _ _ (by first | exact sadd_r _ _ | exact smul_r _ _ | exact ssum_r _ | exact HC.out _ | (have hq1 := HD.out; unfold R64; omega)) (by first | exact sadd_r _ _ | exact smul_r _ _ | exact ssum_r _ | exact HC.out _ | (have hq1 := HD.out; unfold R64; omega)) _).mono ?_; rintro e w9 ⟨rfl, hb9⟩)) | (go_at_call 48; go_loud (refine (timesB _ _ (by first | exact sadd_r _ _ | exact smul_r _ _ | exact ssum_r _ | exact HC.out _ | (have hq1 := HD.out; unfold R64; omega)) (by first | exact sadd_r _ _ | exact smul_r _ _ | exact ssum_r _ | exact HC.out _ | (have hq1 := HD.out; unfold R64; omega)) _).mono ?_; rintro e w9 ⟨rfl, hb9⟩)) | (go_at_call 57; go_loud (refine (HfileCapC _).mono ?_; rintro e w9 ⟨rfl, hb9⟩)))
  have HBZ := hid (Sg.below (by assumption))
  go_wp2
  go_ret
  exact ⟨rfl, HBW.out.trans (HBZ.out.mono HBW.out.size)⟩

set_option maxHeartbeats 8000000 in
theorem q_any (c : Cf) (hc : RC c) (h : Right c) (w : World) :
    Calls Try.prog 88 #[.agg (figA c)] w fun e w' => e = .returned (.int .i64 (pq c)) ∧ Below w.heap.size w w' := by
  show Calls Try.prog 88 #[.agg #[.int .i64 (c 0), .int .i64 (c 2), .int .i64 (c 3), .int .i64 (c 4), .int .i64 (c 8), .int .i64 (c 9), .int .i64 (c 10), .int .i64 (c 11), .int .i64 (c 12), .int .i64 (c 16), .int .i64 (c 17), .int .i64 (c 19), .int .i64 (c 21), .int .i64 (c 22), .int .i64 (c 23), .int .i64 (c 26)]] w fun e w' => e = .returned (.int .i64 (pq c)) ∧ Below w.heap.size w w'
  have HC := hid hc
  have HR := hid h
  obtain ⟨a1, a2⟩ := h.o.h22
  obtain ⟨b1, b2⟩ := h.o.h3
  have HD := hid (div_le (show 0 ≤ c 22 by omega) (show 1 ≤ c 3 by omega))
  have q0 : ¬ c 3 = 0 := by omega
  have q1 := wtd (show 0 ≤ c 22 by omega) (hc 22) (show 1 ≤ c 3 by omega)
  clear hc h
  go_enter Try.func88, Try.ntmps88
  go_wp2
  have hF : Fg (w.alloc (.cells #[.int .i64 (c 0), .int .i64 (c 2), .int .i64 (c 3), .int .i64 (c 4), .int .i64 (c 8), .int .i64 (c 9), .int .i64 (c 10), .int .i64 (c 11), .int .i64 (c 12), .int .i64 (c 16), .int .i64 (c 17), .int .i64 (c 19), .int .i64 (c 21), .int .i64 (c 22), .int .i64 (c 23), .int .i64 (c 26)] 71)) w.heap.size c := fg_new w c 71
  have HBW : Hid (Below w.heap.size w (w.alloc (.cells #[.int .i64 (c 0), .int .i64 (c 2), .int .i64 (c 3), .int .i64 (c 4), .int .i64 (c 8), .int .i64 (c 9), .int .i64 (c 10), .int .i64 (c 11), .int .i64 (c 12), .int .i64 (c 16), .int .i64 (c 17), .int .i64 (c 19), .int .i64 (c 21), .int .i64 (c 22), .int .i64 (c 23), .int .i64 (c 26)] 71))) := (Below.refl _ _).alloc (Nat.le_refl _) _
  have hz : w.heap.size < (w.alloc (.cells #[.int .i64 (c 0), .int .i64 (c 2), .int .i64 (c 3), .int .i64 (c 4), .int .i64 (c 8), .int .i64 (c 9), .int .i64 (c 10), .int .i64 (c 11), .int .i64 (c 12), .int .i64 (c 16), .int .i64 (c 17), .int .i64 (c 19), .int .i64 (c 21), .int .i64 (c 22), .int .i64 (c 23), .int .i64 (c 26)] 71)).heap.size := by simp
  generalize (w.alloc (.cells #[.int .i64 (c 0), .int .i64 (c 2), .int .i64 (c 3), .int .i64 (c 4), .int .i64 (c 8), .int .i64 (c 9), .int .i64 (c 10), .int .i64 (c 11), .int .i64 (c 12), .int .i64 (c 16), .int .i64 (c 17), .int .i64 (c 19), .int .i64 (c 21), .int .i64 (c 22), .int .i64 (c 23), .int .i64 (c 26)] 71)) = W at *
  go_region_held3 (fun V => V.cell? ⟨w.heap.size, 0, none⟩ = some (.int .i64 (c 0)) ∧ V.cell? ⟨w.heap.size, 1, none⟩ = some (.int .i64 (c 2)) ∧ V.cell? ⟨w.heap.size, 2, none⟩ = some (.int .i64 (c 3)) ∧ V.cell? ⟨w.heap.size, 3, none⟩ = some (.int .i64 (c 4)) ∧ V.cell? ⟨w.heap.size, 4, none⟩ = some (.int .i64 (c 8)) ∧ V.cell? ⟨w.heap.size, 5, none⟩ = some (.int .i64 (c 9)) ∧ V.cell? ⟨w.heap.size, 6, none⟩ = some (.int .i64 (c 10)) ∧ V.cell? ⟨w.heap.size, 7, none⟩ = some (.int .i64 (c 11)) ∧ V.cell? ⟨w.heap.size, 8, none⟩ = some (.int .i64 (c 12)) ∧ V.cell? ⟨w.heap.size, 9, none⟩ = some (.int .i64 (c 16)) ∧ V.cell? ⟨w.heap.size, 10, none⟩ = some (.int .i64 (c 17)) ∧ V.cell? ⟨w.heap.size, 11, none⟩ = some (.int .i64 (c 19)) ∧ V.cell? ⟨w.heap.size, 12, none⟩ = some (.int .i64 (c 21)) ∧ V.cell? ⟨w.heap.size, 13, none⟩ = some (.int .i64 (c 22)) ∧ V.cell? ⟨w.heap.size, 14, none⟩ = some (.int .i64 (c 23)) ∧ V.cell? ⟨w.heap.size, 15, none⟩ = some (.int .i64 (c 26)) ∧ Below W.heap.size W V) (first | assumption | exact Sg.start hF hz | exact Sg.call hF hz (by assumption) (by assumption) | exact Sg.alloc hF hz (by assumption))
    (first | (go_at_call 85; go_loud (first | (refine (sumD_any _ _ _ _ (by rfl) (by rfl) (by repeat (first | exact inil | refine icons (by first | exact sadd_r _ _ | exact smul_r _ _ | exact ssum_r _ | exact HC.out _ | (have hq1 := HD.out; unfold R64; omega)) ?_))).mono ?_; rintro e w9 ⟨rfl, hb9⟩) | (refine (sumN_any _ _ _ _ (by rfl) (by rfl) (by repeat (first | exact inil | refine icons (by first | exact sadd_r _ _ | exact smul_r _ _ | exact ssum_r _ | exact HC.out _ | (have hq1 := HD.out; unfold R64; omega)) ?_))).mono ?_; rintro e w9 ⟨rfl, hb9⟩))) | (go_at_call 47; go_loud (refine (plusB _ _ (by first | exact sadd_r _ _ | exact smul_r _ _ | exact ssum_r _ | exact HC.out _ | (have hq1 := HD.out; unfold R64; omega)) (by first | exact sadd_r _ _ | exact smul_r _ _ | exact ssum_r _ | exact HC.out _ | (have hq1 := HD.out; unfold R64; omega)) _).mono ?_; rintro e w9 ⟨rfl, hb9⟩)) | (go_at_call 48; go_loud (refine (timesB _ _ (by first | exact sadd_r _ _ | exact smul_r _ _ | exact ssum_r _ | exact HC.out _ | (have hq1 := HD.out; unfold R64; omega)) (by first | exact sadd_r _ _ | exact smul_r _ _ | exact ssum_r _ | exact HC.out _ | (have hq1 := HD.out; unfold R64; omega)) _).mono ?_; rintro e w9 ⟨rfl, hb9⟩)))
  have HBZ := hid (Sg.below (by assumption))
  go_wp2
  go_ret
  exact ⟨rfl, HBW.out.trans (HBZ.out.mono HBW.out.size)⟩

set_option maxHeartbeats 8000000 in
theorem n_any (c : Cf) (hc : RC c) (h : Right c) (x : Int) (hx : 0 ≤ x) (hxr : R64 x) (w : World) :
    Calls Try.prog 90 #[.agg (figA c), .int .i64 x] w fun e w' => e = .returned (.int .i64 (pn c x)) ∧ Below w.heap.size w w' := by
  show Calls Try.prog 90 #[.agg #[.int .i64 (c 0), .int .i64 (c 2), .int .i64 (c 3), .int .i64 (c 4), .int .i64 (c 8), .int .i64 (c 9), .int .i64 (c 10), .int .i64 (c 11), .int .i64 (c 12), .int .i64 (c 16), .int .i64 (c 17), .int .i64 (c 19), .int .i64 (c 21), .int .i64 (c 22), .int .i64 (c 23), .int .i64 (c 26)], .int .i64 x] w fun e w' => e = .returned (.int .i64 (pn c x)) ∧ Below w.heap.size w w'
  have HC := hid hc
  have HR := hid h
  have HX := hid hxr
  have HX0 := hid hx
  have HD := hid hxr
  unfold R64 at HD
  clear hc h
  go_enter Try.func90, Try.ntmps90
  go_wp2
  have hF : Fg (w.alloc (.cells #[.int .i64 (c 0), .int .i64 (c 2), .int .i64 (c 3), .int .i64 (c 4), .int .i64 (c 8), .int .i64 (c 9), .int .i64 (c 10), .int .i64 (c 11), .int .i64 (c 12), .int .i64 (c 16), .int .i64 (c 17), .int .i64 (c 19), .int .i64 (c 21), .int .i64 (c 22), .int .i64 (c 23), .int .i64 (c 26)] 71)) w.heap.size c := fg_new w c 71
  have HBW : Hid (Below w.heap.size w (w.alloc (.cells #[.int .i64 (c 0), .int .i64 (c 2), .int .i64 (c 3), .int .i64 (c 4), .int .i64 (c 8), .int .i64 (c 9), .int .i64 (c 10), .int .i64 (c 11), .int .i64 (c 12), .int .i64 (c 16), .int .i64 (c 17), .int .i64 (c 19), .int .i64 (c 21), .int .i64 (c 22), .int .i64 (c 23), .int .i64 (c 26)] 71))) := (Below.refl _ _).alloc (Nat.le_refl _) _
  have hz : w.heap.size < (w.alloc (.cells #[.int .i64 (c 0), .int .i64 (c 2), .int .i64 (c 3), .int .i64 (c 4), .int .i64 (c 8), .int .i64 (c 9), .int .i64 (c 10), .int .i64 (c 11), .int .i64 (c 12), .int .i64 (c 16), .int .i64 (c 17), .int .i64 (c 19), .int .i64 (c 21), .int .i64 (c 22), .int .i64 (c 23), .int .i64 (c 26)] 71)).heap.size := by simp
  generalize (w.alloc (.cells #[.int .i64 (c 0), .int .i64 (c 2), .int .i64 (c 3), .int .i64 (c 4), .int .i64 (c 8), .int .i64 (c 9), .int .i64 (c 10), .int .i64 (c 11), .int .i64 (c 12), .int .i64 (c 16), .int .i64 (c 17), .int .i64 (c 19), .int .i64 (c 21), .int .i64 (c 22), .int .i64 (c 23), .int .i64 (c 26)] 71)) = W at *
  go_region_held3 (fun V => V.cell? ⟨w.heap.size, 0, none⟩ = some (.int .i64 (c 0)) ∧ V.cell? ⟨w.heap.size, 1, none⟩ = some (.int .i64 (c 2)) ∧ V.cell? ⟨w.heap.size, 2, none⟩ = some (.int .i64 (c 3)) ∧ V.cell? ⟨w.heap.size, 3, none⟩ = some (.int .i64 (c 4)) ∧ V.cell? ⟨w.heap.size, 4, none⟩ = some (.int .i64 (c 8)) ∧ V.cell? ⟨w.heap.size, 5, none⟩ = some (.int .i64 (c 9)) ∧ V.cell? ⟨w.heap.size, 6, none⟩ = some (.int .i64 (c 10)) ∧ V.cell? ⟨w.heap.size, 7, none⟩ = some (.int .i64 (c 11)) ∧ V.cell? ⟨w.heap.size, 8, none⟩ = some (.int .i64 (c 12)) ∧ V.cell? ⟨w.heap.size, 9, none⟩ = some (.int .i64 (c 16)) ∧ V.cell? ⟨w.heap.size, 10, none⟩ = some (.int .i64 (c 17)) ∧ V.cell? ⟨w.heap.size, 11, none⟩ = some (.int .i64 (c 19)) ∧ V.cell? ⟨w.heap.size, 12, none⟩ = some (.int .i64 (c 21)) ∧ V.cell? ⟨w.heap.size, 13, none⟩ = some (.int .i64 (c 22)) ∧ V.cell? ⟨w.heap.size, 14, none⟩ = some (.int .i64 (c 23)) ∧ V.cell? ⟨w.heap.size, 15, none⟩ = some (.int .i64 (c 26)) ∧ Below W.heap.size W V) (first | assumption | exact Sg.start hF hz | exact Sg.call hF hz (by assumption) (by assumption) | exact Sg.alloc hF hz (by assumption))
    (first | (go_at_call 85; go_loud (first | (refine (sumD_any _ _ _ _ (by rfl) (by rfl) (by repeat (first | exact inil | refine icons (by first | exact sadd_r _ _ | exact smul_r _ _ | exact ssum_r _ | exact HC.out _ | (have hq1 := HD.out; unfold R64; omega)) ?_))).mono ?_; rintro e w9 ⟨rfl, hb9⟩) | (refine (sumN_any _ _ _ _ (by rfl) (by rfl) (by repeat (first | exact inil | refine icons (by first | exact sadd_r _ _ | exact smul_r _ _ | exact ssum_r _ | exact HC.out _ | (have hq1 := HD.out; unfold R64; omega)) ?_))).mono ?_; rintro e w9 ⟨rfl, hb9⟩))) | (go_at_call 47; go_loud (refine (plusB _ _ (by first | exact sadd_r _ _ | exact smul_r _ _ | exact ssum_r _ | exact HC.out _ | (have hq1 := HD.out; unfold R64; omega)) (by first | exact sadd_r _ _ | exact smul_r _ _ | exact ssum_r _ | exact HC.out _ | (have hq1 := HD.out; unfold R64; omega)) _).mono ?_; rintro e w9 ⟨rfl, hb9⟩)) | (go_at_call 48; go_loud (refine (timesB _ _ (by first | exact sadd_r _ _ | exact smul_r _ _ | exact ssum_r _ | exact HC.out _ | (have hq1 := HD.out; unfold R64; omega)) (by first | exact sadd_r _ _ | exact smul_r _ _ | exact ssum_r _ | exact HC.out _ | (have hq1 := HD.out; unfold R64; omega)) _).mono ?_; rintro e w9 ⟨rfl, hb9⟩)))
  have HBZ := hid (Sg.below (by assumption))
  go_wp2
  go_ret
  exact ⟨rfl, HBW.out.trans (HBZ.out.mono HBW.out.size)⟩

set_option maxHeartbeats 8000000 in
theorem d_any (c : Cf) (hc : RC c) (h : Right c) (x : Int) (hx : 0 ≤ x) (hxr : R64 x) (w : World) :
    Calls Try.prog 99 #[.agg (figA c), .int .i64 x] w fun e w' => e = .returned (.int .i64 (pd c x)) ∧ Below w.heap.size w w' := by
  show Calls Try.prog 99 #[.agg #[.int .i64 (c 0), .int .i64 (c 2), .int .i64 (c 3), .int .i64 (c 4), .int .i64 (c 8), .int .i64 (c 9), .int .i64 (c 10), .int .i64 (c 11), .int .i64 (c 12), .int .i64 (c 16), .int .i64 (c 17), .int .i64 (c 19), .int .i64 (c 21), .int .i64 (c 22), .int .i64 (c 23), .int .i64 (c 26)], .int .i64 x] w fun e w' => e = .returned (.int .i64 (pd c x)) ∧ Below w.heap.size w w'
  have HC := hid hc
  have HR := hid h
  have HdebtCapC : ∀ W, Calls Try.prog 58 #[.agg #[.int .i64 (c 0), .int .i64 (c 2), .int .i64 (c 3), .int .i64 (c 4), .int .i64 (c 8), .int .i64 (c 9), .int .i64 (c 10), .int .i64 (c 11), .int .i64 (c 12), .int .i64 (c 16), .int .i64 (c 17), .int .i64 (c 19), .int .i64 (c 21), .int .i64 (c 22), .int .i64 (c 23), .int .i64 (c 26)]] W fun e w' => e = .returned (.int .i64 (pdebt c)) ∧ Below W.heap.size W w' := fun W => debtCap_any c HC.out HR.out W
  have HX := hid hxr
  have HX0 := hid hx
  obtain ⟨a1, a2⟩ := h.o.h0
  have HD := hid hxr
  unfold R64 at HD
  have q1 : IntKind.i64.wrap (c 0 - 1) = c 0 - 1 := IntWalk.i64_in _ (by omega)
  have HD1 := hid (show 0 ≤ c 0 - 1 ∧ c 0 - 1 ≤ 8 by omega)
  clear hc h
  go_enter Try.func99, Try.ntmps99
  go_wp2
  have hF : Fg (w.alloc (.cells #[.int .i64 (c 0), .int .i64 (c 2), .int .i64 (c 3), .int .i64 (c 4), .int .i64 (c 8), .int .i64 (c 9), .int .i64 (c 10), .int .i64 (c 11), .int .i64 (c 12), .int .i64 (c 16), .int .i64 (c 17), .int .i64 (c 19), .int .i64 (c 21), .int .i64 (c 22), .int .i64 (c 23), .int .i64 (c 26)] 71)) w.heap.size c := fg_new w c 71
  have HBW : Hid (Below w.heap.size w (w.alloc (.cells #[.int .i64 (c 0), .int .i64 (c 2), .int .i64 (c 3), .int .i64 (c 4), .int .i64 (c 8), .int .i64 (c 9), .int .i64 (c 10), .int .i64 (c 11), .int .i64 (c 12), .int .i64 (c 16), .int .i64 (c 17), .int .i64 (c 19), .int .i64 (c 21), .int .i64 (c 22), .int .i64 (c 23), .int .i64 (c 26)] 71))) := (Below.refl _ _).alloc (Nat.le_refl _) _
  have hz : w.heap.size < (w.alloc (.cells #[.int .i64 (c 0), .int .i64 (c 2), .int .i64 (c 3), .int .i64 (c 4), .int .i64 (c 8), .int .i64 (c 9), .int .i64 (c 10), .int .i64 (c 11), .int .i64 (c 12), .int .i64 (c 16), .int .i64 (c 17), .int .i64 (c 19), .int .i64 (c 21), .int .i64 (c 22), .int .i64 (c 23), .int .i64 (c 26)] 71)).heap.size := by simp
  generalize (w.alloc (.cells #[.int .i64 (c 0), .int .i64 (c 2), .int .i64 (c 3), .int .i64 (c 4), .int .i64 (c 8), .int .i64 (c 9), .int .i64 (c 10), .int .i64 (c 11), .int .i64 (c 12), .int .i64 (c 16), .int .i64 (c 17), .int .i64 (c 19), .int .i64 (c 21), .int .i64 (c 22), .int .i64 (c 23), .int .i64 (c 26)] 71)) = W at *
  go_region_held3 (fun V => V.cell? ⟨w.heap.size, 0, none⟩ = some (.int .i64 (c 0)) ∧ V.cell? ⟨w.heap.size, 1, none⟩ = some (.int .i64 (c 2)) ∧ V.cell? ⟨w.heap.size, 2, none⟩ = some (.int .i64 (c 3)) ∧ V.cell? ⟨w.heap.size, 3, none⟩ = some (.int .i64 (c 4)) ∧ V.cell? ⟨w.heap.size, 4, none⟩ = some (.int .i64 (c 8)) ∧ V.cell? ⟨w.heap.size, 5, none⟩ = some (.int .i64 (c 9)) ∧ V.cell? ⟨w.heap.size, 6, none⟩ = some (.int .i64 (c 10)) ∧ V.cell? ⟨w.heap.size, 7, none⟩ = some (.int .i64 (c 11)) ∧ V.cell? ⟨w.heap.size, 8, none⟩ = some (.int .i64 (c 12)) ∧ V.cell? ⟨w.heap.size, 9, none⟩ = some (.int .i64 (c 16)) ∧ V.cell? ⟨w.heap.size, 10, none⟩ = some (.int .i64 (c 17)) ∧ V.cell? ⟨w.heap.size, 11, none⟩ = some (.int .i64 (c 19)) ∧ V.cell? ⟨w.heap.size, 12, none⟩ = some (.int .i64 (c 21)) ∧ V.cell? ⟨w.heap.size, 13, none⟩ = some (.int .i64 (c 22)) ∧ V.cell? ⟨w.heap.size, 14, none⟩ = some (.int .i64 (c 23)) ∧ V.cell? ⟨w.heap.size, 15, none⟩ = some (.int .i64 (c 26)) ∧ Below W.heap.size W V) (first | assumption | exact Sg.start hF hz | exact Sg.call hF hz (by assumption) (by assumption) | exact Sg.alloc hF hz (by assumption))
    (first | (go_at_call 85; go_loud (first | (refine (sumD_any _ _ _ _ (by rfl) (by rfl) (by repeat (first | exact inil | refine icons (by first | exact sadd_r _ _ | exact smul_r _ _ | exact ssum_r _ | exact HC.out _ | (have hq1 := HD.out; unfold R64; omega)) ?_))).mono ?_; rintro e w9 ⟨rfl, hb9⟩) | (refine (sumN_any _ _ _ _ (by rfl) (by rfl) (by repeat (first | exact inil | refine icons (by first | exact sadd_r _ _ | exact smul_r _ _ | exact ssum_r _ | exact HC.out _ | (have hq1 := HD.out; unfold R64; omega)) ?_))).mono ?_; rintro e w9 ⟨rfl, hb9⟩))) | (go_at_call 47; go_loud (refine (plusB _ _ (by first | exact sadd_r _ _ | exact smul_r _ _ | exact ssum_r _ | exact HC.out _ | (have hq1 := HD.out; unfold R64; omega)) (by first | exact sadd_r _ _ | exact smul_r _ _ | exact ssum_r _ | exact HC.out _ | (have hq1 := HD.out; unfold R64; omega)) _).mono ?_; rintro e w9 ⟨rfl, hb9⟩)) | (go_at_call 48; go_loud (refine (timesB _ _ (by first | exact sadd_r _ _ | exact smul_r _ _ | exact ssum_r _ | exact HC.out _ | (have hq1 := HD.out; unfold R64; omega)) (by first | exact sadd_r _ _ | exact smul_r _ _ | exact ssum_r _ | exact HC.out _ | (have hq1 := HD.out; unfold R64; omega)) _).mono ?_; rintro e w9 ⟨rfl, hb9⟩)) | (go_at_call 58; go_loud (refine (HdebtCapC _).mono ?_; rintro e w9 ⟨rfl, hb9⟩)))
  have HBZ := hid (Sg.below (by assumption))
  go_wp2
  go_ret
  exact ⟨rfl, HBW.out.trans (HBZ.out.mono HBW.out.size)⟩

end Pcm
end Go.Proofs.Ytebfokjgeknciaa
