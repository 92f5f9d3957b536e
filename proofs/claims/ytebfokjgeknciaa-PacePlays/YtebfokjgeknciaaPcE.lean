import Derived.Test.YtebfokjgeknciaaPc9
namespace Go.Proofs.Ytebfokjgeknciaa
namespace Pcm
open Go.RowKit Laws Irw
set_option linter.unusedVariables false
set_option linter.unusedSimpArgs false
set_option maxRecDepth 20000

set_option maxHeartbeats 8000000 in
theorem a_any (c : Cf) (hc : RC c) (h : Right c) (x : Int) (hxr : R64 x) (y : Int) (hyr : R64 y) (w : World) :
    Calls Try.prog 72 #[.agg (figA c), .int .i64 x, .int .i64 y] w fun e w' => e = .returned (.int .i64 (pa c x y)) ∧ Below w.heap.size w w' := by
  show Calls Try.prog 72 #[.agg #[.int .i64 (c 0), .int .i64 (c 2), .int .i64 (c 3), .int .i64 (c 4), .int .i64 (c 8), .int .i64 (c 9), .int .i64 (c 10), .int .i64 (c 11), .int .i64 (c 12), .int .i64 (c 16), .int .i64 (c 17), .int .i64 (c 19), .int .i64 (c 21), .int .i64 (c 22), .int .i64 (c 23), .int .i64 (c 26)], .int .i64 x, .int .i64 y] w fun e w' => e = .returned (.int .i64 (pa c x y)) ∧ Below w.heap.size w w'
  have HC := hid hc
  have HR := hid h
  have HlimitSumC : ∀ W, Calls Try.prog 55 #[.agg #[.int .i64 (c 0), .int .i64 (c 2), .int .i64 (c 3), .int .i64 (c 4), .int .i64 (c 8), .int .i64 (c 9), .int .i64 (c 10), .int .i64 (c 11), .int .i64 (c 12), .int .i64 (c 16), .int .i64 (c 17), .int .i64 (c 19), .int .i64 (c 21), .int .i64 (c 22), .int .i64 (c 23), .int .i64 (c 26)]] W fun e w' => e = .returned (.int .i64 (plsum c)) ∧ Below W.heap.size W w' := fun W => limitSum_any c HC.out HR.out W
  have HdebtCapC : ∀ W, Calls Try.prog 58 #[.agg #[.int .i64 (c 0), .int .i64 (c 2), .int .i64 (c 3), .int .i64 (c 4), .int .i64 (c 8), .int .i64 (c 9), .int .i64 (c 10), .int .i64 (c 11), .int .i64 (c 12), .int .i64 (c 16), .int .i64 (c 17), .int .i64 (c 19), .int .i64 (c 21), .int .i64 (c 22), .int .i64 (c 23), .int .i64 (c 26)]] W fun e w' => e = .returned (.int .i64 (pdebt c)) ∧ Below W.heap.size W w' := fun W => debtCap_any c HC.out HR.out W
  have HmemCapC : ∀ W, Calls Try.prog 56 #[.agg #[.int .i64 (c 0), .int .i64 (c 2), .int .i64 (c 3), .int .i64 (c 4), .int .i64 (c 8), .int .i64 (c 9), .int .i64 (c 10), .int .i64 (c 11), .int .i64 (c 12), .int .i64 (c 16), .int .i64 (c 17), .int .i64 (c 19), .int .i64 (c 21), .int .i64 (c 22), .int .i64 (c 23), .int .i64 (c 26)]] W fun e w' => e = .returned (.int .i64 (pmem c)) ∧ Below W.heap.size W w' := fun W => memCap_any c HC.out W
  have HX := hid hxr
  have HD := hid (And.intro hxr hyr)
  unfold R64 at HD
  clear hc h
  go_enter Try.func72, Try.ntmps72
  go_wp2
  have hF : Fg (w.alloc (.cells #[.int .i64 (c 0), .int .i64 (c 2), .int .i64 (c 3), .int .i64 (c 4), .int .i64 (c 8), .int .i64 (c 9), .int .i64 (c 10), .int .i64 (c 11), .int .i64 (c 12), .int .i64 (c 16), .int .i64 (c 17), .int .i64 (c 19), .int .i64 (c 21), .int .i64 (c 22), .int .i64 (c 23), .int .i64 (c 26)] 71)) w.heap.size c := fg_new w c 71
  have HBW : Hid (Below w.heap.size w (w.alloc (.cells #[.int .i64 (c 0), .int .i64 (c 2), .int .i64 (c 3), .int .i64 (c 4), .int .i64 (c 8), .int .i64 (c 9), .int .i64 (c 10), .int .i64 (c 11), .int .i64 (c 12), .int .i64 (c 16), .int .i64 (c 17), .int .i64 (c 19), .int .i64 (c 21), .int .i64 (c 22), .int .i64 (c 23), .int .i64 (c 26)] 71))) := (Below.refl _ _).alloc (Nat.le_refl _) _
  have hz : w.heap.size < (w.alloc (.cells #[.int .i64 (c 0), .int .i64 (c 2), .int .i64 (c 3), .int .i64 (c 4), .int .i64 (c 8), .int .i64 (c 9), .int .i64 (c 10), .int .i64 (c 11), .int .i64 (c 12), .int .i64 (c 16), .int .i64 (c 17), .int .i64 (c 19), .int .i64 (c 21), .int .i64 (c 22), .int .i64 (c 23), .int .i64 (c 26)] 71)).heap.size := by simp
  generalize (w.alloc (.cells #[.int .i64 (c 0), .int .i64 (c 2), .int .i64 (c 3), .int .i64 (c 4), .int .i64 (c 8), .int .i64 (c 9), .int .i64 (c 10), .int .i64 (c 11), .int .i64 (c 12), .int .i64 (c 16), .int .i64 (c 17), .int .i64 (c 19), .int .i64 (c 21), .int .i64 (c 22), .int .i64 (c 23), .int .i64 (c 26)] 71)) = W at *
  go_region_held3 (fun V => V.cell? ⟨w.heap.size, 0, none⟩ = some (.int .i64 (c 0)) ∧ V.cell? ⟨w.heap.size, 1, none⟩ = some (.int .i64 (c 2)) ∧ V.cell? ⟨w.heap.size, 2, none⟩ = some (.int .i64 (c 3)) ∧ V.cell? ⟨w.heap.size, 3, none⟩ = some (.int .i64 (c 4)) ∧ V.cell? ⟨w.heap.size, 4, none⟩ = some (.int .i64 (c 8)) ∧ V.cell? ⟨w.heap.size, 5, none⟩ = some (.int .i64 (c 9)) ∧ V.cell? ⟨w.heap.size, 6, none⟩ = some (.int .i64 (c 10)) ∧ V.cell? ⟨w.heap.size, 7, none⟩ = some (.int .i64 (c 11)) ∧ V.cell? ⟨w.heap.size, 8, none⟩ = some (.int .i64 (c 12)) ∧ V.cell? ⟨w.heap.size, 9, none⟩ = some (.int .i64 (c 16)) ∧ V.cell? ⟨w.heap.size, 10, none⟩ = some (.int .i64 (c 17)) ∧ V.cell? ⟨w.heap.size, 11, none⟩ = some (.int .i64 (c 19)) ∧ V.cell? ⟨w.heap.size, 12, none⟩ = some (.int .i64 (c 21)) ∧ V.cell? ⟨w.heap.size, 13, none⟩ = some (.int .i64 (c 22)) ∧ V.cell? ⟨w.heap.size, 14, none⟩ = some (.int .i64 (c 23)) ∧ V.cell? ⟨w.heap.size, 15, none⟩ = some (.int .i64 (c 26)) ∧ Below W.heap.size W V) (first | assumption | exact Sg.start hF hz | exact Sg.call hF hz (by assumption) (by assumption) | exact Sg.alloc hF hz (by assumption))
    (first | (go_at_call 85; go_loud (first | (refine (sumD_any _ _ _ _ (by rfl) (by rfl) (by repeat (first | exact inil | refine icons (by first | exact sadd_r _ _ | exact smul_r _ _ | exact ssum_r _ | exact HC.out _ | exact plsum_r | exact pd_r _ _ | (have hq1 := HD.out; unfold R64; omega)) ?_))).mono ?_; rintro e w9 ⟨rfl, hb9⟩) | (refine (sumN_any _ _ _ _ (by rfl) (by rfl) (by repeat (first | exact inil | refine icons (by first | exact sadd_r _ _ | exact smul_r _ _ | exact ssum_r _ | exact HC.out _ | exact plsum_r | exact pd_r _ _ | (have hq1 := HD.out; unfold R64; omega)) ?_))).mono ?_; rintro e w9 ⟨rfl, hb9⟩))) | (go_at_call 47; go_loud (refine (plusB _ _ (by first | exact sadd_r _ _ | exact smul_r _ _ | exact ssum_r _ | exact HC.out _ | exact plsum_r | exact pd_r _ _ | (have hq1 := HD.out; unfold R64; omega)) (by first | exact sadd_r _ _ | exact smul_r _ _ | exact ssum_r _ | exact HC.out _ | exact plsum_r | exact pd_r _ _ | (have hq1 := HD.out; unfold R64; omega)) _).mono ?_; rintro e w9 ⟨rfl, hb9⟩)) | (go_at_call 48; go_loud (refine (timesB _ _ (by first | exact sadd_r _ _ | exact smul_r _ _ | exact ssum_r _ | exact HC.out _ | exact plsum_r | exact pd_r _ _ | (have hq1 := HD.out; unfold R64; omega)) (by first | exact sadd_r _ _ | exact smul_r _ _ | exact ssum_r _ | exact HC.out _ | exact plsum_r | exact pd_r _ _ | (have hq1 := HD.out; unfold R64; omega)) _).mono ?_; rintro e w9 ⟨rfl, hb9⟩)) | (go_at_call 55; go_loud (refine (HlimitSumC _).mono ?_; rintro e w9 ⟨rfl, hb9⟩)) | (go_at_call 58; go_loud (refine (HdebtCapC _).mono ?_; rintro e w9 ⟨rfl, hb9⟩)) | (go_at_call 56; go_loud (refine (HmemCapC _).mono ?_; rintro e w9 ⟨rfl, hb9⟩)))
  have HBZ := hid (Sg.below (by assumption))
  go_wp2
  go_ret
  exact ⟨rfl, HBW.out.trans (HBZ.out.mono HBW.out.size)⟩

end Pcm
end Go.Proofs.Ytebfokjgeknciaa
