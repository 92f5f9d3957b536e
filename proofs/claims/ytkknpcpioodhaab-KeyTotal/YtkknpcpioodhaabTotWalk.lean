import Derived.Test.YtkknpcpioodhaabKnown
import Derived.WalkKit
import Derived.Below
import Derived.Deep.RegionHeld3
import Derived.Deep.DrawnRows
namespace Go.Proofs.Ytkknpcpioodhaab
namespace KeyTotal
open Go.RowKit KMath Cmp Ent Chk Known
set_option linter.unusedVariables false
attribute [local go_sem ↓] Go.wp_at_zero Go.wp_at_succ

theorem keepT {H : Nat} {k1 : ByteArray} {s1 : Int} {d1 : Bool} {v1 : ByteArray} {k2 : ByteArray} {s2 : Int} {d2 : Bool} {v2 : ByteArray} {k3 : ByteArray} {s3 : Int} {d3 : Bool} {v3 : ByteArray} {w W w' : World} (hb : Below W.heap.size W w') (h : W.cell? ⟨H, 0, none⟩ = some (.string k1) ∧ W.cell? ⟨H, 1, none⟩ = some (.int .u64 s1) ∧ W.cell? ⟨H, 2, none⟩ = some (.bool d1) ∧ W.cell? ⟨H, 3, none⟩ = some (.string v1) ∧ W.cell? ⟨H + 1, 0, none⟩ = some (.string k2) ∧ W.cell? ⟨H + 1, 1, none⟩ = some (.int .u64 s2) ∧ W.cell? ⟨H + 1, 2, none⟩ = some (.bool d2) ∧ W.cell? ⟨H + 1, 3, none⟩ = some (.string v2) ∧ W.cell? ⟨H + 2, 0, none⟩ = some (.string k3) ∧ W.cell? ⟨H + 2, 1, none⟩ = some (.int .u64 s3) ∧ W.cell? ⟨H + 2, 2, none⟩ = some (.bool d3) ∧ W.cell? ⟨H + 2, 3, none⟩ = some (.string v3) ∧ H + 2 < W.heap.size ∧ Below w.heap.size w W) : w'.cell? ⟨H, 0, none⟩ = some (.string k1) ∧ w'.cell? ⟨H, 1, none⟩ = some (.int .u64 s1) ∧ w'.cell? ⟨H, 2, none⟩ = some (.bool d1) ∧ w'.cell? ⟨H, 3, none⟩ = some (.string v1) ∧ w'.cell? ⟨H + 1, 0, none⟩ = some (.string k2) ∧ w'.cell? ⟨H + 1, 1, none⟩ = some (.int .u64 s2) ∧ w'.cell? ⟨H + 1, 2, none⟩ = some (.bool d2) ∧ w'.cell? ⟨H + 1, 3, none⟩ = some (.string v2) ∧ w'.cell? ⟨H + 2, 0, none⟩ = some (.string k3) ∧ w'.cell? ⟨H + 2, 1, none⟩ = some (.int .u64 s3) ∧ w'.cell? ⟨H + 2, 2, none⟩ = some (.bool d3) ∧ w'.cell? ⟨H + 2, 3, none⟩ = some (.string v3) ∧ H + 2 < w'.heap.size ∧ Below w.heap.size w w' := by
  obtain ⟨c0, c1, c2, c3, c4, c5, c6, c7, c8, c9, ca, cb, hz, hB⟩ := h
  obtain ⟨hc, hf⟩ := bcell hb
  have hs := hb.size
  exact ⟨(hc _ _ (by omega)).trans c0, (hc _ _ (by omega)).trans c1, (hc _ _ (by omega)).trans c2, (hc _ _ (by omega)).trans c3, (hc _ _ (by omega)).trans c4, (hc _ _ (by omega)).trans c5, (hc _ _ (by omega)).trans c6, (hc _ _ (by omega)).trans c7, (hc _ _ (by omega)).trans c8, (hc _ _ (by omega)).trans c9, (hc _ _ (by omega)).trans ca, (hc _ _ (by omega)).trans cb, by omega, hB.trans (hb.mono hB.size)⟩
theorem startT {H : Nat} {k1 : ByteArray} {s1 : Int} {d1 : Bool} {v1 : ByteArray} {k2 : ByteArray} {s2 : Int} {d2 : Bool} {v2 : ByteArray} {k3 : ByteArray} {s3 : Int} {d3 : Bool} {v3 : ByteArray} {W : World} (h : W.cell? ⟨H, 0, none⟩ = some (.string k1) ∧ W.cell? ⟨H, 1, none⟩ = some (.int .u64 s1) ∧ W.cell? ⟨H, 2, none⟩ = some (.bool d1) ∧ W.cell? ⟨H, 3, none⟩ = some (.string v1) ∧ W.cell? ⟨H + 1, 0, none⟩ = some (.string k2) ∧ W.cell? ⟨H + 1, 1, none⟩ = some (.int .u64 s2) ∧ W.cell? ⟨H + 1, 2, none⟩ = some (.bool d2) ∧ W.cell? ⟨H + 1, 3, none⟩ = some (.string v2) ∧ W.cell? ⟨H + 2, 0, none⟩ = some (.string k3) ∧ W.cell? ⟨H + 2, 1, none⟩ = some (.int .u64 s3) ∧ W.cell? ⟨H + 2, 2, none⟩ = some (.bool d3) ∧ W.cell? ⟨H + 2, 3, none⟩ = some (.string v3)) (hz : H + 2 < W.heap.size) : W.drew.cell? ⟨H, 0, none⟩ = some (.string k1) ∧ W.drew.cell? ⟨H, 1, none⟩ = some (.int .u64 s1) ∧ W.drew.cell? ⟨H, 2, none⟩ = some (.bool d1) ∧ W.drew.cell? ⟨H, 3, none⟩ = some (.string v1) ∧ W.drew.cell? ⟨H + 1, 0, none⟩ = some (.string k2) ∧ W.drew.cell? ⟨H + 1, 1, none⟩ = some (.int .u64 s2) ∧ W.drew.cell? ⟨H + 1, 2, none⟩ = some (.bool d2) ∧ W.drew.cell? ⟨H + 1, 3, none⟩ = some (.string v2) ∧ W.drew.cell? ⟨H + 2, 0, none⟩ = some (.string k3) ∧ W.drew.cell? ⟨H + 2, 1, none⟩ = some (.int .u64 s3) ∧ W.drew.cell? ⟨H + 2, 2, none⟩ = some (.bool d3) ∧ W.drew.cell? ⟨H + 2, 3, none⟩ = some (.string v3) ∧ H + 2 < W.drew.heap.size ∧ Below W.heap.size W W.drew := by
  obtain ⟨c0, c1, c2, c3, c4, c5, c6, c7, c8, c9, ca, cb⟩ := h
  exact ⟨c0, c1, c2, c3, c4, c5, c6, c7, c8, c9, ca, cb, hz, (Below.refl _ _).drew⟩
theorem lastT {H : Nat} {k1 : ByteArray} {s1 : Int} {d1 : Bool} {v1 : ByteArray} {k2 : ByteArray} {s2 : Int} {d2 : Bool} {v2 : ByteArray} {k3 : ByteArray} {s3 : Int} {d3 : Bool} {v3 : ByteArray} {w W : World} (h : W.cell? ⟨H, 0, none⟩ = some (.string k1) ∧ W.cell? ⟨H, 1, none⟩ = some (.int .u64 s1) ∧ W.cell? ⟨H, 2, none⟩ = some (.bool d1) ∧ W.cell? ⟨H, 3, none⟩ = some (.string v1) ∧ W.cell? ⟨H + 1, 0, none⟩ = some (.string k2) ∧ W.cell? ⟨H + 1, 1, none⟩ = some (.int .u64 s2) ∧ W.cell? ⟨H + 1, 2, none⟩ = some (.bool d2) ∧ W.cell? ⟨H + 1, 3, none⟩ = some (.string v2) ∧ W.cell? ⟨H + 2, 0, none⟩ = some (.string k3) ∧ W.cell? ⟨H + 2, 1, none⟩ = some (.int .u64 s3) ∧ W.cell? ⟨H + 2, 2, none⟩ = some (.bool d3) ∧ W.cell? ⟨H + 2, 3, none⟩ = some (.string v3) ∧ H + 2 < W.heap.size ∧ Below w.heap.size w W) : (W.cell? ⟨H, 0, none⟩ = some (.string k1) ∧ W.cell? ⟨H, 1, none⟩ = some (.int .u64 s1) ∧ W.cell? ⟨H, 2, none⟩ = some (.bool d1) ∧ W.cell? ⟨H, 3, none⟩ = some (.string v1) ∧ W.cell? ⟨H + 1, 0, none⟩ = some (.string k2) ∧ W.cell? ⟨H + 1, 1, none⟩ = some (.int .u64 s2) ∧ W.cell? ⟨H + 1, 2, none⟩ = some (.bool d2) ∧ W.cell? ⟨H + 1, 3, none⟩ = some (.string v2) ∧ W.cell? ⟨H + 2, 0, none⟩ = some (.string k3) ∧ W.cell? ⟨H + 2, 1, none⟩ = some (.int .u64 s3) ∧ W.cell? ⟨H + 2, 2, none⟩ = some (.bool d3) ∧ W.cell? ⟨H + 2, 3, none⟩ = some (.string v3)) ∧ H + 2 < W.heap.size ∧ Below w.heap.size w W := by
  obtain ⟨c0, c1, c2, c3, c4, c5, c6, c7, c8, c9, ca, cb, hz, hB⟩ := h
  exact ⟨⟨c0, c1, c2, c3, c4, c5, c6, c7, c8, c9, ca, cb⟩, hz, hB⟩
theorem boxT {k1 : ByteArray} {s1 : Int} {d1 : Bool} {v1 : ByteArray} {k2 : ByteArray} {s2 : Int} {d2 : Bool} {v2 : ByteArray} {k3 : ByteArray} {s3 : Int} {d3 : Bool} {v3 : ByteArray} (w : World) : (((w.alloc (.cells #[.string k1, .int .u64 s1, .bool d1, .string v1] 24)).alloc (.cells #[.string k2, .int .u64 s2, .bool d2, .string v2] 24)).alloc (.cells #[.string k3, .int .u64 s3, .bool d3, .string v3] 24)).cell? ⟨w.heap.size, 0, none⟩ = some (.string k1) ∧ (((w.alloc (.cells #[.string k1, .int .u64 s1, .bool d1, .string v1] 24)).alloc (.cells #[.string k2, .int .u64 s2, .bool d2, .string v2] 24)).alloc (.cells #[.string k3, .int .u64 s3, .bool d3, .string v3] 24)).cell? ⟨w.heap.size, 1, none⟩ = some (.int .u64 s1) ∧ (((w.alloc (.cells #[.string k1, .int .u64 s1, .bool d1, .string v1] 24)).alloc (.cells #[.string k2, .int .u64 s2, .bool d2, .string v2] 24)).alloc (.cells #[.string k3, .int .u64 s3, .bool d3, .string v3] 24)).cell? ⟨w.heap.size, 2, none⟩ = some (.bool d1) ∧ (((w.alloc (.cells #[.string k1, .int .u64 s1, .bool d1, .string v1] 24)).alloc (.cells #[.string k2, .int .u64 s2, .bool d2, .string v2] 24)).alloc (.cells #[.string k3, .int .u64 s3, .bool d3, .string v3] 24)).cell? ⟨w.heap.size, 3, none⟩ = some (.string v1) ∧ (((w.alloc (.cells #[.string k1, .int .u64 s1, .bool d1, .string v1] 24)).alloc (.cells #[.string k2, .int .u64 s2, .bool d2, .string v2] 24)).alloc (.cells #[.string k3, .int .u64 s3, .bool d3, .string v3] 24)).cell? ⟨w.heap.size + 1, 0, none⟩ = some (.string k2) ∧ (((w.alloc (.cells #[.string k1, .int .u64 s1, .bool d1, .string v1] 24)).alloc (.cells #[.string k2, .int .u64 s2, .bool d2, .string v2] 24)).alloc (.cells #[.string k3, .int .u64 s3, .bool d3, .string v3] 24)).cell? ⟨w.heap.size + 1, 1, none⟩ = some (.int .u64 s2) ∧ (((w.alloc (.cells #[.string k1, .int .u64 s1, .bool d1, .string v1] 24)).alloc (.cells #[.string k2, .int .u64 s2, .bool d2, .string v2] 24)).alloc (.cells #[.string k3, .int .u64 s3, .bool d3, .string v3] 24)).cell? ⟨w.heap.size + 1, 2, none⟩ = some (.bool d2) ∧ (((w.alloc (.cells #[.string k1, .int .u64 s1, .bool d1, .string v1] 24)).alloc (.cells #[.string k2, .int .u64 s2, .bool d2, .string v2] 24)).alloc (.cells #[.string k3, .int .u64 s3, .bool d3, .string v3] 24)).cell? ⟨w.heap.size + 1, 3, none⟩ = some (.string v2) ∧ (((w.alloc (.cells #[.string k1, .int .u64 s1, .bool d1, .string v1] 24)).alloc (.cells #[.string k2, .int .u64 s2, .bool d2, .string v2] 24)).alloc (.cells #[.string k3, .int .u64 s3, .bool d3, .string v3] 24)).cell? ⟨w.heap.size + 2, 0, none⟩ = some (.string k3) ∧ (((w.alloc (.cells #[.string k1, .int .u64 s1, .bool d1, .string v1] 24)).alloc (.cells #[.string k2, .int .u64 s2, .bool d2, .string v2] 24)).alloc (.cells #[.string k3, .int .u64 s3, .bool d3, .string v3] 24)).cell? ⟨w.heap.size + 2, 1, none⟩ = some (.int .u64 s3) ∧ (((w.alloc (.cells #[.string k1, .int .u64 s1, .bool d1, .string v1] 24)).alloc (.cells #[.string k2, .int .u64 s2, .bool d2, .string v2] 24)).alloc (.cells #[.string k3, .int .u64 s3, .bool d3, .string v3] 24)).cell? ⟨w.heap.size + 2, 2, none⟩ = some (.bool d3) ∧ (((w.alloc (.cells #[.string k1, .int .u64 s1, .bool d1, .string v1] 24)).alloc (.cells #[.string k2, .int .u64 s2, .bool d2, .string v2] 24)).alloc (.cells #[.string k3, .int .u64 s3, .bool d3, .string v3] 24)).cell? ⟨w.heap.size + 2, 3, none⟩ = some (.string v3) := by
  refine ⟨?_, ?_, ?_, ?_, ?_, ?_, ?_, ?_, ?_, ?_, ?_, ?_⟩ <;> simp [go_sem, World.cell?_alloc_past]

/-- Compare, its answer named by the other way round. -/
theorem compare_neg (k1 : ByteArray) (s1 : Int) (d1 : Bool) (v1 : ByteArray) (k2 : ByteArray) (s2 : Int) (d2 : Bool) (v2 : ByteArray) (x : Int) (hx : cmpE k1 k2 s1 s2 = x) (w : World) :
    Calls Try.prog 7 #[entV k2 s2 d2 v2, entV k1 s1 d1 v1] w fun e w' => e = .returned (.int .i64 (-x)) ∧ Below w.heap.size w w' := by
  subst hx
  rw [← cmpE_neg]
  exact compare_any _ _ _ _ _ _ _ _ _

set_option maxHeartbeats 8000000 in
theorem walk (k1 : ByteArray) (s1 : Int) (d1 : Bool) (v1 : ByteArray) (k2 : ByteArray) (s2 : Int) (d2 : Bool) (v2 : ByteArray) (k3 : ByteArray) (s3 : Int) (d3 : Bool) (v3 : ByteArray) (w : World) :
    Calls Try.prog 3 #[entV k1 s1 d1 v1, entV k2 s2 d2 v2, entV k3 s3 d3 v3] w fun e w' => e = .returned (.bool true) ∧ Below w.heap.size w w' := by
  have HBX : Hid ((((w.alloc (.cells #[.string k1, .int .u64 s1, .bool d1, .string v1] 24)).alloc (.cells #[.string k2, .int .u64 s2, .bool d2, .string v2] 24)).alloc (.cells #[.string k3, .int .u64 s3, .bool d3, .string v3] 24)).cell? ⟨w.heap.size, 0, none⟩ = some (.string k1) ∧ (((w.alloc (.cells #[.string k1, .int .u64 s1, .bool d1, .string v1] 24)).alloc (.cells #[.string k2, .int .u64 s2, .bool d2, .string v2] 24)).alloc (.cells #[.string k3, .int .u64 s3, .bool d3, .string v3] 24)).cell? ⟨w.heap.size, 1, none⟩ = some (.int .u64 s1) ∧ (((w.alloc (.cells #[.string k1, .int .u64 s1, .bool d1, .string v1] 24)).alloc (.cells #[.string k2, .int .u64 s2, .bool d2, .string v2] 24)).alloc (.cells #[.string k3, .int .u64 s3, .bool d3, .string v3] 24)).cell? ⟨w.heap.size, 2, none⟩ = some (.bool d1) ∧ (((w.alloc (.cells #[.string k1, .int .u64 s1, .bool d1, .string v1] 24)).alloc (.cells #[.string k2, .int .u64 s2, .bool d2, .string v2] 24)).alloc (.cells #[.string k3, .int .u64 s3, .bool d3, .string v3] 24)).cell? ⟨w.heap.size, 3, none⟩ = some (.string v1) ∧ (((w.alloc (.cells #[.string k1, .int .u64 s1, .bool d1, .string v1] 24)).alloc (.cells #[.string k2, .int .u64 s2, .bool d2, .string v2] 24)).alloc (.cells #[.string k3, .int .u64 s3, .bool d3, .string v3] 24)).cell? ⟨w.heap.size + 1, 0, none⟩ = some (.string k2) ∧ (((w.alloc (.cells #[.string k1, .int .u64 s1, .bool d1, .string v1] 24)).alloc (.cells #[.string k2, .int .u64 s2, .bool d2, .string v2] 24)).alloc (.cells #[.string k3, .int .u64 s3, .bool d3, .string v3] 24)).cell? ⟨w.heap.size + 1, 1, none⟩ = some (.int .u64 s2) ∧ (((w.alloc (.cells #[.string k1, .int .u64 s1, .bool d1, .string v1] 24)).alloc (.cells #[.string k2, .int .u64 s2, .bool d2, .string v2] 24)).alloc (.cells #[.string k3, .int .u64 s3, .bool d3, .string v3] 24)).cell? ⟨w.heap.size + 1, 2, none⟩ = some (.bool d2) ∧ (((w.alloc (.cells #[.string k1, .int .u64 s1, .bool d1, .string v1] 24)).alloc (.cells #[.string k2, .int .u64 s2, .bool d2, .string v2] 24)).alloc (.cells #[.string k3, .int .u64 s3, .bool d3, .string v3] 24)).cell? ⟨w.heap.size + 1, 3, none⟩ = some (.string v2) ∧ (((w.alloc (.cells #[.string k1, .int .u64 s1, .bool d1, .string v1] 24)).alloc (.cells #[.string k2, .int .u64 s2, .bool d2, .string v2] 24)).alloc (.cells #[.string k3, .int .u64 s3, .bool d3, .string v3] 24)).cell? ⟨w.heap.size + 2, 0, none⟩ = some (.string k3) ∧ (((w.alloc (.cells #[.string k1, .int .u64 s1, .bool d1, .string v1] 24)).alloc (.cells #[.string k2, .int .u64 s2, .bool d2, .string v2] 24)).alloc (.cells #[.string k3, .int .u64 s3, .bool d3, .string v3] 24)).cell? ⟨w.heap.size + 2, 1, none⟩ = some (.int .u64 s3) ∧ (((w.alloc (.cells #[.string k1, .int .u64 s1, .bool d1, .string v1] 24)).alloc (.cells #[.string k2, .int .u64 s2, .bool d2, .string v2] 24)).alloc (.cells #[.string k3, .int .u64 s3, .bool d3, .string v3] 24)).cell? ⟨w.heap.size + 2, 2, none⟩ = some (.bool d3) ∧ (((w.alloc (.cells #[.string k1, .int .u64 s1, .bool d1, .string v1] 24)).alloc (.cells #[.string k2, .int .u64 s2, .bool d2, .string v2] 24)).alloc (.cells #[.string k3, .int .u64 s3, .bool d3, .string v3] 24)).cell? ⟨w.heap.size + 2, 3, none⟩ = some (.string v3)) := boxT w
  have HB0 : Hid (Below w.heap.size w (((w.alloc (.cells #[.string k1, .int .u64 s1, .bool d1, .string v1] 24)).alloc (.cells #[.string k2, .int .u64 s2, .bool d2, .string v2] 24)).alloc (.cells #[.string k3, .int .u64 s3, .bool d3, .string v3] 24))) := (((Below.refl _ _).alloc (Nat.le_refl _) _).alloc (by simp) _).alloc (by simp; omega) _
  have HZ : Hid ((((w.alloc (.cells #[.string k1, .int .u64 s1, .bool d1, .string v1] 24)).alloc (.cells #[.string k2, .int .u64 s2, .bool d2, .string v2] 24)).alloc (.cells #[.string k3, .int .u64 s3, .bool d3, .string v3] 24)).heap.size = w.heap.size + 3) := by show _ = _; simp
  go_enter Try.func3, Try.ntmps3
  go_wp2_with fail
  refine (known_any _).mono ?_
  rintro e w1 ⟨rfl, hb1⟩
  have HB1 : Hid (Below w.heap.size w w1) := HB0.out.trans (hb1.mono HB0.out.size)
  have hz1 : w.heap.size + 2 < w1.heap.size := by have := hb1.size; rw [HZ.out] at this; omega
  have HCS : Hid (w1.cell? ⟨w.heap.size, 0, none⟩ = some (.string k1) ∧ w1.cell? ⟨w.heap.size, 1, none⟩ = some (.int .u64 s1) ∧ w1.cell? ⟨w.heap.size, 2, none⟩ = some (.bool d1) ∧ w1.cell? ⟨w.heap.size, 3, none⟩ = some (.string v1) ∧ w1.cell? ⟨w.heap.size + 1, 0, none⟩ = some (.string k2) ∧ w1.cell? ⟨w.heap.size + 1, 1, none⟩ = some (.int .u64 s2) ∧ w1.cell? ⟨w.heap.size + 1, 2, none⟩ = some (.bool d2) ∧ w1.cell? ⟨w.heap.size + 1, 3, none⟩ = some (.string v2) ∧ w1.cell? ⟨w.heap.size + 2, 0, none⟩ = some (.string k3) ∧ w1.cell? ⟨w.heap.size + 2, 1, none⟩ = some (.int .u64 s3) ∧ w1.cell? ⟨w.heap.size + 2, 2, none⟩ = some (.bool d3) ∧ w1.cell? ⟨w.heap.size + 2, 3, none⟩ = some (.string v3)) := by
    obtain ⟨c0, c1, c2, c3, c4, c5, c6, c7, c8, c9, ca, cb⟩ := HBX.out
    have hc : ∀ b o, b < w.heap.size + 3 → w1.cell? ⟨b, o, none⟩ = (((w.alloc (.cells #[.string k1, .int .u64 s1, .bool d1, .string v1] 24)).alloc (.cells #[.string k2, .int .u64 s2, .bool d2, .string v2] 24)).alloc (.cells #[.string k3, .int .u64 s3, .bool d3, .string v3] 24)).cell? ⟨b, o, none⟩ := fun b o h => hb1.cell (p := ⟨b, o, none⟩) (by rw [HZ.out]; exact h)
    exact ⟨(hc _ _ (by omega)).trans c0, (hc _ _ (by omega)).trans c1, (hc _ _ (by omega)).trans c2, (hc _ _ (by omega)).trans c3, (hc _ _ (by omega)).trans c4, (hc _ _ (by omega)).trans c5, (hc _ _ (by omega)).trans c6, (hc _ _ (by omega)).trans c7, (hc _ _ (by omega)).trans c8, (hc _ _ (by omega)).trans c9, (hc _ _ (by omega)).trans ca, (hc _ _ (by omega)).trans cb⟩
  clear hb1 HBX
  go_wp2_with fail
  go_region_held3 (fun w' => w'.cell? ⟨w.heap.size, 0, none⟩ = some (.string k1) ∧ w'.cell? ⟨w.heap.size, 1, none⟩ = some (.int .u64 s1) ∧ w'.cell? ⟨w.heap.size, 2, none⟩ = some (.bool d1) ∧ w'.cell? ⟨w.heap.size, 3, none⟩ = some (.string v1) ∧ w'.cell? ⟨w.heap.size + 1, 0, none⟩ = some (.string k2) ∧ w'.cell? ⟨w.heap.size + 1, 1, none⟩ = some (.int .u64 s2) ∧ w'.cell? ⟨w.heap.size + 1, 2, none⟩ = some (.bool d2) ∧ w'.cell? ⟨w.heap.size + 1, 3, none⟩ = some (.string v2) ∧ w'.cell? ⟨w.heap.size + 2, 0, none⟩ = some (.string k3) ∧ w'.cell? ⟨w.heap.size + 2, 1, none⟩ = some (.int .u64 s3) ∧ w'.cell? ⟨w.heap.size + 2, 2, none⟩ = some (.bool d3) ∧ w'.cell? ⟨w.heap.size + 2, 3, none⟩ = some (.string v3) ∧ w.heap.size + 2 < w'.heap.size ∧ Below w1.heap.size w1 w') (first | exact keepT (by assumption) (by assumption) | exact startT HCS.out hz1)
    (first
      | (go_at_call 7; refine (compare_any _ _ _ _ _ _ _ _ _).mono ?_; rintro e w' ⟨rfl, hb⟩))
  have hL : (w'.cell? ⟨w.heap.size, 0, none⟩ = some (.string k1) ∧ w'.cell? ⟨w.heap.size, 1, none⟩ = some (.int .u64 s1) ∧ w'.cell? ⟨w.heap.size, 2, none⟩ = some (.bool d1) ∧ w'.cell? ⟨w.heap.size, 3, none⟩ = some (.string v1) ∧ w'.cell? ⟨w.heap.size + 1, 0, none⟩ = some (.string k2) ∧ w'.cell? ⟨w.heap.size + 1, 1, none⟩ = some (.int .u64 s2) ∧ w'.cell? ⟨w.heap.size + 1, 2, none⟩ = some (.bool d2) ∧ w'.cell? ⟨w.heap.size + 1, 3, none⟩ = some (.string v2) ∧ w'.cell? ⟨w.heap.size + 2, 0, none⟩ = some (.string k3) ∧ w'.cell? ⟨w.heap.size + 2, 1, none⟩ = some (.int .u64 s3) ∧ w'.cell? ⟨w.heap.size + 2, 2, none⟩ = some (.bool d3) ∧ w'.cell? ⟨w.heap.size + 2, 3, none⟩ = some (.string v3)) ∧ w.heap.size + 2 < w'.heap.size ∧ Below w1.heap.size w1 w' := lastT (by assumption)
  obtain ⟨⟨c0, c1, c2, c3, c4, c5, c6, c7, c8, c9, ca, cb⟩, hz2, hb2⟩ := hL
  have HB2 : Hid (Below w.heap.size w w') := HB1.out.trans (hb2.mono HB1.out.size)
  clear hb2 HCS HZ HB0 c8 c9 ca cb
  have hX := cmpE_range k1 k2 s1 s2
  have hY := cmpE_range k2 k3 s2 s3
  have hZ := cmpE_range k1 k3 s1 s3
  have hT := cmpE_trans k1 k2 k3 s1 s2 s3
  have hE := cmpE_zero_iff k1 k2 s1 s2
  obtain ⟨x, hx⟩ : ∃ x, cmpE k1 k2 s1 s2 = x := ⟨_, rfl⟩
  obtain ⟨y, hy⟩ : ∃ y, cmpE k2 k3 s2 s3 = y := ⟨_, rfl⟩
  obtain ⟨z, hzz⟩ : ∃ z, cmpE k1 k3 s1 s3 = z := ⟨_, rfl⟩
  have HX : Hid (cmpE k1 k2 s1 s2 = x) := hx
  rw [hx] at hX hT hE
  rw [hy] at hY hT
  rw [hzz] at hZ hT
  rw [hx, hy, hzz]
  clear hx hy hzz
  have HTT : Hid ((x ≤ 0 → y ≤ 0 → z ≤ 0) ∧ (0 ≤ x → 0 ≤ y → 0 ≤ z) ∧ (x = 0 → y = 0 → z = 0) ∧ (x < 0 → y ≤ 0 → z < 0)) := hT
  clear hT
  have hEE : ((k1.toList == k2.toList) = false ∧ x ≠ 0) ∨ ((k1.toList == k2.toList) = true ∧ (s1 == s2) = false ∧ x ≠ 0) ∨ ((k1.toList == k2.toList) = true ∧ (s1 == s2) = true ∧ x = 0) := by
    by_cases q1 : k1.toList = k2.toList
    · by_cases q2 : s1 = s2
      · exact .inr (.inr ⟨by simp [q1], by simp [q2], hE.2 ⟨q1, q2⟩⟩)
      · exact .inr (.inl ⟨by simp [q1], by simp [q2], fun e => q2 (hE.1 e).2⟩)
    · exact .inl ⟨by simp [q1], fun e => q1 (hE.1 e).1⟩
  clear hE
  have hz0 : w.heap.size < w'.heap.size := by omega
  have hz1' : w.heap.size + 1 < w'.heap.size := by omega
  rcases (show x = -1 ∨ x = 0 ∨ x = 1 by omega) with rfl | rfl | rfl
  all_goals
    rcases (show y = -1 ∨ y = 0 ∨ y = 1 by omega) with rfl | rfl | rfl
  all_goals
    rcases (show z = -1 ∨ z = 0 ∨ z = 1 by omega) with rfl | rfl | rfl
  all_goals
    first
    | (exfalso; have := HTT.out; omega)
    | skip
  all_goals
    rcases hEE with ⟨g1, g2⟩ | ⟨g1, g2, g3⟩ | ⟨g1, g2, g3⟩
  all_goals
    first
    | (exfalso; omega)
    | skip
  all_goals
    clear HTT hX hY hZ
  all_goals
    first
    | (go_wp2_with (go_at_call 7; refine (compare_neg k1 s1 d1 v1 k2 s2 d2 v2 _ HX.out _).mono ?_; rintro e w3 ⟨rfl, hb3⟩; have e0 := ((bcell hb3).1 _ 0 hz0).trans c0; have e1 := ((bcell hb3).1 _ 1 hz0).trans c1; have e4 := ((bcell hb3).1 _ 0 hz1').trans c4; have e5 := ((bcell hb3).1 _ 1 hz1').trans c5; have HB3 : Hid (Below w.heap.size w w3) := HB2.out.trans (hb3.mono HB2.out.size); clear hb3)
       go_ret
       exact ⟨rfl, HB3.out⟩)
end KeyTotal
end Go.Proofs.Ytkknpcpioodhaab
