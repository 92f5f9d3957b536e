import Derived.Test.YtkknpcpioodhaaaRows
import Derived.Test.YtkknpcpioodhaaaEnt
import Derived.Test.YtkknpcpioodhaaaOpen
import Derived.WalkKit
import Derived.ProofKit
import Derived.OpenShut
import Derived.ShutString
import Derived.Below
import Derived.Deep.RegionHeld3
import Derived.Deep.DrawnRows
import Derived.Lib.SmallJoins
namespace Go.Proofs.Ytkknpcpioodhaaa
namespace KeyCompares
open Go.ChangeShapes Go.WideShapes Go.ChangeAt Go.RowKit KMath Cmp Ent Opn
open Go.ChangeMaps (open_string shut_string)
set_option linter.unusedVariables false
attribute [local go_sem ↓] Go.wp_at_zero Go.wp_at_succ

theorem keepS {b : Nat} {k1 : ByteArray} {s1 : Int} {d1 : Bool} {v1 : ByteArray} {k2 : ByteArray} {s2 : Int} {d2 : Bool} {v2 : ByteArray} {w W w' : World} (hb : Below W.heap.size W w')
    (h : W.cell? ⟨b, 0, none⟩ = some (.string k1) ∧ W.cell? ⟨b, 1, none⟩ = some (.int .u64 s1) ∧ W.cell? ⟨b, 2, none⟩ = some (.bool d1) ∧ W.cell? ⟨b, 3, none⟩ = some (.string v1) ∧ W.cell? ⟨b + 1, 0, none⟩ = some (.string k2) ∧ W.cell? ⟨b + 1, 1, none⟩ = some (.int .u64 s2) ∧ W.cell? ⟨b + 1, 2, none⟩ = some (.bool d2) ∧ W.cell? ⟨b + 1, 3, none⟩ = some (.string v2) ∧ b + 1 < W.heap.size ∧ Below b w W) :
    w'.cell? ⟨b, 0, none⟩ = some (.string k1) ∧ w'.cell? ⟨b, 1, none⟩ = some (.int .u64 s1) ∧ w'.cell? ⟨b, 2, none⟩ = some (.bool d1) ∧ w'.cell? ⟨b, 3, none⟩ = some (.string v1) ∧ w'.cell? ⟨b + 1, 0, none⟩ = some (.string k2) ∧ w'.cell? ⟨b + 1, 1, none⟩ = some (.int .u64 s2) ∧ w'.cell? ⟨b + 1, 2, none⟩ = some (.bool d2) ∧ w'.cell? ⟨b + 1, 3, none⟩ = some (.string v2) ∧ b + 1 < w'.heap.size ∧ Below b w w' := by
  obtain ⟨a0, a1, a2, a3, c0, c1, c2, c3, hz, hB⟩ := h
  obtain ⟨hc, hf⟩ := bcell hb
  have hs := hb.size
  refine ⟨?_, ?_, ?_, ?_, ?_, ?_, ?_, ?_, by omega, hB.trans (hb.mono (by omega))⟩
  all_goals (rw [hc _ _ (by omega)]; assumption)

theorem belowS {b : Nat} {k1 : ByteArray} {s1 : Int} {d1 : Bool} {v1 : ByteArray} {k2 : ByteArray} {s2 : Int} {d2 : Bool} {v2 : ByteArray} {w W : World} (h : W.cell? ⟨b, 0, none⟩ = some (.string k1) ∧ W.cell? ⟨b, 1, none⟩ = some (.int .u64 s1) ∧ W.cell? ⟨b, 2, none⟩ = some (.bool d1) ∧ W.cell? ⟨b, 3, none⟩ = some (.string v1) ∧ W.cell? ⟨b + 1, 0, none⟩ = some (.string k2) ∧ W.cell? ⟨b + 1, 1, none⟩ = some (.int .u64 s2) ∧ W.cell? ⟨b + 1, 2, none⟩ = some (.bool d2) ∧ W.cell? ⟨b + 1, 3, none⟩ = some (.string v2) ∧ b + 1 < W.heap.size ∧ Below b w W) : Below b w W :=
  h.2.2.2.2.2.2.2.2.2

theorem startS (k1 : ByteArray) (s1 : Int) (d1 : Bool) (v1 : ByteArray) (k2 : ByteArray) (s2 : Int) (d2 : Bool) (v2 : ByteArray) (w w' : World)
    (hw : w' = ((w.alloc (.cells #[.string k1, .int .u64 s1, .bool d1, .string v1] 54)).alloc (.cells #[.string k2, .int .u64 s2, .bool d2, .string v2] 54)).drew) :
    w'.cell? ⟨w.heap.size, 0, none⟩ = some (.string k1) ∧ w'.cell? ⟨w.heap.size, 1, none⟩ = some (.int .u64 s1) ∧ w'.cell? ⟨w.heap.size, 2, none⟩ = some (.bool d1) ∧ w'.cell? ⟨w.heap.size, 3, none⟩ = some (.string v1) ∧ w'.cell? ⟨w.heap.size + 1, 0, none⟩ = some (.string k2) ∧ w'.cell? ⟨w.heap.size + 1, 1, none⟩ = some (.int .u64 s2) ∧ w'.cell? ⟨w.heap.size + 1, 2, none⟩ = some (.bool d2) ∧ w'.cell? ⟨w.heap.size + 1, 3, none⟩ = some (.string v2) ∧ w.heap.size + 1 < w'.heap.size ∧ Below w.heap.size w w' := by
  subst hw
  refine ⟨?_, ?_, ?_, ?_, ?_, ?_, ?_, ?_, ?_, (((Below.refl _ _).alloc (Nat.le_refl _) _).alloc (by simp) _).drew⟩
  all_goals simp [go_sem, World.cell?_alloc_past]

set_option maxHeartbeats 2000000 in
theorem walk (k1 : ByteArray) (s1 : Int) (d1 : Bool) (v1 : ByteArray) (k2 : ByteArray) (s2 : Int) (d2 : Bool) (v2 : ByteArray) (w : World) (hk1 : k1.size ≤ maxLen) (hk2 : k2.size ≤ maxLen) :
    Calls Try.prog 5 #[entV k1 s1 d1 v1, entV k2 s2 d2 v2] w fun e w' => e = .returned (.bool true) ∧ Below w.heap.size w w' := by
  go_enter Try.func5, Try.ntmps5
  go_wp2_with fail
  go_region_held3 (fun w' => w'.cell? ⟨w.heap.size, 0, none⟩ = some (.string k1) ∧ w'.cell? ⟨w.heap.size, 1, none⟩ = some (.int .u64 s1) ∧ w'.cell? ⟨w.heap.size, 2, none⟩ = some (.bool d1) ∧ w'.cell? ⟨w.heap.size, 3, none⟩ = some (.string v1) ∧ w'.cell? ⟨w.heap.size + 1, 0, none⟩ = some (.string k2) ∧ w'.cell? ⟨w.heap.size + 1, 1, none⟩ = some (.int .u64 s2) ∧ w'.cell? ⟨w.heap.size + 1, 2, none⟩ = some (.bool d2) ∧ w'.cell? ⟨w.heap.size + 1, 3, none⟩ = some (.string v2) ∧ w.heap.size + 1 < w'.heap.size ∧ Below w.heap.size w w') (first | exact keepS (by assumption) (by assumption) | exact startS _ _ _ _ _ _ _ _ _ _ rfl)
    (first
      | (go_at_call 16; refine (compare_any _ _ _ _ _ _ _ _ _).mono ?_; rintro e w' ⟨rfl, hb⟩)
      | (go_at_call 17; refine (refCompare_any _ _ _ _ _ _ _ _ _ (by assumption) (by assumption)).mono ?_; rintro e w' ⟨rfl, hb⟩))
  go_wp2
  go_ret
  refine ⟨by simp [cmpE_self], ?_⟩
  exact belowS (by assumption)

set_option maxRecDepth 100000 in
theorem lifted (os : Os) (started : os.Started) (H : Type) (enc : TypeId × Value → H) :
    ReturnsInHanded {} Try.checked os 5 .any (Rows.keyComparesSpec.pre6 enc Try.prog Try.f5 Rows.keyComparesRow.domain false) (Rows.keyComparesSpec.post enc Try.prog Try.f5 false true false false) := by
  refine returnsInHanded_of_change (C := Try.checked) own started (by kernel_rfl) Try.func5
    (ChangeSpec.witness6 (enc := enc) (C := Try.checked) false ⟨#[], #[entV ByteArray.empty 0 false ByteArray.empty, entV ByteArray.empty 0 false ByteArray.empty], []⟩ 8 (by kernel_rfl) (by kernel_rfl) (by kernel_rfl) (by kernel_rfl)) ?_
  intro W base args ds gs before hval0 hW hcnd _
  have hval : ∀ (j : Nat) t v, Try.f5.params[j]? = some t → args[j]? = some v → Value.okWide Try.prog W .any base t v := hval0
  have hW' := hW
  obtain ⟨p, q, hA0, hV, rfl, hfz, hnd⟩ := hW
  have hA : DataW.TrodAll enc Try.prog W 0 (fun _ => true) true Try.f5.params.toList args.toList ds p := hA0
  rw [Try.params5] at hA hval
  obtain ⟨v0, vs0, d0, ds0, p0, q0, hargs, rfl, rfl, h0, r0⟩ := trodAll_cons hA
  obtain ⟨v1, vs1, d1, ds1, p1, q1, rfl, rfl, rfl, h1, r1⟩ := trodAll_cons r0
  obtain ⟨rfl, rfl, rfl⟩ := trodAll_nil r1
  obtain rfl : args = #[v0, v1] := by cases args; simp_all
  obtain ⟨rfl, rfl⟩ := trodVars_none hV
  have lt0 : ∀ x ∈ p0, x.block < W.heap.size := by obtain ⟨m, hm⟩ := h0; exact DataW.trod_lt m _ _ _ hm
  have lt1 : ∀ x ∈ p1, x.block < W.heap.size := by obtain ⟨m, hm⟩ := h1; exact DataW.trod_lt m _ _ _ hm
  obtain ⟨a1, a2, a3, a4, rfl, hk1, _, _⟩ := Opn.entry (hval 0 54 v0 rfl rfl) h0
  obtain ⟨b1, b2, b3, b4, rfl, hk2, _, _⟩ := Opn.entry (hval 1 54 v1 rfl rfl) h1
  clear hA0 hval0
  refine (walk a1 a2 a3 a4 b1 b2 b3 b4 W hk1 hk2).mono fun e W' ⟨he, bel⟩ => ?_
  subst he
  exact ⟨_, rfl, _, _, _, [], _, [], hW', trodAll_mk1 (shut_bool Try.underlying4 _), (trodAll_cons_mk (Below.trod laidOut (by kernel_rfl) (of_decide_eq_true (by kernel_rfl)) h0 bel lt0) (trodAll_cons_mk (Below.trod laidOut (by kernel_rfl) (of_decide_eq_true (by kernel_rfl)) h1 bel lt1) trodAll_mk0)), rfl, bel.frame _, fun h => by cases h⟩
end KeyCompares

theorem keyCompares_holds : Rows.KeyComparesSaid :=
  OpenClaim.holds_of_wide 5 Try.f5 rfl rfl rfl rfl rfl rfl rfl ⟨rfl, rfl, rfl, rfl, rfl⟩ rfl rfl rfl rfl rfl (by kernel_rfl) Try.func5 (by kernel_rfl)
    (of_decide_eq_true (by kernel_rfl)) (by unfold Func.isWrapper; first | (rw [if_pos (by decide +kernel)]; kernel_rfl) | (rw [if_neg (by decide +kernel)]; exact ⟨rfl, rfl⟩))
    (fun os started H enc _ => KeyCompares.lifted os started H enc)
end Go.Proofs.Ytkknpcpioodhaaa
