import Derived.Test.YtebfokjgeknciaaRows
import Derived.Test.YtebfokjgeknciaaOpC
import Derived.Test.YtebfokjgeknciaaPkO
import Derived.Test.YtebfokjgeknciaaPr1
import Derived.WalkKit
import Derived.ProofKit
import Derived.OpenShut
import Derived.ShutString
import Derived.SizedLaws
import Derived.Below
namespace Go.Proofs.Ytebfokjgeknciaa
namespace PaceSums
open Go.ChangeShapes Go.WideShapes Go.ChangeAt Go.RowKit Pcm
open Go.ChangeMaps (open_string shut_string)
set_option linter.unusedVariables false
set_option maxRecDepth 100000

theorem add_any (a b : Int) (ha : R64 a) (hb : R64 b) (w : World) : Calls Try.prog 12 #[.int .i64 a, .int .i64 b] w fun e w' => e = .returned (.int .i64 (sadd a b)) ∧ w' = w := by
  go_enter Try.func12, Try.ntmps12
  go_wp2_with (go_at_call 47; refine (plus_any a b ha hb _).mono ?_; rintro e w9 ⟨rfl, hw9⟩; have hw8 := hw9.symm; clear hw9; subst hw8)
  go_ret
  exact ⟨rfl, rfl⟩
theorem mul_any (a b : Int) (ha : R64 a) (hb : R64 b) (w : World) : Calls Try.prog 14 #[.int .i64 a, .int .i64 b] w fun e w' => e = .returned (.int .i64 (smul a b)) ∧ w' = w := by
  go_enter Try.func14, Try.ntmps14
  go_wp2_with (go_at_call 48; refine (times_any a b ha hb _).mono ?_; rintro e w9 ⟨rfl, hw9⟩; have hw8 := hw9.symm; clear hw9; subst hw8)
  go_ret
  exact ⟨rfl, rfl⟩
set_option maxHeartbeats 2000000 in
theorem walk (a b : Int) (ha : R64 a) (hb : R64 b) (w : World) : Calls Try.prog 4 #[.int .i64 a, .int .i64 b] w fun e w' => e = .returned (.bool true) ∧ Below w.heap.size w w' := by
  obtain ⟨s, hs⟩ : ∃ s, sadd a b = s := ⟨_, rfl⟩
  obtain ⟨m, hm⟩ : ∃ m, smul a b = m := ⟨_, rfl⟩
  have C1 : ∀ V, Calls Try.prog 12 #[.int .i64 a, .int .i64 b] V fun e w' => e = .returned (.int .i64 s) ∧ w' = V := fun V => by rw [← hs]; exact add_any a b ha hb V
  have C2 : ∀ V, Calls Try.prog 13 #[.int .i64 a, .int .i64 b] V fun e w' => e = .returned (.int .i64 s) ∧ w' = V := fun V => by rw [← hs]; exact radd_any a b ha hb V
  have C3 : ∀ V, Calls Try.prog 14 #[.int .i64 a, .int .i64 b] V fun e w' => e = .returned (.int .i64 m) ∧ w' = V := fun V => by rw [← hm]; exact mul_any a b ha hb V
  have C4 : ∀ V, Calls Try.prog 15 #[.int .i64 a, .int .i64 b] V fun e w' => e = .returned (.int .i64 m) ∧ w' = V := fun V => by rw [← hm]; exact rmul_any a b ha hb V
  have C5 : ∀ V, Calls Try.prog 12 #[.int .i64 b, .int .i64 a] V fun e w' => e = .returned (.int .i64 s) ∧ w' = V := fun V => by rw [← hs, sadd_comm]; exact add_any b a hb ha V
  have C6 : ∀ V, Calls Try.prog 14 #[.int .i64 b, .int .i64 a] V fun e w' => e = .returned (.int .i64 m) ∧ w' = V := fun V => by rw [← hm, smul_comm]; exact mul_any b a hb ha V
  clear hs hm ha hb
  have hk := known_any w
  go_enter Try.func4, Try.ntmps4
  go_upto_region 4 with (go_at_call 9; go_loud (refine hk.mono ?_; rintro e w1 ⟨rfl, hb1⟩; have HB1 : Hid (Below w.heap.size w w1) := hb1; clear hb1))
  go_wp2_with fail
  refine (C1 _).mono ?_; rintro e w9 ⟨rfl, hw9⟩; have hw8 := hw9.symm; clear hw9; subst hw8
  go_wp2_with fail
  refine (C2 _).mono ?_; rintro e w9 ⟨rfl, hw9⟩; have hw8 := hw9.symm; clear hw9; subst hw8
  go_wp2_with fail
  refine (C3 _).mono ?_; rintro e w9 ⟨rfl, hw9⟩; have hw8 := hw9.symm; clear hw9; subst hw8
  go_wp2_with fail
  refine (C4 _).mono ?_; rintro e w9 ⟨rfl, hw9⟩; have hw8 := hw9.symm; clear hw9; subst hw8
  go_wp2_with fail
  refine (C5 _).mono ?_; rintro e w9 ⟨rfl, hw9⟩; have hw8 := hw9.symm; clear hw9; subst hw8
  go_wp2_with fail
  refine (C1 _).mono ?_; rintro e w9 ⟨rfl, hw9⟩; have hw8 := hw9.symm; clear hw9; subst hw8
  go_wp2_with fail
  refine (C6 _).mono ?_; rintro e w9 ⟨rfl, hw9⟩; have hw8 := hw9.symm; clear hw9; subst hw8
  go_wp2_with fail
  refine (C3 _).mono ?_; rintro e w9 ⟨rfl, hw9⟩; have hw8 := hw9.symm; clear hw9; subst hw8
  go_wp2
  go_ret
  exact ⟨rfl, HB1.out⟩

set_option maxRecDepth 100000 in
set_option maxHeartbeats 1000000 in
theorem lifted (os : Os) (started : os.Started) (H : Type) (enc : TypeId × Value → H) :
    ReturnsInHanded {} Try.checked os 4 .any (Rows.paceSumsSpec.pre6 enc Try.prog Try.f4 Rows.paceSumsRow.domain false) (Rows.paceSumsSpec.post enc Try.prog Try.f4 false true false false) := by
  refine returnsInHanded_of_change_sized (C := Try.checked) Opn.own started (by kernel_rfl) Try.func4
    (ChangeSpec.witness6 (enc := enc) (C := Try.checked) false ⟨#[], #[.int .i64 0, .int .i64 0], []⟩ 8 (by kernel_rfl) (by kernel_rfl) (by kernel_rfl) (by kernel_rfl)) ?_
  intro W base args ds gs before hval0 hW _ hsz0 _
  have hsz : (DataW.weightsEach Try.prog (Try.f4.params.toList ++ Rows.paceSumsSpec.plain.varTypes Try.prog) (ds ++ gs)).all (· ≤ reachBytes) = true := hsz0
  clear hsz0
  have hval : ∀ (j : Nat) t v, Try.f4.params[j]? = some t → args[j]? = some v → Value.okWide Try.prog W .any base t v := hval0
  have hW' := hW
  obtain ⟨p, q, hA0, hV, rfl, hfz, hnd⟩ := hW
  have hA : DataW.TrodAll enc Try.prog W 0 (fun _ => true) true Try.f4.params.toList args.toList ds p := hA0
  rw [Try.params4] at hA hval hsz
  obtain ⟨v0, vs0, d0, ds0, p0, q0, hargs, rfl, rfl, h0, r0⟩ := trodAll_cons hA
  obtain ⟨v1, vs1, d1, ds1, p1, q1, rfl, rfl, rfl, h1, r1⟩ := trodAll_cons r0
  obtain ⟨rfl, rfl, rfl⟩ := trodAll_nil r1
  obtain rfl : args = #[v0, v1] := by cases args; simp_all
  obtain ⟨rfl, rfl⟩ := trodVars_none hV
  obtain ⟨n0, rfl, rfl, rfl, wf0⟩ := open_int Try.underlying3 (hval 0 3 v0 rfl rfl) h0
  obtain ⟨n1, rfl, rfl, rfl, wf1⟩ := open_int Try.underlying3 (hval 1 3 v1 rfl rfl) h1
  clear hA0 hval0
  refine (walk n0 n1 (Opn.i64_wf wf0) (Opn.i64_wf wf1) W).mono fun e W' ⟨he, bel⟩ => ?_
  subst he
  exact ⟨_, rfl, _, _, _, [], _, [], hW', trodAll_mk1 (shut_bool Try.underlying4 _), (trodAll_cons_mk (shut_int Try.underlying3 wf0) (trodAll_cons_mk (shut_int Try.underlying3 wf1) trodAll_mk0)), rfl, bel.frame _, fun h => by cases h⟩
end PaceSums

theorem paceSums_holds : Rows.PaceSumsSaid :=
  OpenClaim.holds_of_wide 4 Try.f4 rfl rfl rfl rfl rfl rfl rfl ⟨rfl, rfl, rfl, rfl, rfl⟩ rfl rfl rfl rfl rfl (by kernel_rfl) Try.func4 (by kernel_rfl)
    (of_decide_eq_true (by kernel_rfl)) (by unfold Func.isWrapper; first | (rw [if_pos (by decide +kernel)]; kernel_rfl) | (rw [if_neg (by decide +kernel)]; exact ⟨rfl, rfl⟩))
    (fun os started H enc _ => PaceSums.lifted os started H enc)
end Go.Proofs.Ytebfokjgeknciaa
