import Derived.Test.YtkknpcpioodhaaaRows
import Derived.Test.YtkknpcpioodhaaaBat
import Derived.Test.YtkknpcpioodhaaaSame
import Derived.Test.YtkknpcpioodhaaaRoomD
import Derived.Test.YtkknpcpioodhaaaOpenW
import Derived.WalkKit
import Derived.ProofKit
import Derived.OpenShut
import Derived.Below
namespace Go.Proofs.Ytkknpcpioodhaaa
namespace KeyBatches
open Go.ChangeShapes Go.WideShapes Go.ChangeAt Go.RowKit KMath Cmp Ent Chk Bat Same Room Opn
set_option linter.unusedVariables false

set_option maxHeartbeats 2000000 in
theorem walk (a : Option Addr) (cap : Nat) (ws : List Wr) (w : World) (h : IsWr w a ws) (hn : a = none → cap = 0) :
    Calls Try.prog 4 #[.slice a ws.length cap] w fun e w' => e = .returned (.bool true) ∧ Below w.heap.size w w' := by
  have HW : Hid (IsWr w a ws) := h
  have HN : Hid (a = none → cap = 0) := hn
  have hlen := h.2.1
  unfold maxLen at hlen
  clear h hn
  by_cases hl : 4096 < ws.length
  · go_enter Try.func4, Try.ntmps4
    go_wp2
    go_ret
    exact ⟨rfl, Below.refl _ _⟩
  · go_enter Try.func4, Try.ntmps4
    go_wp2_with fail
    refine (writes_fresh a cap ws w HW.out HN.out (by omega)).mono ?_
    rintro e w2 ⟨g, rfl, hF⟩
    have HF : Hid (Fresh w w2 g a ws) := hF
    clear hF
    go_wp2_with fail
    refine (checkBatch_any _ _ ws _ HF.out.2.2.2.1).mono ?_
    rintro e w3 ⟨rfl, hb3⟩
    have HB3 : Hid (Below w2.heap.size w2 w3) := hb3
    clear hb3
    go_wp2_with fail
    refine (num_any _ _).mono ?_
    rintro e w' ⟨rfl, hw⟩
    have hw2 := hw.symm
    clear hw
    subst hw2
    go_wp2_with fail
    refine (refBatch_any _ _ ws _ (HF.out.2.2.2.2.below HB3.out)).mono ?_
    rintro e w' ⟨rfl, hw⟩
    have hw2 := hw.symm
    clear hw
    subst hw2
    go_wp2_with fail
    refine (sameWrites_any _ _ _ _ ws _ (HF.out.2.2.2.1.below HB3.out) (HF.out.2.2.2.2.below HB3.out)).mono ?_
    rintro e w' ⟨rfl, n, rfl⟩
    have HB4 : Hid (Below w2.heap.size w2 (w3.drewN n)) := below_drewN HB3.out n
    go_wp2_with fail
    refine (hold_any w.heap.size g ws 40 _ (HF.out.1.below HB4.out) (by omega) (by omega) (fun j hj hne => (HB4.out.cell (p := ⟨_, j, none⟩) (room_lt HF.out.1)).trans (HF.out.2.1 j hj hne))).mono ?_
    rintro e w5 ⟨rfl, hb5⟩
    go_wp2
    go_ret
    exact ⟨rfl, HF.out.2.2.1.trans ((HB4.out.trans (hb5.mono HB4.out.size)).mono HF.out.2.2.1.size)⟩

set_option maxRecDepth 100000 in
theorem lifted (os : Os) (started : os.Started) (H : Type) (enc : TypeId × Value → H) :
    ReturnsInHanded {} Try.checked os 4 .any (Rows.keyBatchesSpec.pre6 enc Try.prog Try.f4 Rows.keyBatchesRow.domain false) (Rows.keyBatchesSpec.post enc Try.prog Try.f4 false true false false) := by
  refine returnsInHanded_of_change (C := Try.checked) own started (by kernel_rfl) Try.func4
    (ChangeSpec.witness6 (enc := enc) (C := Try.checked) false ⟨#[], #[.slice none 0 0], []⟩ 8 (by kernel_rfl) (by kernel_rfl) (by kernel_rfl) (by kernel_rfl)) ?_
  intro W base args ds gs before hval0 hW hcnd _
  have hval : ∀ (j : Nat) t v, Try.f4.params[j]? = some t → args[j]? = some v → Value.okWide Try.prog W .any base t v := hval0
  have hW' := hW
  obtain ⟨p, q, hA0, hV, rfl, hfz, hnd⟩ := hW
  have hA : DataW.TrodAll enc Try.prog W 0 (fun _ => true) true Try.f4.params.toList args.toList ds p := hA0
  rw [Try.params4] at hA hval
  obtain ⟨v0, vs0, d0, ds0, p0, q0, hargs, rfl, rfl, h0, r0⟩ := trodAll_cons hA
  obtain ⟨rfl, rfl, rfl⟩ := trodAll_nil r0
  obtain rfl : args = #[v0] := by cases args; simp_all
  obtain ⟨rfl, rfl⟩ := trodVars_none hV
  have lt0 : ∀ x ∈ p0, x.block < W.heap.size := by obtain ⟨m, hm⟩ := h0; exact DataW.trod_lt m _ _ _ hm
  obtain ⟨a, cap, ws, rfl, hw, hn⟩ := Opn.writes (hval 0 27 v0 rfl rfl) h0
  clear hA0 hval0
  refine (walk a cap ws W hw hn).mono fun e W' ⟨he, bel⟩ => ?_
  subst he
  exact ⟨_, rfl, _, _, _, [], _, [], hW', trodAll_mk1 (shut_bool Try.underlying4 _), (trodAll_cons_mk (Below.trod laidOut (by kernel_rfl) (of_decide_eq_true (by kernel_rfl)) h0 bel lt0) trodAll_mk0), rfl, bel.frame _, fun h => by cases h⟩
end KeyBatches

theorem keyBatches_holds : Rows.KeyBatchesSaid :=
  OpenClaim.holds_of_wide 4 Try.f4 rfl rfl rfl rfl rfl rfl rfl ⟨rfl, rfl, rfl, rfl, rfl⟩ rfl rfl rfl rfl rfl (by kernel_rfl) Try.func4 (by kernel_rfl)
    (of_decide_eq_true (by kernel_rfl)) (by unfold Func.isWrapper; first | (rw [if_pos (by decide +kernel)]; kernel_rfl) | (rw [if_neg (by decide +kernel)]; exact ⟨rfl, rfl⟩))
    (fun os started H enc _ => KeyBatches.lifted os started H enc)
end Go.Proofs.Ytkknpcpioodhaaa
