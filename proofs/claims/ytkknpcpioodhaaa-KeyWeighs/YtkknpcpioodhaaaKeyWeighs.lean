import Derived.Test.YtkknpcpioodhaaaRows
import Derived.Test.YtkknpcpioodhaaaWei
import Derived.Test.YtkknpcpioodhaaaSame
import Derived.Test.YtkknpcpioodhaaaRoomD
import Derived.Test.YtkknpcpioodhaaaOpenW
import Derived.WalkKit
import Derived.ProofKit
import Derived.OpenShut
import Derived.Below
import Derived.Deep.RegionHeld3
import Derived.Deep.DrawnRows
namespace Go.Proofs.Ytkknpcpioodhaaa
namespace KeyWeighs
open Go.ChangeShapes Go.WideShapes Go.ChangeAt Go.RowKit KMath Cmp Ent Chk Wei Same Room Opn
set_option linter.unusedVariables false
attribute [local go_sem ↓] Go.wp_at_zero Go.wp_at_succ

theorem keepE {R : Nat} {k : ByteArray} {s : Int} {d : Bool} {v : ByteArray} {w2 W w' : World} (hb : Below W.heap.size W w')
    (h : W.cell? ⟨R, 0, none⟩ = some (.string k) ∧ W.cell? ⟨R, 1, none⟩ = some (.int .u64 s) ∧ W.cell? ⟨R, 2, none⟩ = some (.bool d) ∧ W.cell? ⟨R, 3, none⟩ = some (.string v) ∧ R < W.heap.size ∧ Below w2.heap.size w2 W) :
    w'.cell? ⟨R, 0, none⟩ = some (.string k) ∧ w'.cell? ⟨R, 1, none⟩ = some (.int .u64 s) ∧ w'.cell? ⟨R, 2, none⟩ = some (.bool d) ∧ w'.cell? ⟨R, 3, none⟩ = some (.string v) ∧ R < w'.heap.size ∧ Below w2.heap.size w2 w' := by
  obtain ⟨c0, c1, c2, c3, hz, hB⟩ := h
  obtain ⟨hc, hf⟩ := bcell hb
  have hs := hb.size
  exact ⟨(hc _ _ hz).trans c0, (hc _ _ hz).trans c1, (hc _ _ hz).trans c2, (hc _ _ hz).trans c3, by omega, hB.trans (hb.mono hB.size)⟩
theorem startE {R : Nat} {k : ByteArray} {s : Int} {d : Bool} {v : ByteArray} {W : World} (c0 : W.cell? ⟨R, 0, none⟩ = some (.string k)) (c1 : W.cell? ⟨R, 1, none⟩ = some (.int .u64 s)) (c2 : W.cell? ⟨R, 2, none⟩ = some (.bool d)) (c3 : W.cell? ⟨R, 3, none⟩ = some (.string v)) (hz : R < W.heap.size) :
    W.drew.cell? ⟨R, 0, none⟩ = some (.string k) ∧ W.drew.cell? ⟨R, 1, none⟩ = some (.int .u64 s) ∧ W.drew.cell? ⟨R, 2, none⟩ = some (.bool d) ∧ W.drew.cell? ⟨R, 3, none⟩ = some (.string v) ∧ R < W.drew.heap.size ∧ Below W.heap.size W W.drew :=
  ⟨c0, c1, c2, c3, hz, (Below.refl _ _).drew⟩
theorem lastE {R : Nat} {k : ByteArray} {s : Int} {d : Bool} {v : ByteArray} {w2 W : World}
    (h : W.cell? ⟨R, 0, none⟩ = some (.string k) ∧ W.cell? ⟨R, 1, none⟩ = some (.int .u64 s) ∧ W.cell? ⟨R, 2, none⟩ = some (.bool d) ∧ W.cell? ⟨R, 3, none⟩ = some (.string v) ∧ R < W.heap.size ∧ Below w2.heap.size w2 W) : Below w2.heap.size w2 W := h.2.2.2.2.2

set_option maxHeartbeats 2000000 in
theorem walk (k : ByteArray) (s : Int) (d : Bool) (v : ByteArray) (a : Option Addr) (cap : Nat) (ws : List Wr) (w : World) (h : IsWr w a ws) (hn : a = none → cap = 0) :
    Calls Try.prog 6 #[entV k s d v, .slice a ws.length cap] w fun e w' => e = .returned (.bool true) ∧ Below w.heap.size w w' := by
  have HB0 : Hid (Below w.heap.size w (w.alloc (.cells #[.string k, .int .u64 s, .bool d, .string v] 54))) := (Below.refl _ _).alloc (Nat.le_refl _) _
  have HW : Hid (IsWr (w.alloc (.cells #[.string k, .int .u64 s, .bool d, .string v] 54)) a ws) := h.below HB0.out
  have HN : Hid (a = none → cap = 0) := hn
  have hlen := h.2.1
  unfold maxLen at hlen
  clear h hn
  by_cases hl : 4096 < ws.length
  · go_enter Try.func6, Try.ntmps6
    go_wp2
    go_ret
    exact ⟨rfl, HB0.out⟩
  · go_enter Try.func6, Try.ntmps6
    go_wp2_with fail
    have HC : Hid ((w.alloc (.cells #[.string k, .int .u64 s, .bool d, .string v] 54)).cell? ⟨w.heap.size, 0, none⟩ = some (.string k) ∧ (w.alloc (.cells #[.string k, .int .u64 s, .bool d, .string v] 54)).cell? ⟨w.heap.size, 1, none⟩ = some (.int .u64 s) ∧ (w.alloc (.cells #[.string k, .int .u64 s, .bool d, .string v] 54)).cell? ⟨w.heap.size, 2, none⟩ = some (.bool d) ∧ (w.alloc (.cells #[.string k, .int .u64 s, .bool d, .string v] 54)).cell? ⟨w.heap.size, 3, none⟩ = some (.string v)) := by
      refine ⟨?_, ?_, ?_, ?_⟩ <;> simp [go_sem]
    have HZ : Hid ((w.alloc (.cells #[.string k, .int .u64 s, .bool d, .string v] 54)).heap.size = w.heap.size + 1) := by show _ = _; simp
    have HWF := @writes_fresh a cap ws (w.alloc (.cells #[.string k, .int .u64 s, .bool d, .string v] 54)) HW.out HN.out (by omega)
    rw [HZ.out] at HWF
    refine HWF.mono ?_
    clear HWF
    rintro e w2 ⟨g, rfl, hF⟩
    have HF : Hid (Fresh _ w2 g a ws) := hF
    have hBB := hF.2.2.1
    rw [HZ.out] at hBB
    have hRz : w.heap.size < w2.heap.size := by have := hBB.size; rw [HZ.out] at this; omega
    have c0 := (hBB.cell (p := ⟨w.heap.size, 0, none⟩) (by simp)).trans HC.out.1
    have c1 := (hBB.cell (p := ⟨w.heap.size, 1, none⟩) (by simp)).trans HC.out.2.1
    have c2 := (hBB.cell (p := ⟨w.heap.size, 2, none⟩) (by simp)).trans HC.out.2.2.1
    have c3 := (hBB.cell (p := ⟨w.heap.size, 3, none⟩) (by simp)).trans HC.out.2.2.2
    clear hF hBB
    go_wp2_with fail
    go_region_held3 (fun w' => w'.cell? ⟨w.heap.size, 0, none⟩ = some (.string k) ∧ w'.cell? ⟨w.heap.size, 1, none⟩ = some (.int .u64 s) ∧ w'.cell? ⟨w.heap.size, 2, none⟩ = some (.bool d) ∧ w'.cell? ⟨w.heap.size, 3, none⟩ = some (.string v) ∧ w.heap.size < w'.heap.size ∧ Below w2.heap.size w2 w') (first | exact keepE (by assumption) (by assumption) | exact startE c0 c1 c2 c3 hRz)
      (first
        | (go_at_call 18; refine (weight_any _ _ _ _ _).mono ?_; rintro e w' ⟨rfl, hb⟩)
        | (go_at_call 19; refine (refWeight_any _ _ _ _ _).mono ?_; rintro e w' ⟨rfl, hb⟩))
    have HB2 : Hid (Below w2.heap.size w2 w') := lastE (by assumption)
    clear c0 c1 c2 c3
    go_wp2_with fail
    refine (batchWeight_any _ _ ws _ (HF.out.2.2.2.1.below HB2.out)).mono ?_
    rintro e w3 ⟨rfl, hb3⟩
    have HB3 : Hid (Below w2.heap.size w2 w3) := HB2.out.trans (hb3.mono HB2.out.size)
    clear hb3
    go_wp2_with fail
    refine (refBatchWeight_any _ _ ws _ (HF.out.2.2.2.2.below HB3.out)).mono ?_
    rintro e w4 ⟨rfl, hb4⟩
    have HB4 : Hid (Below w2.heap.size w2 w4) := HB3.out.trans (hb4.mono HB3.out.size)
    clear hb4
    go_wp2_with fail
    refine (sameWrites_any _ _ _ _ ws _ (HF.out.2.2.2.1.below HB4.out) (HF.out.2.2.2.2.below HB4.out)).mono ?_
    rintro e w5 ⟨rfl, n, rfl⟩
    have HB5 : Hid (Below w2.heap.size w2 (w4.drewN n)) := below_drewN HB4.out n
    go_wp2_with fail
    have HH := hold_any _ g ws 40 _ (HF.out.1.below HB5.out) (by omega) (by omega) (fun j hj hne => (HB5.out.cell (p := ⟨_, j, none⟩) (room_lt HF.out.1)).trans (HF.out.2.1 j hj hne))
    rw [HZ.out] at HH
    refine HH.mono ?_
    clear HH
    rintro e w6 ⟨rfl, hb6⟩
    go_wp2
    go_ret
    exact ⟨rfl, HB0.out.trans ((HF.out.2.2.1.trans ((HB5.out.trans (hb6.mono HB5.out.size)).mono HF.out.2.2.1.size)).mono HB0.out.size)⟩

set_option maxRecDepth 100000 in
theorem lifted (os : Os) (started : os.Started) (H : Type) (enc : TypeId × Value → H) :
    ReturnsInHanded {} Try.checked os 6 .any (Rows.keyWeighsSpec.pre6 enc Try.prog Try.f6 Rows.keyWeighsRow.domain false) (Rows.keyWeighsSpec.post enc Try.prog Try.f6 false true false false) := by
  refine returnsInHanded_of_change (C := Try.checked) own started (by kernel_rfl) Try.func6
    (ChangeSpec.witness6 (enc := enc) (C := Try.checked) false ⟨#[], #[entV ByteArray.empty 0 false ByteArray.empty, .slice none 0 0], []⟩ 8 (by kernel_rfl) (by kernel_rfl) (by kernel_rfl) (by kernel_rfl)) ?_
  intro W base args ds gs before hval0 hW hcnd _
  have hval : ∀ (j : Nat) t v, Try.f6.params[j]? = some t → args[j]? = some v → Value.okWide Try.prog W .any base t v := hval0
  have hW' := hW
  obtain ⟨p, q, hA0, hV, rfl, hfz, hnd⟩ := hW
  have hA : DataW.TrodAll enc Try.prog W 0 (fun _ => true) true Try.f6.params.toList args.toList ds p := hA0
  rw [Try.params6] at hA hval
  obtain ⟨v0, vs0, d0, ds0, p0, q0, hargs, rfl, rfl, h0, r0⟩ := trodAll_cons hA
  obtain ⟨v1, vs1, d1, ds1, p1, q1, rfl, rfl, rfl, h1, r1⟩ := trodAll_cons r0
  obtain ⟨rfl, rfl, rfl⟩ := trodAll_nil r1
  obtain rfl : args = #[v0, v1] := by cases args; simp_all
  obtain ⟨rfl, rfl⟩ := trodVars_none hV
  have lt0 : ∀ x ∈ p0, x.block < W.heap.size := by obtain ⟨m, hm⟩ := h0; exact DataW.trod_lt m _ _ _ hm
  have lt1 : ∀ x ∈ p1, x.block < W.heap.size := by obtain ⟨m, hm⟩ := h1; exact DataW.trod_lt m _ _ _ hm
  obtain ⟨a1, a2, a3, a4, rfl, _, _, _⟩ := Opn.entry (hval 0 54 v0 rfl rfl) h0
  obtain ⟨a, cap, ws, rfl, hw, hn⟩ := Opn.writes (hval 1 27 v1 rfl rfl) h1
  clear hA0 hval0
  refine (walk a1 a2 a3 a4 a cap ws W hw hn).mono fun e W' ⟨he, bel⟩ => ?_
  subst he
  exact ⟨_, rfl, _, _, _, [], _, [], hW', trodAll_mk1 (shut_bool Try.underlying4 _), (trodAll_cons_mk (Below.trod laidOut (by kernel_rfl) (of_decide_eq_true (by kernel_rfl)) h0 bel lt0) (trodAll_cons_mk (Below.trod laidOut (by kernel_rfl) (of_decide_eq_true (by kernel_rfl)) h1 bel lt1) trodAll_mk0)), rfl, bel.frame _, fun h => by cases h⟩
end KeyWeighs

theorem keyWeighs_holds : Rows.KeyWeighsSaid :=
  OpenClaim.holds_of_wide 6 Try.f6 rfl rfl rfl rfl rfl rfl rfl ⟨rfl, rfl, rfl, rfl, rfl⟩ rfl rfl rfl rfl rfl (by kernel_rfl) Try.func6 (by kernel_rfl)
    (of_decide_eq_true (by kernel_rfl)) (by unfold Func.isWrapper; first | (rw [if_pos (by decide +kernel)]; kernel_rfl) | (rw [if_neg (by decide +kernel)]; exact ⟨rfl, rfl⟩))
    (fun os started H enc _ => KeyWeighs.lifted os started H enc)
end Go.Proofs.Ytkknpcpioodhaaa
