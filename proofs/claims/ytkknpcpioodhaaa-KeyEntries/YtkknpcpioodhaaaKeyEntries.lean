import Derived.Test.YtkknpcpioodhaaaRows
import Derived.Test.YtkknpcpioodhaaaEntsR
import Derived.Test.YtkknpcpioodhaaaSame
import Derived.Test.YtkknpcpioodhaaaRoomD
import Derived.Test.YtkknpcpioodhaaaOpenW
import Derived.WalkKit
import Derived.ProofKit
import Derived.OpenShut
import Derived.Below
namespace Go.Proofs.Ytkknpcpioodhaaa
namespace KeyEntries
open Go.ChangeShapes Go.WideShapes Go.ChangeAt Go.RowKit KMath Cmp Ent Chk Wei Ents Same Room Opn
set_option linter.unusedVariables false

set_option maxHeartbeats 2000000 in
theorem walk (first : Int) (a : Option Addr) (cap : Nat) (ws : List Wr) (w : World) (h : IsWr w a ws) (hn : a = none → cap = 0) :
    Calls Try.prog 7 #[.int .u64 first, .slice a ws.length cap] w fun e w' => e = .returned (.bool true) ∧ Below w.heap.size w w' := by
  have HW : Hid (IsWr w a ws) := h
  have HN : Hid (a = none → cap = 0) := hn
  have hlen := h.2.1
  unfold maxLen at hlen
  clear h hn
  by_cases hl : 4096 < ws.length
  · go_enter Try.func7, Try.ntmps7
    go_wp2
    go_ret
    exact ⟨rfl, Below.refl _ _⟩
  · go_enter Try.func7, Try.ntmps7
    go_wp2_with fail
    refine (writes_fresh a cap ws w HW.out HN.out (by omega)).mono ?_
    rintro e w2 ⟨g, rfl, hF⟩
    have HF : Hid (Fresh w w2 g a ws) := hF
    clear hF
    go_wp2_with fail
    refine (entries_any first _ _ ws _ HF.out.2.2.2.1 (by omega)).mono ?_
    rintro e w3 ⟨rfl, hE3, hb3⟩
    have HB3 : Hid (Below w2.heap.size w2 w3) := hb3
    have HE3 : Hid (IsEn w3 (some ⟨w2.heap.size, 0, none⟩) (ents first ws)) := hE3
    clear hb3 hE3
    go_wp2_with fail
    refine (refEntries_any first _ _ ws _ (HF.out.2.2.2.2.below HB3.out) (by omega)).mono ?_
    rintro e w4 ⟨a4, c4, rfl, hE4, hb4⟩
    have HE4 : Hid (IsEn w4 (some ⟨w2.heap.size, 0, none⟩) (ents first ws)) := HE3.out.below hb4
    have HE5 : Hid (IsEn w4 a4 (ents first ws)) := hE4
    have HB4 : Hid (Below w2.heap.size w2 w4) := HB3.out.trans (hb4.mono HB3.out.size)
    clear hb4 hE4
    go_wp2_with fail
    refine (sameEntries_any _ _ _ _ ws.length (ents first ws) _ HE4.out HE5.out (ents_length _ _) (by omega)).mono ?_
    rintro e w' ⟨rfl, n, rfl⟩
    have HB5 : Hid (Below w2.heap.size w2 (w4.drewN n)) := below_drewN HB4.out n
    go_wp2_with fail
    refine (sameWrites_any _ _ _ _ ws _ (HF.out.2.2.2.1.below HB5.out) (HF.out.2.2.2.2.below HB5.out)).mono ?_
    rintro e w' ⟨rfl, m, rfl⟩
    have HB6 : Hid (Below w2.heap.size w2 ((w4.drewN n).drewN m)) := below_drewN HB5.out m
    go_wp2_with fail
    have HH := hold_any w.heap.size g ws 40 ((w4.drewN n).drewN m) (HF.out.1.below HB6.out) (by omega) (by omega) (fun j hj hne => (HB6.out.cell (p := ⟨_, j, none⟩) (room_lt HF.out.1)).trans (HF.out.2.1 j hj hne))
    simp only [World.drewN_drewN] at HH
    refine HH.mono ?_
    clear HH
    rintro e w7 ⟨rfl, hb7⟩
    simp only [← World.drewN_drewN] at hb7
    go_wp2
    go_ret
    exact ⟨rfl, HF.out.2.2.1.trans ((HB6.out.trans (hb7.mono HB6.out.size)).mono HF.out.2.2.1.size)⟩

set_option maxRecDepth 100000 in
theorem lifted (os : Os) (started : os.Started) (H : Type) (enc : TypeId × Value → H) :
    ReturnsInHanded {} Try.checked os 7 .any (Rows.keyEntriesSpec.pre6 enc Try.prog Try.f7 Rows.keyEntriesRow.domain false) (Rows.keyEntriesSpec.post enc Try.prog Try.f7 false true false false) := by
  refine returnsInHanded_of_change (C := Try.checked) own started (by kernel_rfl) Try.func7
    (ChangeSpec.witness6 (enc := enc) (C := Try.checked) false ⟨#[], #[.int .u64 0, .slice none 0 0], []⟩ 8 (by kernel_rfl) (by kernel_rfl) (by kernel_rfl) (by kernel_rfl)) ?_
  intro W base args ds gs before hval0 hW hcnd _
  have hval : ∀ (j : Nat) t v, Try.f7.params[j]? = some t → args[j]? = some v → Value.okWide Try.prog W .any base t v := hval0
  have hW' := hW
  obtain ⟨p, q, hA0, hV, rfl, hfz, hnd⟩ := hW
  have hA : DataW.TrodAll enc Try.prog W 0 (fun _ => true) true Try.f7.params.toList args.toList ds p := hA0
  rw [Try.params7] at hA hval
  obtain ⟨v0, vs0, d0, ds0, p0, q0, hargs, rfl, rfl, h0, r0⟩ := trodAll_cons hA
  obtain ⟨v1, vs1, d1, ds1, p1, q1, rfl, rfl, rfl, h1, r1⟩ := trodAll_cons r0
  obtain ⟨rfl, rfl, rfl⟩ := trodAll_nil r1
  obtain rfl : args = #[v0, v1] := by cases args; simp_all
  obtain ⟨rfl, rfl⟩ := trodVars_none hV
  have lt1 : ∀ x ∈ p1, x.block < W.heap.size := by obtain ⟨m, hm⟩ := h1; exact DataW.trod_lt m _ _ _ hm
  obtain ⟨first, rfl, rfl, rfl, wf⟩ := open_int Try.underlying52 (hval 0 52 v0 rfl rfl) h0
  obtain ⟨a, cap, ws, rfl, hw, hn⟩ := Opn.writes (hval 1 27 v1 rfl rfl) h1
  clear hA0 hval0
  refine (walk first a cap ws W hw hn).mono fun e W' ⟨he, bel⟩ => ?_
  subst he
  exact ⟨_, rfl, _, _, _, [], _, [], hW', trodAll_mk1 (shut_bool Try.underlying4 _), (trodAll_cons_mk (shut_int Try.underlying52 wf) (trodAll_cons_mk (Below.trod laidOut (by kernel_rfl) (of_decide_eq_true (by kernel_rfl)) h1 bel lt1) trodAll_mk0)), rfl, bel.frame _, fun h => by cases h⟩
end KeyEntries

theorem keyEntries_holds : Rows.KeyEntriesSaid :=
  OpenClaim.holds_of_wide 7 Try.f7 rfl rfl rfl rfl rfl rfl rfl ⟨rfl, rfl, rfl, rfl, rfl⟩ rfl rfl rfl rfl rfl (by kernel_rfl) Try.func7 (by kernel_rfl)
    (of_decide_eq_true (by kernel_rfl)) (by unfold Func.isWrapper; first | (rw [if_pos (by decide +kernel)]; kernel_rfl) | (rw [if_neg (by decide +kernel)]; exact ⟨rfl, rfl⟩))
    (fun os started H enc _ => KeyEntries.lifted os started H enc)
end Go.Proofs.Ytkknpcpioodhaaa
