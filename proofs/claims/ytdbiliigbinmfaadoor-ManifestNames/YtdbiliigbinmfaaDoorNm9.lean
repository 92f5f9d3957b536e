import Derived.Test.YtdbiliigbinmfaaDoorNm8
import Derived.Shelf.Strings.Repeat
import Derived.Lib.Agree
import Derived.Deep.QuietTactic
import Derived.BigQuiet
import Derived.Deep.RegionWith
namespace Go.Proofs
open Go.Shelf Go.RowKit
shelf_lay Lays.n105 Nm 105 at Tryd as Tryd.repA
theorem Tryd.repExtra : Builder.Extra Tryd.prog Tryd.repA_ren where
  sizeBuilder := by kernel_rfl
  liesBuilder := by kernel_rfl
  t5 := Tryd.repA.t5
  a5 := Tryd.repA.a5
  z5 := Tryd.repA.z5
  v5 := Tryd.repA.v5
  infoByte := by kernel_rfl
  cellsByte := by kernel_rfl
  sizeByte := by kernel_rfl
  neB5 := by decide
namespace YtdbiliigbinmfaaDoor
namespace Nms
open Go.RowKit Go.Sort CMath Byt Cod Laws
set_option linter.unusedVariables false
set_option linter.unusedSimpArgs false
set_option maxRecDepth 20000
theorem bl_st {w1 X w2 : World} (h : RowKit.Below w1.heap.size w1 X) (hb : RowKit.Below X.heap.size X w2) : RowKit.Below w1.heap.size w1 w2 := h.trans (hb.mono h.size)
theorem repF : Tryd.repA_ren.f 105 = 18 := by kernel_rfl
theorem rep_list (c : Nat) : Lib.repeatL [48] c = List.replicate c 48 := by
  induction c with
  | zero => rfl
  | succ c ih => rw [Lib.repeatL, ih]; rfl
theorem repeat_any (c : Nat) (hc : c ≤ 12) (w : World) :
    Calls Tryd.prog 18 #[.string ⟨#[48]⟩, .int .i64 (c : Int)] w fun e w' => e = .returned (.string (ofB (List.replicate c 48))) ∧ RowKit.Below w.heap.size w w' := by
  have h := Any.strings_Repeat Tryd.repA Tryd.repExtra ⟨#[48]⟩ c w (by omega) (by show 1 * c ≤ _; omega)
  rw [repF] at h
  refine h.mono ?_
  rintro e w' ⟨rfl, hb⟩
  refine ⟨?_, hb⟩
  show Ending.returned (.string ⟨(Lib.repeatL [48] c).toArray⟩) = _
  rw [rep_list]
  simp [ofB]
theorem fmtU (u : Nat) (hu : u < 18446744073709551616) (w : World) (htab : Lib.TabIs Tryd.prog w "internal/strconv.uint64pow10" .u64 Lib.pow10Tab) : Calls Tryd.prog 17 #[.int .u64 u, .int .i64 10] w fun e w' => e = .returned (.string ⟨(Lib.decDigits u).toArray⟩) ∧ RowKit.Below w.heap.size w w' := by
  have C : Calls Tryd.prog 40 #[.int .u64 u, .int .i64 10] w fun e w' => e = .returned (.string ⟨(Lib.decDigits u).toArray⟩) ∧ RowKit.Below w.heap.size w w' := by
    by_cases h : (u : Int) < 100
    · refine (ifmt_small u h w).mono ?_
      rintro e w' ⟨rfl, rfl⟩
      exact ⟨rfl, RowKit.Below.refl _ _⟩
    · refine (ifmt_big u h hu w htab).mono ?_
      rintro e w' ⟨rfl, k, os, rfl⟩
      exact ⟨rfl, rfl, rfl, rfl, by rw [size_grow]; exact Nat.le_add_right _ _, fun j hj => heap_grow_old (w.drewN k) os hj⟩
  have HC := Lib.hid C
  clear C htab hu
  go_enter Tryd.func17, Tryd.ntmps17
  go_wp2_with (go_at_call 40; refine HC.out.mono ?_; rintro e w' ⟨rfl, hb⟩)
  go_ret
  exact ⟨rfl, hb⟩
theorem name_no (k u : Nat) (hk : k < 256) (hu : u < 18446744073709551616) (h : (kindOk k && decide (u < 1000000000000)) = false) (w : World) : Calls Tryd.prog 6 #[.int .u8 (k : Int), .int .u64 (u : Int)] w fun e w' => e = .returned (.string ⟨#[]⟩) ∧ w' = w := by
  have C := Lib.hid (isKind_any k hk w)
  cases hb : kindOk k with
  | false =>
    rw [hb] at C
    clear hu
    go_enter Tryd.func6, Tryd.ntmps6
    go_wp2_with (go_at_call 16; refine C.out.mono ?_; rintro e w' ⟨rfl, rfl⟩)
    go_ret
    exact ⟨rfl, rfl⟩
  | true =>
    rw [hb] at C h
    have q : (u : Int) > 999999999999 := by simp at h; omega
    clear h hu
    go_enter Tryd.func6, Tryd.ntmps6
    go_wp2_with (go_at_call 16; refine C.out.mono ?_; rintro e w' ⟨rfl, rfl⟩)
    go_ret
    exact ⟨rfl, rfl⟩
set_option maxHeartbeats 1000000 in
theorem name_yes (k u : Nat) (hk : kindOk k = true) (hu : u < 1000000000000) (w : World) (htab : Lib.TabIs Tryd.prog w "internal/strconv.uint64pow10" .u64 Lib.pow10Tab) : Calls Tryd.prog 6 #[.int .u8 (k : Int), .int .u64 (u : Int)] w fun e w' => e = .returned (.string (nm k u)) ∧ RowKit.Below w.heap.size w w' := by
  have hk2 : k < 256 := by simp [kindOk] at hk; omega
  have C := Lib.hid (isKind_any k hk2 w)
  rw [hk] at C
  have F := Lib.hid (fmtU u (by omega) w htab)
  have q : ¬ (u : Int) > 999999999999 := by omega
  have hnd : Lib.nDigits u ≤ 12 := nDig_le u 12 (by omega) (by omega)
  obtain ⟨D, hD⟩ : ∃ D : ByteArray, D = ⟨(Lib.decDigits u).toArray⟩ := ⟨_, rfl⟩
  have hDs : D.size = Lib.nDigits u := by rw [hD, ← Lib.decDigits_length]; rfl
  rw [← hD] at F
  have ec : (12 : Int) - (D.size : Int) = ((12 - Lib.nDigits u : Nat) : Int) := by omega
  have wc : IntKind.i64.wrap (12 - (D.size : Int)) = ((12 - Lib.nDigits u : Nat) : Int) := by rw [IntWalk.i64_in _ (by omega), ec]
  have R := fun w => Lib.hid (repeat_any (12 - Lib.nDigits u) (by omega) w)
  obtain ⟨S, hS⟩ : ∃ S, S = ofB (List.replicate (12 - Lib.nDigits u) 48) := ⟨_, rfl⟩
  rw [← hS] at R
  obtain ⟨K, hK⟩ : ∃ K, K = ofB [k, 45] := ⟨_, rfl⟩
  obtain ⟨Z1, hZ1⟩ : ∃ Z, Z = ofB ([k, 45] ++ List.replicate (12 - Lib.nDigits u) 48) := ⟨_, rfl⟩
  have hadd1 : ∀ w, (Op.stringOp .add K S).run Tryd.prog w = .ok (.string Z1) w := add_ofB _ _ K S Z1 hK hS hZ1 (by simp) (by simp; omega)
  have hadd2 : ∀ w, (Op.stringOp .add Z1 D).run Tryd.prog w = .ok (.string (nm k u)) w := fun w => by
    rw [run_string_add w Z1 D (by rw [hZ1, ofB_size]; simp; omega) (by rw [hDs]; omega)]
    congr 2
    unfold nm nameB
    rw [if_pos (by rw [hk, Bool.true_and, decide_eq_true_eq]; exact hu), hZ1, hD]
    apply ByteArray.ext
    have := pad_is u 12 (by omega) (by omega)
    simp only [ofB, ByteArray.data_append, List.map_cons, this]
    simp
  have hcA : ∀ (W : World) (H : Nat), H < W.heap.size → W.cell? ⟨H, 0, none⟩ = some (.int .u8 (k : Int)) → W.cell? ⟨H, 1, none⟩ = some (.int .u8 45) → (convert 23 9 (.slice (some ⟨H, 0, none⟩) 2 2)).run Tryd.prog W = .ok (.string K) W := fun W H hH h0 h1 => by
    rw [hK]
    refine conv_back W ⟨H, 0, none⟩ 2 2 [k, 45] ⟨fun _ => ⟨H, 0, rfl, hH, fun i x hx => ?_⟩, by simp [hk2]⟩ rfl
    match i, hx with
    | 0, hx => simp at hx; subst hx; exact h0
    | 1, hx => simp at hx; subst hx; exact h1
  have hcN : ∀ w : World, (convert 23 9 (.slice (some ⟨w.heap.size, 0, none⟩) 2 2)).run Tryd.prog (w.alloc (.cells #[.int .u8 (k : Int), .int .u8 45] 5)) = .ok (.string K) (w.alloc (.cells #[.int .u8 (k : Int), .int .u8 45] 5)) := fun w =>
    hcA _ _ (by simp) (by rw [World.cell?_alloc_at _ _ _ _ rfl]; rfl) (by rw [World.cell?_alloc_at _ _ _ _ rfl]; rfl)
  have hcD : ∀ w : World, (convert 23 9 (.slice (some ⟨w.heap.size, 0, none⟩) 2 2)).run Tryd.prog (w.alloc (.cells #[.int .u8 (k : Int), .int .u8 45] 5)).drew = .ok (.string K) (w.alloc (.cells #[.int .u8 (k : Int), .int .u8 45] 5)).drew := fun w =>
    hcA _ _ (by simp) (by rw [World.cell?_drew, World.cell?_alloc_at _ _ _ _ rfl]; rfl) (by rw [World.cell?_drew, World.cell?_alloc_at _ _ _ _ rfl]; rfl)
  have hcO : ∀ w w2 : World, RowKit.Below (w.alloc (.cells #[.int .u8 (k : Int), .int .u8 45] 5)).drew.heap.size (w.alloc (.cells #[.int .u8 (k : Int), .int .u8 45] 5)).drew w2 → (convert 23 9 (.slice (some ⟨w.heap.size, 0, none⟩) 2 2)).run Tryd.prog w2 = .ok (.string K) w2 := fun w w2 hb =>
    hcA _ _ (Nat.lt_of_lt_of_le (by simp) hb.size) ((hb.cell (p := ⟨w.heap.size, 0, none⟩) (by simp)).trans (by rw [World.cell?_drew, World.cell?_alloc_at _ _ _ _ rfl]; rfl)) ((hb.cell (p := ⟨w.heap.size, 1, none⟩) (by simp)).trans (by rw [World.cell?_drew, World.cell?_alloc_at _ _ _ _ rfl]; rfl))
  have HcN := Lib.hid hcN
  have HcD := Lib.hid hcD
  have HcO := Lib.hid hcO
  clear hcN hcD hcO hcA hK hS hZ1 hD hDs hnd ec htab hu hk
  go_enter Tryd.func6, Tryd.ntmps6
  go_upto_region 4 with (first | (go_at_call 16; refine C.out.mono ?_; rintro e w' ⟨rfl, hw⟩; rw [hw]; clear hw) | (go_at_call 17; refine F.out.mono ?_; rintro e w1 ⟨rfl, hb1⟩))
  have hc0 := HcD.out w1
  go_region_with (go_at_call 18; refine (R _).out.mono ?_; rintro e w2 ⟨rfl, hb2⟩; have hc2 := HcN.out w2; (try have hc3 := HcO.out _ _ hb2))
  all_goals (go_wp2; go_ret)
  all_goals (refine ⟨rfl, bl_st hb1 ?_⟩; first | exact bl_st (((RowKit.Below.refl _ _).alloc (Nat.le_refl _) _).drew) hb2 | exact (bl_st (RowKit.Below.refl _ _).drew hb2).alloc (bl_st (RowKit.Below.refl _ _).drew hb2).size _)
end Nms
end YtdbiliigbinmfaaDoor
end Go.Proofs
