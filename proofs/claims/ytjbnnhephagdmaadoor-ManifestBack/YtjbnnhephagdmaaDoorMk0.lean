import Derived.Test.YtjbnnhephagdmaaDoorMr3
import Derived.Test.YtjbnnhephagdmaaDoorTxp
import Derived.Shelf.Strings.Repeat
import Derived.Shelf.Lay
import Derived.Ground.NamesProg
import Derived.Lib.Agree
import Derived.Deep.QuietTactic
import Derived.BigQuiet
import Derived.Deep.RegionWith
namespace Go.Proofs
open Go.Shelf Go.RowKit
shelf_lay Lays.n105 Nm 105 at Tryd as Tryd.repA
theorem Tryd.repExtra : Builder.Extra Tryd.prog Tryd.repA_ren where
  sizeBuilder := by kernel_rfl
  liesBuilder := by kernel_rfl
  t5 := Tryd.repA.t5
  a5 := Tryd.repA.a5
  z5 := Tryd.repA.z5
  v5 := Tryd.repA.v5
  infoByte := by kernel_rfl
  cellsByte := by kernel_rfl
  sizeByte := by kernel_rfl
  neB5 := by decide
namespace YtjbnnhephagdmaaDoor
namespace Mnf
open Go.RowKit CMath Byt Cod Crw Irw Laws
set_option linter.unusedVariables false
set_option linter.unusedSimpArgs false
set_option maxRecDepth 20000
theorem bl_st {w1 X w2 : World} (h : Below w1.heap.size w1 X) (hb : Below X.heap.size X w2) : Below w1.heap.size w1 w2 := h.trans (hb.mono h.size)
theorem repF : Tryd.repA_ren.f 105 = 30 := by kernel_rfl
theorem repeat11 (w : World) :
    Calls Tryd.prog 30 #[.string ⟨#[48]⟩, .int .i64 11] w fun e w' => e = .returned (.string ⟨#[48, 48, 48, 48, 48, 48, 48, 48, 48, 48, 48]⟩) ∧ Below w.heap.size w w' := by
  have h := Any.strings_Repeat Tryd.repA Tryd.repExtra ⟨#[48]⟩ 11 w (by omega) (by decide)
  rw [repF] at h
  exact h
theorem small7 (w : World) : Calls Tryd.prog 60 #[.int .i64 7] w fun e w' => e = .returned (.string ⟨#[55]⟩) ∧ w' = w := by
  go_enter Tryd.func60, Tryd.ntmps60
  go_wp2
  go_ret
  exact ⟨rfl, rfl⟩
theorem ifmt7 (w : World) : Calls Tryd.prog 47 #[.int .u64 7, .int .i64 10] w fun e w' => e = .returned (.string ⟨#[55]⟩) ∧ w' = w := by
  go_enter Tryd.func47, Tryd.ntmps47
  go_wp2_with (go_at_call 60; refine (small7 _).mono ?_; rintro e w' ⟨rfl, rfl⟩)
  go_ret
  exact ⟨rfl, rfl⟩
theorem fmt7 (w : World) : Calls Tryd.prog 29 #[.int .u64 7, .int .i64 10] w fun e w' => e = .returned (.string ⟨#[55]⟩) ∧ w' = w := by
  go_enter Tryd.func29, Tryd.ntmps29
  go_wp2_with (go_at_call 47; refine (ifmt7 _).mono ?_; rintro e w' ⟨rfl, rfl⟩)
  go_ret
  exact ⟨rfl, rfl⟩
theorem isKind_t (w : World) : Calls Tryd.prog 28 #[.int .u8 116] w fun e w' => e = .returned (.bool true) ∧ w' = w := by
  go_enter Tryd.func28, Tryd.ntmps28
  go_wp2
  go_ret
  exact ⟨rfl, rfl⟩
theorem tb_isB (W : World) (H : Nat) (hH : H < W.heap.size) (h0 : W.cell? ⟨H, 0, none⟩ = some (.int .u8 116)) (h1 : W.cell? ⟨H, 1, none⟩ = some (.int .u8 45)) : IsB W (some ⟨H, 0, none⟩) [116, 45] := by
  refine ⟨fun _ => ⟨H, 0, rfl, hH, fun i x hx => ?_⟩, by decide⟩
  match i, hx with
  | 0, hx => simp at hx; subst hx; exact h0
  | 1, hx => simp at hx; subst hx; exact h1
theorem tb_conv (W : World) (H : Nat) (hH : H < W.heap.size) (h0 : W.cell? ⟨H, 0, none⟩ = some (.int .u8 116)) (h1 : W.cell? ⟨H, 1, none⟩ = some (.int .u8 45)) :
    (convert 35 9 (.slice (some ⟨H, 0, none⟩) 2 2)).run Tryd.prog W = .ok (.string ⟨#[116, 45]⟩) W := conv_back W ⟨H, 0, none⟩ 2 2 [116, 45] (tb_isB W H hH h0 h1) rfl
theorem tb_new (w : World) : (convert 35 9 (.slice (some ⟨w.heap.size, 0, none⟩) 2 2)).run Tryd.prog (w.alloc (.cells #[.int .u8 116, .int .u8 45] 5)) = .ok (.string ⟨#[116, 45]⟩) (w.alloc (.cells #[.int .u8 116, .int .u8 45] 5)) :=
  tb_conv _ _ (by simp) (by rw [World.cell?_alloc_at _ _ _ _ rfl]; rfl) (by rw [World.cell?_alloc_at _ _ _ _ rfl]; rfl)
theorem tb_newd (w : World) : (convert 35 9 (.slice (some ⟨w.heap.size, 0, none⟩) 2 2)).run Tryd.prog (w.alloc (.cells #[.int .u8 116, .int .u8 45] 5)).drew = .ok (.string ⟨#[116, 45]⟩) (w.alloc (.cells #[.int .u8 116, .int .u8 45] 5)).drew :=
  tb_conv _ _ (by simp) (by rw [World.cell?_drew, World.cell?_alloc_at _ _ _ _ rfl]; rfl) (by rw [World.cell?_drew, World.cell?_alloc_at _ _ _ _ rfl]; rfl)
theorem tb_old (w w2 : World) (hb : Below (w.alloc (.cells #[.int .u8 116, .int .u8 45] 5)).drew.heap.size (w.alloc (.cells #[.int .u8 116, .int .u8 45] 5)).drew w2) : (convert 35 9 (.slice (some ⟨w.heap.size, 0, none⟩) 2 2)).run Tryd.prog w2 = .ok (.string ⟨#[116, 45]⟩) w2 :=
  tb_conv _ _ (Nat.lt_of_lt_of_le (by simp) hb.size) ((hb.cell (p := ⟨w.heap.size, 0, none⟩) (by simp)).trans (by rw [World.cell?_drew, World.cell?_alloc_at _ _ _ _ rfl]; rfl)) ((hb.cell (p := ⟨w.heap.size, 1, none⟩) (by simp)).trans (by rw [World.cell?_drew, World.cell?_alloc_at _ _ _ _ rfl]; rfl))
set_option maxHeartbeats 1000000 in
theorem name7 (w : World) : Calls Tryd.prog 15 #[.int .u8 116, .int .u64 7] w fun e w' => e = .returned (.string ⟨#[116, 45, 48, 48, 48, 48, 48, 48, 48, 48, 48, 48, 48, 55]⟩) ∧ Below w.heap.size w w' := by
  have hc0 := tb_newd w
  go_enter Tryd.func15, Tryd.ntmps15
  go_upto_region 4 with (first | (go_at_call 28; refine (isKind_t _).mono ?_; rintro e w' ⟨rfl, hw⟩; rw [hw]; clear hw) | (go_at_call 29; refine (fmt7 _).mono ?_; rintro e w' ⟨rfl, hw⟩; rw [hw]; clear hw))
  go_region_with (go_at_call 30; refine (repeat11 _).mono ?_; rintro e w2 ⟨rfl, hb2⟩; have hc2 := tb_new w2; (try have hc3 := tb_old _ _ hb2))
  all_goals (go_wp2; go_ret)
  all_goals (refine ⟨rfl, ?_⟩; first | exact bl_st (((Below.refl _ _).alloc (Nat.le_refl _) _).drew) hb2 | exact (bl_st (Below.refl _ _).drew hb2).alloc (bl_st (Below.refl _ _).drew hb2).size _)
end Mnf
end YtjbnnhephagdmaaDoor
end Go.Proofs
