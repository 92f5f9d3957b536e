import Derived.Test.YtaejjpbpnedblaaGreatFs0
import Derived.OrdersHeld
import Derived.Deep.CutRange
import Derived.Deep.CutBlock
import Derived.Deep.DeepCutAuto
import Derived.Deep.RegionHeld3
import Derived.BigQuiet
namespace Go.Proofs.YtaejjpbpnedblaaGreat
namespace Vr
open Go.Shelf Go.RowKit Go.Lib Go.Sort Go.Maps Go.ChangeMaps Go.MapKept Laws Irw Crw
set_option linter.unusedVariables false
set_option linter.unusedSimpArgs false
set_option maxRecDepth 20000
set_option maxHeartbeats 8000000 in
theorem found_any (c : Cf) (vb : Nat) (V : Lv) (pa : Option Addr) (pc : Nat) (ps : List ByteArray) (f : Nat) (la : Option Addr) (ln lc : Nat) (xs : List Int) (sa : Option Addr) (sn sc : Nat) (od : List Nat) (w : World) (h : FoH c vb V pa pc ps f la ln lc xs sa sn sc od w) :
    Calls Tryz.prog 20 #[.agg (cfgA c), .pointer (some ⟨vb, 0, none⟩), .slice pa ps.length pc, .slice la ln lc, .slice sa sn sc] w fun e w' => e = .returned (.bool true) ∧ RowKit.Below w.heap.size w w' := by
  have hsn : sn = od.length := by have := h.s.2.1; rw [zI_len] at this; exact this
  subst hsn
  obtain ⟨W, hW⟩ : ∃ X, w.alloc (Obj.cells (cfgA c) 23) = X := ⟨_, rfl⟩
  have HW : Hid (RowKit.Below w.heap.size w W ∧ Lc W w.heap.size c ∧ w.heap.size < W.heap.size) := by
    subst hW
    exact ⟨(Below.refl _ _).alloc (Nat.le_refl _) _, lc_new w c 23, by simp⟩
  have hLW := HW.out.2.1
  have HX := hidV h
  obtain ⟨J, hJ⟩ : ∃ J, (nxt f V ps xs od).1 = J := ⟨_, rfl⟩
  obtain ⟨K, hK⟩ : ∃ K, (nxt f V ps xs od).2 = K := ⟨_, rfl⟩
  have hnx := h.nx
  have hfx := h.fx
  have HFX : Hid ((K = 0 ∨ K = 1 ∨ K = 2) ∧ (∀ z : Nat, od[0]? = some z → (hitsL xs (jobL f V ps z) = false ↔ (K = 2 ∧ J.lv = (z : Int)))) ∧ (K ≠ 2 → J = noJ ∧ (K = 0 ↔ od.length = 0)) ∧ (K = 2 → ∃ (p z : Nat), od[p]? = some z ∧ J = jobL f V ps z ∧ lvl od z = (p : Int) ∧ hitsL xs (jobL f V ps z) = false ∧ ∀ (m y : Nat), m < p → od[m]? = some y → y ≠ z ∧ y ≠ z + 1 ∧ y + 1 ≠ z)) := by
    subst hJ hK
    exact ⟨hfx.k, hfx.fst, hfx.non, hfx.fnd⟩
  rw [hJ, hK, hW] at hnx
  have HN := hidV hnx
  have hol := h.ol
  clear hfx hnx h hJ hK
  go_enter Tryz.func20, Tryz.ntmps20
  go_upto_region 2 with (first
    | ((try rw [hW]); refine wpList_cfg (by rfl) _ (by rfl) (by rfl) hLW ?_)
    | (go_at_call 36; go_loud ((try rw [hW]); refine HN.out.mono ?_; rintro e w1 ⟨⟨ua, un, uc⟩, ⟨va, vn, vc⟩, rfl, hj1, hb1⟩; have H1 := hidV (And.intro hj1 hb1); clear hj1 hb1; unfold jbV)))
  clear hW hLW
  obtain ⟨W1, hW1⟩ : ∃ X, w1.alloc (Obj.cells #[.int .i64 J.lv, .slice ua un uc, .slice va vn vc, .string J.cut, .bool J.mv] 62) = X := ⟨_, rfl⟩
  have HS : Hid (FoS w c V J (ua, un, uc) (va, vn, vc) w1.heap.size W1) := by
    subst hW1
    have hb := (Below.refl w1.heap.size w1).alloc (Nat.le_refl _) (Obj.cells #[.int .i64 J.lv, .slice ua un uc, .slice va vn vc, .string J.cut, .bool J.mv] 62)
    have h1 := HW.out.1.trans (H1.out.2.mono HW.out.1.size)
    have := H1.out.2.size
    exact ⟨h1.trans (hb.mono h1.size), (HW.out.2.1.keep HW.out.2.2 H1.out.2).keep (by have := HW.out.2.2; omega) hb, by have := HW.out.2.2; simp; omega, Zb.new w1 _ _, H1.out.1.below hb⟩
  (try rw [hW1])
  clear hW1
  generalize w1.heap.size = B at *
  clear HW HN H1
  by_cases h0 : od.length = 0
  · have h0i : (od.length : Int) = 0 := by omega
    have hk0 : K = 0 ∧ J = noJ := by
      have hk2 : K ≠ 2 := fun e => by
        obtain ⟨p, z, h1, _⟩ := HFX.out.2.2.2 e
        have := (List.getElem?_eq_some_iff.1 h1).1
        omega
      exact ⟨(HFX.out.2.2.1 hk2).2.2 h0, (HFX.out.2.2.1 hk2).1⟩
    obtain ⟨rfl, rfl⟩ := hk0
    have j0 := HS.out.jz.2.1 0 _ rfl
    have j1 := HS.out.jz.2.1 1 _ rfl
    have j2 := HS.out.jz.2.1 2 _ rfl
    have j3 := HS.out.jz.2.1 3 _ rfl
    have j4 := HS.out.jz.2.1 4 _ rfl
    simp only at j1 j2
    have HSJ : Hid (Calls Tryz.prog 35 #[jbV noJ.lv (ua, un, uc) (va, vn, vc) noJ.cut noJ.mv, jbV noJ.lv nS nS noJ.cut noJ.mv] W1 fun e w' => e = .returned (.bool true) ∧ RowKit.Below W1.heap.size W1 w') := sameJob_true noJ _ _ _ _ W1 HS.out.ja (noJ_at W1) (by simp [noJ])
    unfold jbV at HSJ
    simp only [nS] at HSJ
    go_wp2_with (go_at_call 35; go_loud (refine HSJ.out.mono ?_; rintro e w9 ⟨rfl, hb9⟩; have HB9 := hidV hb9; clear hb9))
    go_ret
    exact ⟨by simp, HS.out.b.trans (HB9.out.mono HS.out.b.size)⟩

  · have h0i : ¬ (od.length : Int) = 0 := by omega
    have h0p : (0 : Int) < (od.length : Int) := by omega
    have hod0 : ¬ od = [] := fun e => h0 (by rw [e]; rfl)
    obtain ⟨z0, hz0⟩ : ∃ z, od[0]? = some z := ⟨_, List.getElem?_eq_getElem (by omega)⟩
    obtain ⟨ob, oo, rfl, hob, hcell⟩ := (HX.out.s.below HS.out.b).cell (i := 0) (x := (z0 : Int)) (by unfold zI; rw [List.getElem?_map, hz0]; rfl)
    have hc0 : W1.cell? ⟨ob, oo, none⟩ = some (.int .i64 (z0 : Int)) := by
      have := hcell 0 _ rfl
      simpa [kI] using this
    obtain ⟨J0, hJ0⟩ : ∃ X, jobL f V ps z0 = X := ⟨_, rfl⟩
    have HF0 : Hid ((hitsL xs J0 = false ↔ (K = 2 ∧ J.lv = (z0 : Int))) ∧ (J0.up.length ≤ 1000000 ∧ J0.lo.length ≤ 1000000)) := by
      rw [← hJ0]
      exact ⟨HFX.out.2.1 z0 hz0, jobL_len HX.out.v.1⟩
    have HIN : Hid (∀ X, RowKit.Below W1.heap.size W1 X → Calls Tryz.prog 18 #[.agg (cfgA c), .pointer (some ⟨vb, 0, none⟩), .slice pa ps.length pc, .int .i64 (z0 : Int)] X fun e w' => ∃ (ua : Option Addr) (un uc : Nat) (va : Option Addr) (vn vc : Nat), e = .returned (.tuple #[jbV J0.lv (ua, un, uc) (va, vn, vc) J0.cut J0.mv, .bool true]) ∧ JAt w' (ua, un, uc) (va, vn, vc) J0 ∧ RowKit.Below X.heap.size X w' ∧ (∀ b off, ua = some ⟨b, off, none⟩ → X.heap.size ≤ b) ∧ ∀ b off, va = some ⟨b, off, none⟩ → X.heap.size ≤ b) := fun X hX => by
      obtain ⟨g1, g2, g3⟩ := HX.out.og z0 (List.mem_of_getElem? hz0)
      have hbX := HS.out.b.trans (hX.mono HS.out.b.size)
      rw [← hJ0]
      refine (inputsL_any c vb V pa pc ps z0 f _ X (HX.out.v.below hbX) HX.out.cr HX.out.no (HX.out.p.below hbX) HX.out.pl HX.out.f_ g1 g2 g3).mono ?_
      rintro e w' ⟨⟨ua, un, uc⟩, ⟨va, vn, vc⟩, he, hj, hb, hu, hl⟩
      exact ⟨ua, un, uc, va, vn, vc, he, hj, hb, hu, hl⟩
    have HST : Hid (∀ X, RowKit.Below W1.heap.size W1 X → Lc X w.heap.size c ∧ RowKit.Below W1.heap.size W1 X ∧ X.cell? ⟨ob, oo, none⟩ = some (.int .i64 (z0 : Int))) := fun X hX => ⟨HS.out.cf.keep HS.out.cl hX, hX, (hX.cell (p := ⟨ob, oo, none⟩) hob).trans hc0⟩
    have HZ0 := hidV (And.intro hz0 hJ0)
    have HOB : Hid (ob < W1.heap.size ∧ W1.cell? ⟨ob, oo, none⟩ = some (.int .i64 (z0 : Int))) := ⟨hob, hc0⟩
    clear hz0 hJ0 hcell hc0 hob
    go_wp2_with fail
    go_cut [13, 14] (fun v13 v14 wx => v14 = .bool true ∧ Hid (JBy W1 wx v13 J0))
    case first =>
      refine wp_region_held_drew (S := (fun X => Lc X w.heap.size c ∧ RowKit.Below W1.heap.size W1 X ∧ X.cell? ⟨ob, oo, none⟩ = some (.int .i64 (z0 : Int)))) (by kernel_rfl) ?_ (fun hHeld => ?_)
      · exact HST.out _ (Below.refl _ _).drew
      refine wpAnyH_take (i := 0) (oi := { dst := some 32, op := Go.Op.load 23 (Go.Operand.tmp 5), type := 23, pos := "outright.go:154", after := #[], guard := none }) rfl (by kernel_rfl) (by kernel_rfl) (by kernel_rfl) (fun _ _ _ h => h) (yl_cfg (by rfl) _ (by rfl) (by rfl) (fun V h => h.1)) hHeld ?_
      try simp only [Act.put, List.setIfInBounds_toArray, List.set_cons_zero, List.set_cons_succ]
      refine wpAnyH_take (i := 1) (oi := { dst := some 33, op := Go.Op.move (Go.Operand.tmp 1), type := 29, pos := "outright.go:154", after := #[], guard := none }) (v := ?_) rfl (by kernel_rfl) (by kernel_rfl) (by kernel_rfl) (fun _ _ _ h => h) (Or.inl ⟨by rfl, ?_⟩) hHeld ?_
      rotate_left
      · (intro wq hSw; (try dsimp only at hSw); go_simp; try (with_reducible rfl))
      try simp only [Act.put, List.setIfInBounds_toArray, List.set_cons_zero, List.set_cons_succ]
      refine wpAnyH_take (i := 2) (oi := { dst := some 34, op := Go.Op.move (Go.Operand.tmp 2), type := 25, pos := "outright.go:154", after := #[], guard := none }) (v := ?_) rfl (by kernel_rfl) (by kernel_rfl) (by kernel_rfl) (fun _ _ _ h => h) (Or.inl ⟨by rfl, ?_⟩) hHeld ?_
      rotate_left
      · (intro wq hSw; (try dsimp only at hSw); go_simp; try (with_reducible rfl))
      try simp only [Act.put, List.setIfInBounds_toArray, List.set_cons_zero, List.set_cons_succ]
      refine wpAnyH_take (i := 3) (oi := { dst := some 35, op := Go.Op.move (Go.Operand.tmp 4), type := 35, pos := "outright.go:154", after := #[], guard := none }) (v := ?_) rfl (by kernel_rfl) (by kernel_rfl) (by kernel_rfl) (fun _ _ _ h => h) (Or.inl ⟨by rfl, ?_⟩) hHeld ?_
      rotate_left
      · (intro wq hSw; (try dsimp only at hSw); go_simp; try (with_reducible rfl))
      try simp only [Act.put, List.setIfInBounds_toArray, List.set_cons_zero, List.set_cons_succ]
      refine wpAnyH_take (i := 4) (oi := { dst := some 36, op := Go.Op.indexAddr 35 (Go.Operand.tmp 35) (Go.Operand.const (Go.Value.int Go.IntKind.i64 0)), type := 0, pos := "outright.go:154", after := #[{ on := 3, ground := Go.Ground.data }], guard := none }) (v := ?_) rfl (by kernel_rfl) (by kernel_rfl) (by kernel_rfl) (fun _ _ _ h => h) (Or.inl ⟨by rfl, ?_⟩) hHeld ?_
      rotate_left
      · (intro wq hSw; (try dsimp only at hSw); go_simp; try (with_reducible rfl))
      try simp only [Act.put, List.setIfInBounds_toArray, List.set_cons_zero, List.set_cons_succ]
      refine wpAnyH_take (i := 5) (oi := { dst := some 37, op := Go.Op.load 3 (Go.Operand.tmp 36), type := 3, pos := "outright.go:154", after := #[{ on := 4, ground := Go.Ground.data }], guard := none }) (v := ?_) rfl (by kernel_rfl) (by kernel_rfl) (by kernel_rfl) (fun _ _ _ h => h) (Or.inl ⟨by rfl, ?_⟩) hHeld ?_
      rotate_left
      · (intro wq hSw; (try dsimp only at hSw); go_simp; try (with_reducible rfl))
      try simp only [Act.put, List.setIfInBounds_toArray, List.set_cons_zero, List.set_cons_succ]
      refine wpAnyH_ready (rs := [6, 10]) (by kernel_rfl) (by simp) ?_
      refine (AllReadyH.cons (o := { dst := some 38, op := Go.Op.call { callee := Go.Callee.value (Go.Operand.func 18), args := #[Go.Operand.tmp 32, Go.Operand.tmp 33, Go.Operand.tmp 34, Go.Operand.tmp 37], argTypes := #[23, 29, 25, 3] }, type := 63, pos := "outright.go:154", after := #[{ on := 0, ground := Go.Ground.data }, { on := 1, ground := Go.Ground.data }, { on := 2, ground := Go.Ground.data }, { on := 5, ground := Go.Ground.data }], guard := none }) rfl (fun K hK => ?_) (AllReadyH.cons (o := { dst := some 13, op := Go.Op.alloc 62, type := 0, pos := "outright.go:154", after := #[], guard := none }) rfl (fun K hK => ?_) AllReadyH.nil))
      · skip
        go_simp
        refine (HIN.out _ hHeld.2.1).mono ?_
        rintro e wB ⟨ua0, un0, uc0, va0, vn0, vc0, rfl, hjB, hbB, huB, hlB⟩
        have hBb : Hid (RowKit.Below W1.heap.size W1 wB) := hHeld.2.1.trans (hbB.mono hHeld.2.1.size)
        unfold jbV
        try dsimp only
        refine hK.out _ _ ?_ (fun hHeld => ?_)
        · exact HST.out _ hBb.out
        clear hK K
        try simp only [Act.put, List.setIfInBounds_toArray, List.set_cons_zero, List.set_cons_succ]
        refine wpAnyH_take (i := 7) (oi := { dst := some 31, op := Go.Op.move (Go.Operand.tmp 38), type := 63, pos := "outright.go:154", after := #[{ on := 6, ground := Go.Ground.data }], guard := none }) (v := ?_) rfl (by kernel_rfl) (by kernel_rfl) (by kernel_rfl) (fun _ _ _ h => h) (Or.inl ⟨by rfl, ?_⟩) hHeld ?_
        rotate_left
        · (intro wq hSw; (try dsimp only at hSw); go_simp; try (with_reducible rfl))
        try simp only [Act.put, List.setIfInBounds_toArray, List.set_cons_zero, List.set_cons_succ]
        refine wpAnyH_take (i := 8) (oi := { dst := some 39, op := Go.Op.extract (Go.Operand.tmp 31) 0, type := 62, pos := "outright.go:154", after := #[{ on := 7, ground := Go.Ground.data }], guard := none }) (v := ?_) rfl (by kernel_rfl) (by kernel_rfl) (by kernel_rfl) (fun _ _ _ h => h) (Or.inl ⟨by rfl, ?_⟩) hHeld ?_
        rotate_left
        · (intro wq hSw; (try dsimp only at hSw); go_simp; try (with_reducible rfl))
        try simp only [Act.put, List.setIfInBounds_toArray, List.set_cons_zero, List.set_cons_succ]
        refine wpAnyH_take (i := 9) (oi := { dst := some 40, op := Go.Op.extract (Go.Operand.tmp 31) 1, type := 4, pos := "outright.go:154", after := #[{ on := 7, ground := Go.Ground.data }, { on := 11, ground := Go.Ground.gcOnly Go.Departure.lateStores }], guard := none }) (v := ?_) rfl (by kernel_rfl) (by kernel_rfl) (by kernel_rfl) (fun _ _ _ h => h) (Or.inl ⟨by rfl, ?_⟩) hHeld ?_
        rotate_left
        · (intro wq hSw; (try dsimp only at hSw); go_simp; try (with_reducible rfl))
        try simp only [Act.put, List.setIfInBounds_toArray, List.set_cons_zero, List.set_cons_succ]
        refine wpAnyH_ready (rs := [10]) (by kernel_rfl) (by simp) ?_
        refine (AllReadyH.cons (o := { dst := some 13, op := Go.Op.alloc 62, type := 0, pos := "outright.go:154", after := #[], guard := none }) rfl (fun K hK => ?_) AllReadyH.nil)
        go_simp
        refine hK.out _ _ ?_ (fun hHeld => ?_)
        · exact HST.out _ (hHeld.2.1.alloc hHeld.2.1.size _)
        clear hK K
        try simp only [Act.put, List.setIfInBounds_toArray, List.set_cons_zero, List.set_cons_succ]
        refine wpAnyH_ready (rs := [11]) (by kernel_rfl) (by simp) ?_
        refine (AllReadyH.cons (o := { dst := none, op := Go.Op.store 62 (Go.Operand.tmp 13) (Go.Operand.tmp 39), type := 0, pos := "outright.go:154", after := #[{ on := 10, ground := Go.Ground.data }, { on := 8, ground := Go.Ground.data }, { on := 6, ground := Go.Ground.chain }, { on := 0, ground := Go.Ground.phase }, { on := 1, ground := Go.Ground.phase }, { on := 2, ground := Go.Ground.phase }, { on := 3, ground := Go.Ground.phase }, { on := 4, ground := Go.Ground.phase }, { on := 5, ground := Go.Ground.phase }, { on := 6, ground := Go.Ground.phase }, { on := 7, ground := Go.Ground.phase }, { on := 8, ground := Go.Ground.phase }, { on := 9, ground := Go.Ground.textOnly Go.Departure.lateStores }, { on := 10, ground := Go.Ground.phase }], guard := none }) rfl (fun K hK => ?_) AllReadyH.nil)
        have hzz : Zb (wB.alloc (Obj.cells #[.int .i64 0, .slice none 0 0, .slice none 0 0, .string ⟨#[]⟩, .bool false] 62)) wB.heap.size (jbC 0 nS nS ⟨#[]⟩ false) := (Zb.new wB #[.int .i64 0, .slice none 0 0, .slice none 0 0, .string ⟨#[]⟩, .bool false] 62)
        have z0 := hzz.2.1 0 _ rfl
        have z1 := hzz.2.1 1 _ rfl
        have z2 := hzz.2.1 2 _ rfl
        have z3 := hzz.2.1 3 _ rfl
        have z4 := hzz.2.1 4 _ rfl
        have f0 := hzz.2.2
        go_simp
        refine hK.out _ _ ?_ (fun hHeld => ?_)
        · exact HST.out _ (hBb.out.alloc hBb.out.size _)
        clear hK K
        try simp only [Act.put, List.setIfInBounds_toArray, List.set_cons_zero, List.set_cons_succ]
        refine wpAnyH_take (i := 12) (oi := { dst := some 14, op := Go.Op.assign (Go.Operand.tmp 40), type := 4, pos := "outright.go:154", after := #[{ on := 9, ground := Go.Ground.data }, { on := 11, ground := Go.Ground.chain }, { on := 0, ground := Go.Ground.phase }, { on := 1, ground := Go.Ground.phase }, { on := 2, ground := Go.Ground.phase }, { on := 3, ground := Go.Ground.phase }, { on := 4, ground := Go.Ground.phase }, { on := 5, ground := Go.Ground.phase }, { on := 6, ground := Go.Ground.phase }, { on := 7, ground := Go.Ground.phase }, { on := 8, ground := Go.Ground.phase }, { on := 9, ground := Go.Ground.phase }, { on := 10, ground := Go.Ground.phase }, { on := 11, ground := Go.Ground.phase }], guard := none }) (v := ?_) rfl (by kernel_rfl) (by kernel_rfl) (by kernel_rfl) (fun _ _ _ h => h) (Or.inl ⟨by rfl, ?_⟩) hHeld ?_
        rotate_left
        · (intro wq hSw; (try dsimp only at hSw); go_simp; try (with_reducible rfl))
        try simp only [Act.put, List.setIfInBounds_toArray, List.set_cons_zero, List.set_cons_succ]
        refine wpAnyH_done (by kernel_rfl) ?_ _
        go_wp2_with fail
        go_meet
        case rel =>
          exact ⟨rfl, jby_alloc (us := (ua0, un0, uc0)) (ls := (va0, vn0, vc0)) hBb.out hjB _⟩
      · skip
        go_simp
        refine hK.out _ _ ?_ (fun hHeld => ?_)
        · exact HST.out _ (hHeld.2.1.alloc hHeld.2.1.size _)
        clear hK K
        try simp only [Act.put, List.setIfInBounds_toArray, List.set_cons_zero, List.set_cons_succ]
        refine wpAnyH_ready (rs := [6]) (by kernel_rfl) (by simp) ?_
        refine (AllReadyH.cons (o := { dst := some 38, op := Go.Op.call { callee := Go.Callee.value (Go.Operand.func 18), args := #[Go.Operand.tmp 32, Go.Operand.tmp 33, Go.Operand.tmp 34, Go.Operand.tmp 37], argTypes := #[23, 29, 25, 3] }, type := 63, pos := "outright.go:154", after := #[{ on := 0, ground := Go.Ground.data }, { on := 1, ground := Go.Ground.data }, { on := 2, ground := Go.Ground.data }, { on := 5, ground := Go.Ground.data }], guard := none }) rfl (fun K hK => ?_) AllReadyH.nil)
        go_simp
        refine (HIN.out _ hHeld.2.1).mono ?_
        rintro e wB ⟨ua0, un0, uc0, va0, vn0, vc0, rfl, hjB, hbB, huB, hlB⟩
        have hBb : Hid (RowKit.Below W1.heap.size W1 wB) := hHeld.2.1.trans (hbB.mono hHeld.2.1.size)
        unfold jbV
        try dsimp only
        refine hK.out _ _ ?_ (fun hHeld => ?_)
        · exact HST.out _ hBb.out
        clear hK K
        try simp only [Act.put, List.setIfInBounds_toArray, List.set_cons_zero, List.set_cons_succ]
        refine wpAnyH_take (i := 7) (oi := { dst := some 31, op := Go.Op.move (Go.Operand.tmp 38), type := 63, pos := "outright.go:154", after := #[{ on := 6, ground := Go.Ground.data }], guard := none }) (v := ?_) rfl (by kernel_rfl) (by kernel_rfl) (by kernel_rfl) (fun _ _ _ h => h) (Or.inl ⟨by rfl, ?_⟩) hHeld ?_
        rotate_left
        · (intro wq hSw; (try dsimp only at hSw); go_simp; try (with_reducible rfl))
        try simp only [Act.put, List.setIfInBounds_toArray, List.set_cons_zero, List.set_cons_succ]
        refine wpAnyH_take (i := 8) (oi := { dst := some 39, op := Go.Op.extract (Go.Operand.tmp 31) 0, type := 62, pos := "outright.go:154", after := #[{ on := 7, ground := Go.Ground.data }], guard := none }) (v := ?_) rfl (by kernel_rfl) (by kernel_rfl) (by kernel_rfl) (fun _ _ _ h => h) (Or.inl ⟨by rfl, ?_⟩) hHeld ?_
        rotate_left
        · (intro wq hSw; (try dsimp only at hSw); go_simp; try (with_reducible rfl))
        try simp only [Act.put, List.setIfInBounds_toArray, List.set_cons_zero, List.set_cons_succ]
        refine wpAnyH_take (i := 9) (oi := { dst := some 40, op := Go.Op.extract (Go.Operand.tmp 31) 1, type := 4, pos := "outright.go:154", after := #[{ on := 7, ground := Go.Ground.data }, { on := 11, ground := Go.Ground.gcOnly Go.Departure.lateStores }], guard := none }) (v := ?_) rfl (by kernel_rfl) (by kernel_rfl) (by kernel_rfl) (fun _ _ _ h => h) (Or.inl ⟨by rfl, ?_⟩) hHeld ?_
        rotate_left
        · (intro wq hSw; (try dsimp only at hSw); go_simp; try (with_reducible rfl))
        try simp only [Act.put, List.setIfInBounds_toArray, List.set_cons_zero, List.set_cons_succ]
        refine wpAnyH_ready (rs := [11]) (by kernel_rfl) (by simp) ?_
        refine (AllReadyH.cons (o := { dst := none, op := Go.Op.store 62 (Go.Operand.tmp 13) (Go.Operand.tmp 39), type := 0, pos := "outright.go:154", after := #[{ on := 10, ground := Go.Ground.data }, { on := 8, ground := Go.Ground.data }, { on := 6, ground := Go.Ground.chain }, { on := 0, ground := Go.Ground.phase }, { on := 1, ground := Go.Ground.phase }, { on := 2, ground := Go.Ground.phase }, { on := 3, ground := Go.Ground.phase }, { on := 4, ground := Go.Ground.phase }, { on := 5, ground := Go.Ground.phase }, { on := 6, ground := Go.Ground.phase }, { on := 7, ground := Go.Ground.phase }, { on := 8, ground := Go.Ground.phase }, { on := 9, ground := Go.Ground.textOnly Go.Departure.lateStores }, { on := 10, ground := Go.Ground.phase }], guard := none }) rfl (fun K hK => ?_) AllReadyH.nil)
        have hzz : Zb wB W1.heap.size (jbC 0 nS nS ⟨#[]⟩ false) := ((Zb.new W1.drew #[.int .i64 0, .slice none 0 0, .slice none 0 0, .string ⟨#[]⟩, .bool false] 62).below hbB)
        have z0 := hzz.2.1 0 _ rfl
        have z1 := hzz.2.1 1 _ rfl
        have z2 := hzz.2.1 2 _ rfl
        have z3 := hzz.2.1 3 _ rfl
        have z4 := hzz.2.1 4 _ rfl
        have f0 := hzz.2.2
        go_simp
        refine hK.out _ _ ?_ (fun hHeld => ?_)
        · exact HST.out _ (sets_below (w0 := W1) (w := wB) W1.heap.size (Nat.le_refl _) (jbC J0.lv (ua0, un0, uc0) (va0, vn0, vc0) J0.cut J0.mv) 0 hBb.out)
        clear hK K
        try simp only [Act.put, List.setIfInBounds_toArray, List.set_cons_zero, List.set_cons_succ]
        refine wpAnyH_take (i := 12) (oi := { dst := some 14, op := Go.Op.assign (Go.Operand.tmp 40), type := 4, pos := "outright.go:154", after := #[{ on := 9, ground := Go.Ground.data }, { on := 11, ground := Go.Ground.chain }, { on := 0, ground := Go.Ground.phase }, { on := 1, ground := Go.Ground.phase }, { on := 2, ground := Go.Ground.phase }, { on := 3, ground := Go.Ground.phase }, { on := 4, ground := Go.Ground.phase }, { on := 5, ground := Go.Ground.phase }, { on := 6, ground := Go.Ground.phase }, { on := 7, ground := Go.Ground.phase }, { on := 8, ground := Go.Ground.phase }, { on := 9, ground := Go.Ground.phase }, { on := 10, ground := Go.Ground.phase }, { on := 11, ground := Go.Ground.phase }], guard := none }) (v := ?_) rfl (by kernel_rfl) (by kernel_rfl) (by kernel_rfl) (fun _ _ _ h => h) (Or.inl ⟨by rfl, ?_⟩) hHeld ?_
        rotate_left
        · (intro wq hSw; (try dsimp only at hSw); go_simp; try (with_reducible rfl))
        try simp only [Act.put, List.setIfInBounds_toArray, List.set_cons_zero, List.set_cons_succ]
        refine wpAnyH_done (by kernel_rfl) ?_ _
        go_wp2_with fail
        go_meet
        case rel =>
          exact ⟨rfl, jby_set (us := (ua0, un0, uc0)) (ls := (va0, vn0, vc0)) (Nat.le_refl _) hzz hjB hBb.out (fun b off e => by have h9 := huB b off e; simp at h9; omega) (fun b off e => by have h9 := hlB b off e; simp at h9; omega)⟩

    case rest =>
      obtain ⟨rfl, hJB⟩ := hcut
      obtain ⟨B0, ⟨ua0, un0, uc0⟩, ⟨va0, vn0, vc0⟩, rfl, hzz, hjj, hbb⟩ := hJB.out
      rename World => Wx
      have HSx := hidV (HS.out.below hbb)
      have HJx := hidV (And.intro hzz (And.intro hjj hbb))
      clear hzz hjj hbb hJB HST HIN
      have e1 : un0 = J0.up.length := HJx.out.2.1.1.2.1
      have e2 : vn0 = J0.lo.length := HJx.out.2.1.2.2.1
      subst e1 e2
      have HST : Hid (∀ X, RowKit.Below Wx.heap.size Wx X → RowKit.Below Wx.heap.size Wx X ∧ X.cell? ⟨B0, 1, none⟩ = some (.slice ua0 J0.up.length uc0) ∧ X.cell? ⟨B0, 2, none⟩ = some (.slice va0 J0.lo.length vc0) ∧ X.cell? ⟨B, 0, none⟩ = some (.int .i64 J.lv) ∧ X.cell? ⟨ob, oo, none⟩ = some (.int .i64 (z0 : Int))) := fun X hX =>
        ⟨hX, (HJx.out.1.below hX).2.1 1 _ rfl, (HJx.out.1.below hX).2.1 2 _ rfl, (HSx.out.jz.below hX).2.1 0 _ rfl, ((HJx.out.2.2.trans (hX.mono HJx.out.2.2.size)).cell (p := ⟨ob, oo, none⟩) HOB.out.1).trans HOB.out.2⟩
      have HFU : Hid (∀ X, RowKit.Below Wx.heap.size Wx X → Calls Tryz.prog 65 #[.slice ua0 J0.up.length uc0, .slice la ln lc] X fun e w' => e = .returned (.bool (freeB xs J0.up)) ∧ w' = X) := fun X hX => free_any _ _ _ _ _ _ _ _ (HJx.out.2.1.1.below hX) HF0.out.2.1 (HX.out.x.below (HSx.out.b.trans (hX.mono HSx.out.b.size))) HX.out.xl HX.out.xo
      have HFL : Hid (∀ X, RowKit.Below Wx.heap.size Wx X → Calls Tryz.prog 65 #[.slice va0 J0.lo.length vc0, .slice la ln lc] X fun e w' => e = .returned (.bool (freeB xs J0.lo)) ∧ w' = X) := fun X hX => free_any _ _ _ _ _ _ _ _ (HJx.out.2.1.2.below hX) HF0.out.2.2 (HX.out.x.below (HSx.out.b.trans (hX.mono HSx.out.b.size))) HX.out.xl HX.out.xo
      have hfh := free_hits xs J0
      rcases HFX.out.1 with hK0 | hK1 | hK2
      · exfalso
        exact h0 ((HFX.out.2.2.1 (by omega)).2.1 hK0)
      · obtain rfl : J = noJ := (HFX.out.2.2.1 (by omega)).1
        have hit : hitsL xs J0 = true := by
          cases hh : hitsL xs J0 with
          | true => rfl
          | false =>
            have := (HF0.out.1.1 hh).1
            omega
        rw [hit] at hfh
        subst hK1
        go_wp2_with fail
        go_cut [61] (fun v wx => v = .bool false ∧ Hid (RowKit.Below Wx.heap.size Wx wx))
        case first =>
          cases hfu : freeB xs J0.up with
          | false =>
            refine wp_region_held_drew (S := (fun X => RowKit.Below Wx.heap.size Wx X ∧ X.cell? ⟨B0, 1, none⟩ = some (.slice ua0 J0.up.length uc0) ∧ X.cell? ⟨B0, 2, none⟩ = some (.slice va0 J0.lo.length vc0) ∧ X.cell? ⟨B, 0, none⟩ = some (.int .i64 noJ.lv) ∧ X.cell? ⟨ob, oo, none⟩ = some (.int .i64 (z0 : Int)))) (by kernel_rfl) ?_ (fun hHeld => ?_)
            · exact HST.out _ (Below.refl _ _).drew
            refine wpAnyH_take (i := 0) (oi := { dst := some 41, op := Go.Op.fieldAddr 62 (Go.Operand.tmp 13) 1, type := 0, pos := "outright.go:155", after := #[], guard := none }) (v := ?_) rfl (by kernel_rfl) (by kernel_rfl) (by kernel_rfl) (fun _ _ _ h => h) (Or.inl ⟨by rfl, ?_⟩) hHeld ?_
            rotate_left
            · (intro wq hSw; (try dsimp only at hSw); go_simp; try (with_reducible rfl))
            try simp only [Act.put, List.setIfInBounds_toArray, List.set_cons_zero, List.set_cons_succ]
            refine wpAnyH_take (i := 1) (oi := { dst := some 42, op := Go.Op.load 58 (Go.Operand.tmp 41), type := 58, pos := "outright.go:155", after := #[{ on := 0, ground := Go.Ground.data }], guard := none }) (v := ?_) rfl (by kernel_rfl) (by kernel_rfl) (by kernel_rfl) (fun _ _ _ h => h) (Or.inl ⟨by rfl, ?_⟩) hHeld ?_
            rotate_left
            · (intro wq hSw; (try dsimp only at hSw); go_simp; try (with_reducible rfl))
            try simp only [Act.put, List.setIfInBounds_toArray, List.set_cons_zero, List.set_cons_succ]
            refine wpAnyH_take (i := 2) (oi := { dst := some 43, op := Go.Op.move (Go.Operand.tmp 3), type := 26, pos := "outright.go:155", after := #[], guard := none }) (v := ?_) rfl (by kernel_rfl) (by kernel_rfl) (by kernel_rfl) (fun _ _ _ h => h) (Or.inl ⟨by rfl, ?_⟩) hHeld ?_
            rotate_left
            · (intro wq hSw; (try dsimp only at hSw); go_simp; try (with_reducible rfl))
            try simp only [Act.put, List.setIfInBounds_toArray, List.set_cons_zero, List.set_cons_succ]
            refine wpAnyH_take (i := 10) (oi := { dst := some 51, op := Go.Op.move (Go.Operand.tmp 12), type := 3, pos := "outright.go:155", after := #[], guard := none }) (v := ?_) rfl (by kernel_rfl) (by kernel_rfl) (by kernel_rfl) (fun _ _ _ h => h) (Or.inl ⟨by rfl, ?_⟩) hHeld ?_
            rotate_left
            · (intro wq hSw; (try dsimp only at hSw); go_simp; try (with_reducible rfl))
            try simp only [Act.put, List.setIfInBounds_toArray, List.set_cons_zero, List.set_cons_succ]
            refine wpAnyH_take (i := 11) (oi := { dst := some 52, op := Go.Op.binOp Go.BinOp.eql 3 (Go.Operand.tmp 51) (Go.Operand.const (Go.Value.int Go.IntKind.i64 2)) 3, type := 4, pos := "outright.go:155", after := #[{ on := 10, ground := Go.Ground.data }], guard := none }) (v := ?_) rfl (by kernel_rfl) (by kernel_rfl) (by kernel_rfl) (fun _ _ _ h => h) (Or.inl ⟨by rfl, ?_⟩) hHeld ?_
            rotate_left
            · (intro wq hSw; (try dsimp only at hSw); go_simp; try (with_reducible rfl))
            try simp only [Act.put, List.setIfInBounds_toArray, List.set_cons_zero, List.set_cons_succ]
            refine wpAnyH_ready (rs := [3]) (by kernel_rfl) (by simp) ?_
            refine (AllReadyH.cons (o := { dst := some 44, op := Go.Op.call { callee := Go.Callee.value (Go.Operand.func 65), args := #[Go.Operand.tmp 42, Go.Operand.tmp 43], argTypes := #[58, 26] }, type := 4, pos := "outright.go:155", after := #[{ on := 1, ground := Go.Ground.data }, { on := 2, ground := Go.Ground.data }], guard := none }) rfl (fun K hK => ?_) AllReadyH.nil)
            go_simp
            refine (HFU.out _ hHeld.1).mono ?_
            rintro e w6 ⟨rfl, hw6⟩
            have hw6' := hw6.symm
            clear hw6
            subst hw6'
            rw [hfu]
            try dsimp only
            refine hK.out _ _ ?_ (fun hHeld => ?_)
            · exact hHeld
            clear hK K
            try simp only [Act.put, List.setIfInBounds_toArray, List.set_cons_zero, List.set_cons_succ]
            refine wpAnyH_take (i := 4) (oi := { dst := some 45, op := Go.Op.move (Go.Operand.tmp 44), type := 4, pos := "outright.go:155", after := #[{ on := 3, ground := Go.Ground.data }, { on := 3, ground := Go.Ground.chain }], guard := none }) (v := ?_) rfl (by kernel_rfl) (by kernel_rfl) (by kernel_rfl) (fun _ _ _ h => h) (Or.inl ⟨by rfl, ?_⟩) hHeld ?_
            rotate_left
            · (intro wq hSw; (try dsimp only at hSw); go_simp; try (with_reducible rfl))
            try simp only [Act.put, List.setIfInBounds_toArray, List.set_cons_zero, List.set_cons_succ]
            refine wpAnyH_take (i := 5) (oi := { dst := some 46, op := Go.Op.fieldAddr 62 (Go.Operand.tmp 13) 2, type := 0, pos := "outright.go:155", after := #[{ on := 4, ground := Go.Ground.guard }], guard := some (4, true) }) (v := undef) rfl (by kernel_rfl) (by kernel_rfl) (by kernel_rfl) (fun _ _ _ h => h) (Or.inr ⟨by rfl, rfl⟩) hHeld ?_
            try simp only [Act.put, List.setIfInBounds_toArray, List.set_cons_zero, List.set_cons_succ]
            refine wpAnyH_take (i := 6) (oi := { dst := some 47, op := Go.Op.load 58 (Go.Operand.tmp 46), type := 58, pos := "outright.go:155", after := #[{ on := 5, ground := Go.Ground.data }, { on := 4, ground := Go.Ground.guard }], guard := some (4, true) }) (v := undef) rfl (by kernel_rfl) (by kernel_rfl) (by kernel_rfl) (fun _ _ _ h => h) (Or.inr ⟨by rfl, rfl⟩) hHeld ?_
            try simp only [Act.put, List.setIfInBounds_toArray, List.set_cons_zero, List.set_cons_succ]
            refine wpAnyH_take (i := 7) (oi := { dst := some 48, op := Go.Op.move (Go.Operand.tmp 3), type := 26, pos := "outright.go:155", after := #[{ on := 4, ground := Go.Ground.guard }], guard := some (4, true) }) (v := undef) rfl (by kernel_rfl) (by kernel_rfl) (by kernel_rfl) (fun _ _ _ h => h) (Or.inr ⟨by rfl, rfl⟩) hHeld ?_
            try simp only [Act.put, List.setIfInBounds_toArray, List.set_cons_zero, List.set_cons_succ]
            refine wpAnyH_take (i := 8) (oi := { dst := some 49, op := Go.Op.call { callee := Go.Callee.value (Go.Operand.func 65), args := #[Go.Operand.tmp 47, Go.Operand.tmp 48], argTypes := #[58, 26] }, type := 4, pos := "outright.go:155", after := #[{ on := 6, ground := Go.Ground.data }, { on := 7, ground := Go.Ground.data }, { on := 4, ground := Go.Ground.chain }, { on := 4, ground := Go.Ground.guard }], guard := some (4, true) }) (v := undef) rfl (by kernel_rfl) (by kernel_rfl) (by kernel_rfl) (fun _ _ _ h => h) (Or.inr ⟨by rfl, rfl⟩) hHeld ?_
            try simp only [Act.put, List.setIfInBounds_toArray, List.set_cons_zero, List.set_cons_succ]
            refine wpAnyH_take (i := 9) (oi := { dst := some 50, op := Go.Op.pick (Go.Operand.tmp 45) (Go.Operand.tmp 49) (Go.Operand.const (Go.Value.bool false)), type := 4, pos := "outright.go:155", after := #[{ on := 4, ground := Go.Ground.data }, { on := 8, ground := Go.Ground.data }], guard := none }) (v := ?_) rfl (by kernel_rfl) (by kernel_rfl) (by kernel_rfl) (fun _ _ _ h => h) (Or.inl ⟨by rfl, ?_⟩) hHeld ?_
            rotate_left
            · (intro wq hSw; (try dsimp only at hSw); go_simp; try (with_reducible rfl))
            try simp only [Act.put, List.setIfInBounds_toArray, List.set_cons_zero, List.set_cons_succ]
            refine wpAnyH_take (i := 12) (oi := { dst := some 53, op := Go.Op.move (Go.Operand.tmp 52), type := 4, pos := "outright.go:155", after := #[{ on := 11, ground := Go.Ground.data }, { on := 8, ground := Go.Ground.chain }], guard := none }) (v := ?_) rfl (by kernel_rfl) (by kernel_rfl) (by kernel_rfl) (fun _ _ _ h => h) (Or.inl ⟨by rfl, ?_⟩) hHeld ?_
            rotate_left
            · (intro wq hSw; (try dsimp only at hSw); go_simp; try (with_reducible rfl))
            try simp only [Act.put, List.setIfInBounds_toArray, List.set_cons_zero, List.set_cons_succ]
            refine wpAnyH_take (i := 13) (oi := { dst := some 54, op := Go.Op.fieldAddr 62 (Go.Operand.tmp 11) 0, type := 0, pos := "outright.go:155", after := #[{ on := 12, ground := Go.Ground.guard }], guard := some (12, true) }) (v := undef) rfl (by kernel_rfl) (by kernel_rfl) (by kernel_rfl) (fun _ _ _ h => h) (Or.inr ⟨by rfl, rfl⟩) hHeld ?_
            try simp only [Act.put, List.setIfInBounds_toArray, List.set_cons_zero, List.set_cons_succ]
            refine wpAnyH_take (i := 14) (oi := { dst := some 55, op := Go.Op.load 3 (Go.Operand.tmp 54), type := 3, pos := "outright.go:155", after := #[{ on := 13, ground := Go.Ground.data }, { on := 12, ground := Go.Ground.guard }], guard := some (12, true) }) (v := undef) rfl (by kernel_rfl) (by kernel_rfl) (by kernel_rfl) (fun _ _ _ h => h) (Or.inr ⟨by rfl, rfl⟩) hHeld ?_
            try simp only [Act.put, List.setIfInBounds_toArray, List.set_cons_zero, List.set_cons_succ]
            refine wpAnyH_take (i := 15) (oi := { dst := some 56, op := Go.Op.move (Go.Operand.tmp 4), type := 35, pos := "outright.go:155", after := #[{ on := 12, ground := Go.Ground.guard }], guard := some (12, true) }) (v := undef) rfl (by kernel_rfl) (by kernel_rfl) (by kernel_rfl) (fun _ _ _ h => h) (Or.inr ⟨by rfl, rfl⟩) hHeld ?_
            try simp only [Act.put, List.setIfInBounds_toArray, List.set_cons_zero, List.set_cons_succ]
            refine wpAnyH_take (i := 16) (oi := { dst := some 57, op := Go.Op.indexAddr 35 (Go.Operand.tmp 56) (Go.Operand.const (Go.Value.int Go.IntKind.i64 0)), type := 0, pos := "outright.go:155", after := #[{ on := 15, ground := Go.Ground.data }, { on := 12, ground := Go.Ground.guard }], guard := some (12, true) }) (v := undef) rfl (by kernel_rfl) (by kernel_rfl) (by kernel_rfl) (fun _ _ _ h => h) (Or.inr ⟨by rfl, rfl⟩) hHeld ?_
            try simp only [Act.put, List.setIfInBounds_toArray, List.set_cons_zero, List.set_cons_succ]
            refine wpAnyH_take (i := 17) (oi := { dst := some 58, op := Go.Op.load 3 (Go.Operand.tmp 57), type := 3, pos := "outright.go:155", after := #[{ on := 16, ground := Go.Ground.data }, { on := 12, ground := Go.Ground.guard }], guard := some (12, true) }) (v := undef) rfl (by kernel_rfl) (by kernel_rfl) (by kernel_rfl) (fun _ _ _ h => h) (Or.inr ⟨by rfl, rfl⟩) hHeld ?_
            try simp only [Act.put, List.setIfInBounds_toArray, List.set_cons_zero, List.set_cons_succ]
            refine wpAnyH_take (i := 18) (oi := { dst := some 59, op := Go.Op.binOp Go.BinOp.eql 3 (Go.Operand.tmp 55) (Go.Operand.tmp 58) 3, type := 4, pos := "outright.go:155", after := #[{ on := 14, ground := Go.Ground.data }, { on := 17, ground := Go.Ground.data }, { on := 12, ground := Go.Ground.guard }], guard := some (12, true) }) (v := undef) rfl (by kernel_rfl) (by kernel_rfl) (by kernel_rfl) (fun _ _ _ h => h) (Or.inr ⟨by rfl, rfl⟩) hHeld ?_
            try simp only [Act.put, List.setIfInBounds_toArray, List.set_cons_zero, List.set_cons_succ]
            refine wpAnyH_take (i := 19) (oi := { dst := some 60, op := Go.Op.pick (Go.Operand.tmp 53) (Go.Operand.tmp 59) (Go.Operand.const (Go.Value.bool false)), type := 4, pos := "outright.go:155", after := #[{ on := 12, ground := Go.Ground.data }, { on := 18, ground := Go.Ground.data }], guard := none }) (v := ?_) rfl (by kernel_rfl) (by kernel_rfl) (by kernel_rfl) (fun _ _ _ h => h) (Or.inl ⟨by rfl, ?_⟩) hHeld ?_
            rotate_left
            · (intro wq hSw; (try dsimp only at hSw); go_simp; try (with_reducible rfl))
            try simp only [Act.put, List.setIfInBounds_toArray, List.set_cons_zero, List.set_cons_succ]
            refine wpAnyH_take (i := 20) (oi := { dst := some 61, op := Go.Op.binOp Go.BinOp.neq 4 (Go.Operand.tmp 50) (Go.Operand.tmp 60) 4, type := 4, pos := "outright.go:155", after := #[{ on := 9, ground := Go.Ground.data }, { on := 19, ground := Go.Ground.data }], guard := none }) (v := ?_) rfl (by kernel_rfl) (by kernel_rfl) (by kernel_rfl) (fun _ _ _ h => h) (Or.inl ⟨by rfl, ?_⟩) hHeld ?_
            rotate_left
            · (intro wq hSw; (try dsimp only at hSw); go_simp; try (with_reducible rfl))
            try simp only [Act.put, List.setIfInBounds_toArray, List.set_cons_zero, List.set_cons_succ]
            refine wpAnyH_done (by kernel_rfl) ?_ _
            go_wp2_with fail
            go_meet
            case rel => exact ⟨by first | rfl | simp, (Below.refl Wx.heap.size Wx).drew⟩

          | true =>
            have hfl : freeB xs J0.lo = false := by rw [hfu] at hfh; simpa using hfh
            refine wp_region_held_drew (S := (fun X => RowKit.Below Wx.heap.size Wx X ∧ X.cell? ⟨B0, 1, none⟩ = some (.slice ua0 J0.up.length uc0) ∧ X.cell? ⟨B0, 2, none⟩ = some (.slice va0 J0.lo.length vc0) ∧ X.cell? ⟨B, 0, none⟩ = some (.int .i64 noJ.lv) ∧ X.cell? ⟨ob, oo, none⟩ = some (.int .i64 (z0 : Int)))) (by kernel_rfl) ?_ (fun hHeld => ?_)
            · exact HST.out _ (Below.refl _ _).drew
            refine wpAnyH_take (i := 0) (oi := { dst := some 41, op := Go.Op.fieldAddr 62 (Go.Operand.tmp 13) 1, type := 0, pos := "outright.go:155", after := #[], guard := none }) (v := ?_) rfl (by kernel_rfl) (by kernel_rfl) (by kernel_rfl) (fun _ _ _ h => h) (Or.inl ⟨by rfl, ?_⟩) hHeld ?_
            rotate_left
            · (intro wq hSw; (try dsimp only at hSw); go_simp; try (with_reducible rfl))
            try simp only [Act.put, List.setIfInBounds_toArray, List.set_cons_zero, List.set_cons_succ]
            refine wpAnyH_take (i := 1) (oi := { dst := some 42, op := Go.Op.load 58 (Go.Operand.tmp 41), type := 58, pos := "outright.go:155", after := #[{ on := 0, ground := Go.Ground.data }], guard := none }) (v := ?_) rfl (by kernel_rfl) (by kernel_rfl) (by kernel_rfl) (fun _ _ _ h => h) (Or.inl ⟨by rfl, ?_⟩) hHeld ?_
            rotate_left
            · (intro wq hSw; (try dsimp only at hSw); go_simp; try (with_reducible rfl))
            try simp only [Act.put, List.setIfInBounds_toArray, List.set_cons_zero, List.set_cons_succ]
            refine wpAnyH_take (i := 2) (oi := { dst := some 43, op := Go.Op.move (Go.Operand.tmp 3), type := 26, pos := "outright.go:155", after := #[], guard := none }) (v := ?_) rfl (by kernel_rfl) (by kernel_rfl) (by kernel_rfl) (fun _ _ _ h => h) (Or.inl ⟨by rfl, ?_⟩) hHeld ?_
            rotate_left
            · (intro wq hSw; (try dsimp only at hSw); go_simp; try (with_reducible rfl))
            try simp only [Act.put, List.setIfInBounds_toArray, List.set_cons_zero, List.set_cons_succ]
            refine wpAnyH_take (i := 10) (oi := { dst := some 51, op := Go.Op.move (Go.Operand.tmp 12), type := 3, pos := "outright.go:155", after := #[], guard := none }) (v := ?_) rfl (by kernel_rfl) (by kernel_rfl) (by kernel_rfl) (fun _ _ _ h => h) (Or.inl ⟨by rfl, ?_⟩) hHeld ?_
            rotate_left
            · (intro wq hSw; (try dsimp only at hSw); go_simp; try (with_reducible rfl))
            try simp only [Act.put, List.setIfInBounds_toArray, List.set_cons_zero, List.set_cons_succ]
            refine wpAnyH_take (i := 11) (oi := { dst := some 52, op := Go.Op.binOp Go.BinOp.eql 3 (Go.Operand.tmp 51) (Go.Operand.const (Go.Value.int Go.IntKind.i64 2)) 3, type := 4, pos := "outright.go:155", after := #[{ on := 10, ground := Go.Ground.data }], guard := none }) (v := ?_) rfl (by kernel_rfl) (by kernel_rfl) (by kernel_rfl) (fun _ _ _ h => h) (Or.inl ⟨by rfl, ?_⟩) hHeld ?_
            rotate_left
            · (intro wq hSw; (try dsimp only at hSw); go_simp; try (with_reducible rfl))
            try simp only [Act.put, List.setIfInBounds_toArray, List.set_cons_zero, List.set_cons_succ]
            refine wpAnyH_ready (rs := [3]) (by kernel_rfl) (by simp) ?_
            refine (AllReadyH.cons (o := { dst := some 44, op := Go.Op.call { callee := Go.Callee.value (Go.Operand.func 65), args := #[Go.Operand.tmp 42, Go.Operand.tmp 43], argTypes := #[58, 26] }, type := 4, pos := "outright.go:155", after := #[{ on := 1, ground := Go.Ground.data }, { on := 2, ground := Go.Ground.data }], guard := none }) rfl (fun K hK => ?_) AllReadyH.nil)
            go_simp
            refine (HFU.out _ hHeld.1).mono ?_
            rintro e w6 ⟨rfl, hw6⟩
            have hw6' := hw6.symm
            clear hw6
            subst hw6'
            rw [hfu]
            try dsimp only
            refine hK.out _ _ ?_ (fun hHeld => ?_)
            · exact hHeld
            clear hK K
            try simp only [Act.put, List.setIfInBounds_toArray, List.set_cons_zero, List.set_cons_succ]
            refine wpAnyH_take (i := 4) (oi := { dst := some 45, op := Go.Op.move (Go.Operand.tmp 44), type := 4, pos := "outright.go:155", after := #[{ on := 3, ground := Go.Ground.data }, { on := 3, ground := Go.Ground.chain }], guard := none }) (v := ?_) rfl (by kernel_rfl) (by kernel_rfl) (by kernel_rfl) (fun _ _ _ h => h) (Or.inl ⟨by rfl, ?_⟩) hHeld ?_
            rotate_left
            · (intro wq hSw; (try dsimp only at hSw); go_simp; try (with_reducible rfl))
            try simp only [Act.put, List.setIfInBounds_toArray, List.set_cons_zero, List.set_cons_succ]
            refine wpAnyH_take (i := 5) (oi := { dst := some 46, op := Go.Op.fieldAddr 62 (Go.Operand.tmp 13) 2, type := 0, pos := "outright.go:155", after := #[{ on := 4, ground := Go.Ground.guard }], guard := some (4, true) }) (v := ?_) rfl (by kernel_rfl) (by kernel_rfl) (by kernel_rfl) (fun _ _ _ h => h) (Or.inl ⟨by rfl, ?_⟩) hHeld ?_
            rotate_left
            · (intro wq hSw; (try dsimp only at hSw); go_simp; try (with_reducible rfl))
            try simp only [Act.put, List.setIfInBounds_toArray, List.set_cons_zero, List.set_cons_succ]
            refine wpAnyH_take (i := 6) (oi := { dst := some 47, op := Go.Op.load 58 (Go.Operand.tmp 46), type := 58, pos := "outright.go:155", after := #[{ on := 5, ground := Go.Ground.data }, { on := 4, ground := Go.Ground.guard }], guard := some (4, true) }) (v := ?_) rfl (by kernel_rfl) (by kernel_rfl) (by kernel_rfl) (fun _ _ _ h => h) (Or.inl ⟨by rfl, ?_⟩) hHeld ?_
            rotate_left
            · (intro wq hSw; (try dsimp only at hSw); go_simp; try (with_reducible rfl))
            try simp only [Act.put, List.setIfInBounds_toArray, List.set_cons_zero, List.set_cons_succ]
            refine wpAnyH_take (i := 7) (oi := { dst := some 48, op := Go.Op.move (Go.Operand.tmp 3), type := 26, pos := "outright.go:155", after := #[{ on := 4, ground := Go.Ground.guard }], guard := some (4, true) }) (v := ?_) rfl (by kernel_rfl) (by kernel_rfl) (by kernel_rfl) (fun _ _ _ h => h) (Or.inl ⟨by rfl, ?_⟩) hHeld ?_
            rotate_left
            · (intro wq hSw; (try dsimp only at hSw); go_simp; try (with_reducible rfl))
            try simp only [Act.put, List.setIfInBounds_toArray, List.set_cons_zero, List.set_cons_succ]
            refine wpAnyH_ready (rs := [8]) (by kernel_rfl) (by simp) ?_
            refine (AllReadyH.cons (o := { dst := some 49, op := Go.Op.call { callee := Go.Callee.value (Go.Operand.func 65), args := #[Go.Operand.tmp 47, Go.Operand.tmp 48], argTypes := #[58, 26] }, type := 4, pos := "outright.go:155", after := #[{ on := 6, ground := Go.Ground.data }, { on := 7, ground := Go.Ground.data }, { on := 4, ground := Go.Ground.chain }, { on := 4, ground := Go.Ground.guard }], guard := some (4, true) }) rfl (fun K hK => ?_) AllReadyH.nil)
            go_simp
            refine (HFL.out _ hHeld.1).mono ?_
            rintro e w6 ⟨rfl, hw6⟩
            have hw6' := hw6.symm
            clear hw6
            subst hw6'
            rw [hfl]
            try dsimp only
            refine hK.out _ _ ?_ (fun hHeld => ?_)
            · exact hHeld
            clear hK K
            try simp only [Act.put, List.setIfInBounds_toArray, List.set_cons_zero, List.set_cons_succ]
            refine wpAnyH_take (i := 9) (oi := { dst := some 50, op := Go.Op.pick (Go.Operand.tmp 45) (Go.Operand.tmp 49) (Go.Operand.const (Go.Value.bool false)), type := 4, pos := "outright.go:155", after := #[{ on := 4, ground := Go.Ground.data }, { on := 8, ground := Go.Ground.data }], guard := none }) (v := ?_) rfl (by kernel_rfl) (by kernel_rfl) (by kernel_rfl) (fun _ _ _ h => h) (Or.inl ⟨by rfl, ?_⟩) hHeld ?_
            rotate_left
            · (intro wq hSw; (try dsimp only at hSw); go_simp; try (with_reducible rfl))
            try simp only [Act.put, List.setIfInBounds_toArray, List.set_cons_zero, List.set_cons_succ]
            refine wpAnyH_take (i := 12) (oi := { dst := some 53, op := Go.Op.move (Go.Operand.tmp 52), type := 4, pos := "outright.go:155", after := #[{ on := 11, ground := Go.Ground.data }, { on := 8, ground := Go.Ground.chain }], guard := none }) (v := ?_) rfl (by kernel_rfl) (by kernel_rfl) (by kernel_rfl) (fun _ _ _ h => h) (Or.inl ⟨by rfl, ?_⟩) hHeld ?_
            rotate_left
            · (intro wq hSw; (try dsimp only at hSw); go_simp; try (with_reducible rfl))
            try simp only [Act.put, List.setIfInBounds_toArray, List.set_cons_zero, List.set_cons_succ]
            refine wpAnyH_take (i := 13) (oi := { dst := some 54, op := Go.Op.fieldAddr 62 (Go.Operand.tmp 11) 0, type := 0, pos := "outright.go:155", after := #[{ on := 12, ground := Go.Ground.guard }], guard := some (12, true) }) (v := undef) rfl (by kernel_rfl) (by kernel_rfl) (by kernel_rfl) (fun _ _ _ h => h) (Or.inr ⟨by rfl, rfl⟩) hHeld ?_
            try simp only [Act.put, List.setIfInBounds_toArray, List.set_cons_zero, List.set_cons_succ]
            refine wpAnyH_take (i := 14) (oi := { dst := some 55, op := Go.Op.load 3 (Go.Operand.tmp 54), type := 3, pos := "outright.go:155", after := #[{ on := 13, ground := Go.Ground.data }, { on := 12, ground := Go.Ground.guard }], guard := some (12, true) }) (v := undef) rfl (by kernel_rfl) (by kernel_rfl) (by kernel_rfl) (fun _ _ _ h => h) (Or.inr ⟨by rfl, rfl⟩) hHeld ?_
            try simp only [Act.put, List.setIfInBounds_toArray, List.set_cons_zero, List.set_cons_succ]
            refine wpAnyH_take (i := 15) (oi := { dst := some 56, op := Go.Op.move (Go.Operand.tmp 4), type := 35, pos := "outright.go:155", after := #[{ on := 12, ground := Go.Ground.guard }], guard := some (12, true) }) (v := undef) rfl (by kernel_rfl) (by kernel_rfl) (by kernel_rfl) (fun _ _ _ h => h) (Or.inr ⟨by rfl, rfl⟩) hHeld ?_
            try simp only [Act.put, List.setIfInBounds_toArray, List.set_cons_zero, List.set_cons_succ]
            refine wpAnyH_take (i := 16) (oi := { dst := some 57, op := Go.Op.indexAddr 35 (Go.Operand.tmp 56) (Go.Operand.const (Go.Value.int Go.IntKind.i64 0)), type := 0, pos := "outright.go:155", after := #[{ on := 15, ground := Go.Ground.data }, { on := 12, ground := Go.Ground.guard }], guard := some (12, true) }) (v := undef) rfl (by kernel_rfl) (by kernel_rfl) (by kernel_rfl) (fun _ _ _ h => h) (Or.inr ⟨by rfl, rfl⟩) hHeld ?_
            try simp only [Act.put, List.setIfInBounds_toArray, List.set_cons_zero, List.set_cons_succ]
            refine wpAnyH_take (i := 17) (oi := { dst := some 58, op := Go.Op.load 3 (Go.Operand.tmp 57), type := 3, pos := "outright.go:155", after := #[{ on := 16, ground := Go.Ground.data }, { on := 12, ground := Go.Ground.guard }], guard := some (12, true) }) (v := undef) rfl (by kernel_rfl) (by kernel_rfl) (by kernel_rfl) (fun _ _ _ h => h) (Or.inr ⟨by rfl, rfl⟩) hHeld ?_
            try simp only [Act.put, List.setIfInBounds_toArray, List.set_cons_zero, List.set_cons_succ]
            refine wpAnyH_take (i := 18) (oi := { dst := some 59, op := Go.Op.binOp Go.BinOp.eql 3 (Go.Operand.tmp 55) (Go.Operand.tmp 58) 3, type := 4, pos := "outright.go:155", after := #[{ on := 14, ground := Go.Ground.data }, { on := 17, ground := Go.Ground.data }, { on := 12, ground := Go.Ground.guard }], guard := some (12, true) }) (v := undef) rfl (by kernel_rfl) (by kernel_rfl) (by kernel_rfl) (fun _ _ _ h => h) (Or.inr ⟨by rfl, rfl⟩) hHeld ?_
            try simp only [Act.put, List.setIfInBounds_toArray, List.set_cons_zero, List.set_cons_succ]
            refine wpAnyH_take (i := 19) (oi := { dst := some 60, op := Go.Op.pick (Go.Operand.tmp 53) (Go.Operand.tmp 59) (Go.Operand.const (Go.Value.bool false)), type := 4, pos := "outright.go:155", after := #[{ on := 12, ground := Go.Ground.data }, { on := 18, ground := Go.Ground.data }], guard := none }) (v := ?_) rfl (by kernel_rfl) (by kernel_rfl) (by kernel_rfl) (fun _ _ _ h => h) (Or.inl ⟨by rfl, ?_⟩) hHeld ?_
            rotate_left
            · (intro wq hSw; (try dsimp only at hSw); go_simp; try (with_reducible rfl))
            try simp only [Act.put, List.setIfInBounds_toArray, List.set_cons_zero, List.set_cons_succ]
            refine wpAnyH_take (i := 20) (oi := { dst := some 61, op := Go.Op.binOp Go.BinOp.neq 4 (Go.Operand.tmp 50) (Go.Operand.tmp 60) 4, type := 4, pos := "outright.go:155", after := #[{ on := 9, ground := Go.Ground.data }, { on := 19, ground := Go.Ground.data }], guard := none }) (v := ?_) rfl (by kernel_rfl) (by kernel_rfl) (by kernel_rfl) (fun _ _ _ h => h) (Or.inl ⟨by rfl, ?_⟩) hHeld ?_
            rotate_left
            · (intro wq hSw; (try dsimp only at hSw); go_simp; try (with_reducible rfl))
            try simp only [Act.put, List.setIfInBounds_toArray, List.set_cons_zero, List.set_cons_succ]
            refine wpAnyH_done (by kernel_rfl) ?_ _
            go_wp2_with fail
            go_meet
            case rel => exact ⟨by first | rfl | simp, (Below.refl Wx.heap.size Wx).drew⟩

        case rest =>
          obtain ⟨rfl, HBY⟩ := hcut
          rename World => Wy
          have HSy := hidV (HSx.out.below HBY.out)
          have j0 := HSy.out.jz.2.1 0 _ rfl
          have j1 := HSy.out.jz.2.1 1 _ rfl
          have j2 := HSy.out.jz.2.1 2 _ rfl
          have j3 := HSy.out.jz.2.1 3 _ rfl
          have j4 := HSy.out.jz.2.1 4 _ rfl
          simp only at j1 j2
          have HSJ : Hid (Calls Tryz.prog 35 #[jbV noJ.lv (ua, un, uc) (va, vn, vc) noJ.cut noJ.mv, jbV noJ.lv nS nS noJ.cut noJ.mv] Wy fun e w' => e = .returned (.bool true) ∧ RowKit.Below Wy.heap.size Wy w') := sameJob_true noJ _ _ _ _ Wy HSy.out.ja (noJ_at Wy) (by simp [noJ])
          unfold jbV at HSJ
          simp only [nS] at HSJ
          go_wp2_with (go_at_call 35; go_loud (refine HSJ.out.mono ?_; rintro e w9 ⟨rfl, hb9⟩; have HB9 := hidV hb9; clear hb9))
          go_ret
          exact ⟨by simp [hod0], HSy.out.b.trans (HB9.out.mono HSy.out.b.size)⟩

      · subst hK2
        go_wp2_with fail
        go_cut [61] (fun v wx => v = .bool false ∧ Hid (RowKit.Below Wx.heap.size Wx wx))
        case first =>
          by_cases hlv : J.lv = (z0 : Int)
          · have hit : hitsL xs J0 = false := HF0.out.1.2 (by simp [hlv])
            rw [hit] at hfh
            have hfu : freeB xs J0.up = true := by cases hh : freeB xs J0.up with | true => rfl | false => (rw [hh] at hfh; simp at hfh)
            have hfl : freeB xs J0.lo = true := by cases hh : freeB xs J0.lo with | true => rfl | false => (rw [hh] at hfh; simp at hfh)
            refine wp_region_held_drew (S := (fun X => RowKit.Below Wx.heap.size Wx X ∧ X.cell? ⟨B0, 1, none⟩ = some (.slice ua0 J0.up.length uc0) ∧ X.cell? ⟨B0, 2, none⟩ = some (.slice va0 J0.lo.length vc0) ∧ X.cell? ⟨B, 0, none⟩ = some (.int .i64 J.lv) ∧ X.cell? ⟨ob, oo, none⟩ = some (.int .i64 (z0 : Int)))) (by kernel_rfl) ?_ (fun hHeld => ?_)
            · exact HST.out _ (Below.refl _ _).drew
            refine wpAnyH_take (i := 0) (oi := { dst := some 41, op := Go.Op.fieldAddr 62 (Go.Operand.tmp 13) 1, type := 0, pos := "outright.go:155", after := #[], guard := none }) (v := ?_) rfl (by kernel_rfl) (by kernel_rfl) (by kernel_rfl) (fun _ _ _ h => h) (Or.inl ⟨by rfl, ?_⟩) hHeld ?_
            rotate_left
            · (intro wq hSw; (try dsimp only at hSw); go_simp; try (with_reducible rfl))
            try simp only [Act.put, List.setIfInBounds_toArray, List.set_cons_zero, List.set_cons_succ]
            refine wpAnyH_take (i := 1) (oi := { dst := some 42, op := Go.Op.load 58 (Go.Operand.tmp 41), type := 58, pos := "outright.go:155", after := #[{ on := 0, ground := Go.Ground.data }], guard := none }) (v := ?_) rfl (by kernel_rfl) (by kernel_rfl) (by kernel_rfl) (fun _ _ _ h => h) (Or.inl ⟨by rfl, ?_⟩) hHeld ?_
            rotate_left
            · (intro wq hSw; (try dsimp only at hSw); go_simp; try (with_reducible rfl))
            try simp only [Act.put, List.setIfInBounds_toArray, List.set_cons_zero, List.set_cons_succ]
            refine wpAnyH_take (i := 2) (oi := { dst := some 43, op := Go.Op.move (Go.Operand.tmp 3), type := 26, pos := "outright.go:155", after := #[], guard := none }) (v := ?_) rfl (by kernel_rfl) (by kernel_rfl) (by kernel_rfl) (fun _ _ _ h => h) (Or.inl ⟨by rfl, ?_⟩) hHeld ?_
            rotate_left
            · (intro wq hSw; (try dsimp only at hSw); go_simp; try (with_reducible rfl))
            try simp only [Act.put, List.setIfInBounds_toArray, List.set_cons_zero, List.set_cons_succ]
            refine wpAnyH_take (i := 10) (oi := { dst := some 51, op := Go.Op.move (Go.Operand.tmp 12), type := 3, pos := "outright.go:155", after := #[], guard := none }) (v := ?_) rfl (by kernel_rfl) (by kernel_rfl) (by kernel_rfl) (fun _ _ _ h => h) (Or.inl ⟨by rfl, ?_⟩) hHeld ?_
            rotate_left
            · (intro wq hSw; (try dsimp only at hSw); go_simp; try (with_reducible rfl))
            try simp only [Act.put, List.setIfInBounds_toArray, List.set_cons_zero, List.set_cons_succ]
            refine wpAnyH_take (i := 11) (oi := { dst := some 52, op := Go.Op.binOp Go.BinOp.eql 3 (Go.Operand.tmp 51) (Go.Operand.const (Go.Value.int Go.IntKind.i64 2)) 3, type := 4, pos := "outright.go:155", after := #[{ on := 10, ground := Go.Ground.data }], guard := none }) (v := ?_) rfl (by kernel_rfl) (by kernel_rfl) (by kernel_rfl) (fun _ _ _ h => h) (Or.inl ⟨by rfl, ?_⟩) hHeld ?_
            rotate_left
            · (intro wq hSw; (try dsimp only at hSw); go_simp; try (with_reducible rfl))
            try simp only [Act.put, List.setIfInBounds_toArray, List.set_cons_zero, List.set_cons_succ]
            refine wpAnyH_ready (rs := [3]) (by kernel_rfl) (by simp) ?_
            refine (AllReadyH.cons (o := { dst := some 44, op := Go.Op.call { callee := Go.Callee.value (Go.Operand.func 65), args := #[Go.Operand.tmp 42, Go.Operand.tmp 43], argTypes := #[58, 26] }, type := 4, pos := "outright.go:155", after := #[{ on := 1, ground := Go.Ground.data }, { on := 2, ground := Go.Ground.data }], guard := none }) rfl (fun K hK => ?_) AllReadyH.nil)
            go_simp
            refine (HFU.out _ hHeld.1).mono ?_
            rintro e w6 ⟨rfl, hw6⟩
            have hw6' := hw6.symm
            clear hw6
            subst hw6'
            rw [hfu]
            try dsimp only
            refine hK.out _ _ ?_ (fun hHeld => ?_)
            · exact hHeld
            clear hK K
            try simp only [Act.put, List.setIfInBounds_toArray, List.set_cons_zero, List.set_cons_succ]
            refine wpAnyH_take (i := 4) (oi := { dst := some 45, op := Go.Op.move (Go.Operand.tmp 44), type := 4, pos := "outright.go:155", after := #[{ on := 3, ground := Go.Ground.data }, { on := 3, ground := Go.Ground.chain }], guard := none }) (v := ?_) rfl (by kernel_rfl) (by kernel_rfl) (by kernel_rfl) (fun _ _ _ h => h) (Or.inl ⟨by rfl, ?_⟩) hHeld ?_
            rotate_left
            · (intro wq hSw; (try dsimp only at hSw); go_simp; try (with_reducible rfl))
            try simp only [Act.put, List.setIfInBounds_toArray, List.set_cons_zero, List.set_cons_succ]
            refine wpAnyH_take (i := 5) (oi := { dst := some 46, op := Go.Op.fieldAddr 62 (Go.Operand.tmp 13) 2, type := 0, pos := "outright.go:155", after := #[{ on := 4, ground := Go.Ground.guard }], guard := some (4, true) }) (v := ?_) rfl (by kernel_rfl) (by kernel_rfl) (by kernel_rfl) (fun _ _ _ h => h) (Or.inl ⟨by rfl, ?_⟩) hHeld ?_
            rotate_left
            · (intro wq hSw; (try dsimp only at hSw); go_simp; try (with_reducible rfl))
            try simp only [Act.put, List.setIfInBounds_toArray, List.set_cons_zero, List.set_cons_succ]
            refine wpAnyH_take (i := 6) (oi := { dst := some 47, op := Go.Op.load 58 (Go.Operand.tmp 46), type := 58, pos := "outright.go:155", after := #[{ on := 5, ground := Go.Ground.data }, { on := 4, ground := Go.Ground.guard }], guard := some (4, true) }) (v := ?_) rfl (by kernel_rfl) (by kernel_rfl) (by kernel_rfl) (fun _ _ _ h => h) (Or.inl ⟨by rfl, ?_⟩) hHeld ?_
            rotate_left
            · (intro wq hSw; (try dsimp only at hSw); go_simp; try (with_reducible rfl))
            try simp only [Act.put, List.setIfInBounds_toArray, List.set_cons_zero, List.set_cons_succ]
            refine wpAnyH_take (i := 7) (oi := { dst := some 48, op := Go.Op.move (Go.Operand.tmp 3), type := 26, pos := "outright.go:155", after := #[{ on := 4, ground := Go.Ground.guard }], guard := some (4, true) }) (v := ?_) rfl (by kernel_rfl) (by kernel_rfl) (by kernel_rfl) (fun _ _ _ h => h) (Or.inl ⟨by rfl, ?_⟩) hHeld ?_
            rotate_left
            · (intro wq hSw; (try dsimp only at hSw); go_simp; try (with_reducible rfl))
            try simp only [Act.put, List.setIfInBounds_toArray, List.set_cons_zero, List.set_cons_succ]
            refine wpAnyH_ready (rs := [8]) (by kernel_rfl) (by simp) ?_
            refine (AllReadyH.cons (o := { dst := some 49, op := Go.Op.call { callee := Go.Callee.value (Go.Operand.func 65), args := #[Go.Operand.tmp 47, Go.Operand.tmp 48], argTypes := #[58, 26] }, type := 4, pos := "outright.go:155", after := #[{ on := 6, ground := Go.Ground.data }, { on := 7, ground := Go.Ground.data }, { on := 4, ground := Go.Ground.chain }, { on := 4, ground := Go.Ground.guard }], guard := some (4, true) }) rfl (fun K hK => ?_) AllReadyH.nil)
            go_simp
            refine (HFL.out _ hHeld.1).mono ?_
            rintro e w6 ⟨rfl, hw6⟩
            have hw6' := hw6.symm
            clear hw6
            subst hw6'
            rw [hfl]
            try dsimp only
            refine hK.out _ _ ?_ (fun hHeld => ?_)
            · exact hHeld
            clear hK K
            try simp only [Act.put, List.setIfInBounds_toArray, List.set_cons_zero, List.set_cons_succ]
            refine wpAnyH_take (i := 9) (oi := { dst := some 50, op := Go.Op.pick (Go.Operand.tmp 45) (Go.Operand.tmp 49) (Go.Operand.const (Go.Value.bool false)), type := 4, pos := "outright.go:155", after := #[{ on := 4, ground := Go.Ground.data }, { on := 8, ground := Go.Ground.data }], guard := none }) (v := ?_) rfl (by kernel_rfl) (by kernel_rfl) (by kernel_rfl) (fun _ _ _ h => h) (Or.inl ⟨by rfl, ?_⟩) hHeld ?_
            rotate_left
            · (intro wq hSw; (try dsimp only at hSw); go_simp; try (with_reducible rfl))
            try simp only [Act.put, List.setIfInBounds_toArray, List.set_cons_zero, List.set_cons_succ]
            refine wpAnyH_take (i := 12) (oi := { dst := some 53, op := Go.Op.move (Go.Operand.tmp 52), type := 4, pos := "outright.go:155", after := #[{ on := 11, ground := Go.Ground.data }, { on := 8, ground := Go.Ground.chain }], guard := none }) (v := ?_) rfl (by kernel_rfl) (by kernel_rfl) (by kernel_rfl) (fun _ _ _ h => h) (Or.inl ⟨by rfl, ?_⟩) hHeld ?_
            rotate_left
            · (intro wq hSw; (try dsimp only at hSw); go_simp; try (with_reducible rfl))
            try simp only [Act.put, List.setIfInBounds_toArray, List.set_cons_zero, List.set_cons_succ]
            refine wpAnyH_take (i := 13) (oi := { dst := some 54, op := Go.Op.fieldAddr 62 (Go.Operand.tmp 11) 0, type := 0, pos := "outright.go:155", after := #[{ on := 12, ground := Go.Ground.guard }], guard := some (12, true) }) (v := ?_) rfl (by kernel_rfl) (by kernel_rfl) (by kernel_rfl) (fun _ _ _ h => h) (Or.inl ⟨by rfl, ?_⟩) hHeld ?_
            rotate_left
            · (intro wq hSw; (try dsimp only at hSw); go_simp; try (with_reducible rfl))
            try simp only [Act.put, List.setIfInBounds_toArray, List.set_cons_zero, List.set_cons_succ]
            refine wpAnyH_take (i := 14) (oi := { dst := some 55, op := Go.Op.load 3 (Go.Operand.tmp 54), type := 3, pos := "outright.go:155", after := #[{ on := 13, ground := Go.Ground.data }, { on := 12, ground := Go.Ground.guard }], guard := some (12, true) }) (v := ?_) rfl (by kernel_rfl) (by kernel_rfl) (by kernel_rfl) (fun _ _ _ h => h) (Or.inl ⟨by rfl, ?_⟩) hHeld ?_
            rotate_left
            · (intro wq hSw; (try dsimp only at hSw); go_simp; try (with_reducible rfl))
            try simp only [Act.put, List.setIfInBounds_toArray, List.set_cons_zero, List.set_cons_succ]
            refine wpAnyH_take (i := 15) (oi := { dst := some 56, op := Go.Op.move (Go.Operand.tmp 4), type := 35, pos := "outright.go:155", after := #[{ on := 12, ground := Go.Ground.guard }], guard := some (12, true) }) (v := ?_) rfl (by kernel_rfl) (by kernel_rfl) (by kernel_rfl) (fun _ _ _ h => h) (Or.inl ⟨by rfl, ?_⟩) hHeld ?_
            rotate_left
            · (intro wq hSw; (try dsimp only at hSw); go_simp; try (with_reducible rfl))
            try simp only [Act.put, List.setIfInBounds_toArray, List.set_cons_zero, List.set_cons_succ]
            refine wpAnyH_take (i := 16) (oi := { dst := some 57, op := Go.Op.indexAddr 35 (Go.Operand.tmp 56) (Go.Operand.const (Go.Value.int Go.IntKind.i64 0)), type := 0, pos := "outright.go:155", after := #[{ on := 15, ground := Go.Ground.data }, { on := 12, ground := Go.Ground.guard }], guard := some (12, true) }) (v := ?_) rfl (by kernel_rfl) (by kernel_rfl) (by kernel_rfl) (fun _ _ _ h => h) (Or.inl ⟨by rfl, ?_⟩) hHeld ?_
            rotate_left
            · (intro wq hSw; (try dsimp only at hSw); go_simp; try (with_reducible rfl))
            try simp only [Act.put, List.setIfInBounds_toArray, List.set_cons_zero, List.set_cons_succ]
            refine wpAnyH_take (i := 17) (oi := { dst := some 58, op := Go.Op.load 3 (Go.Operand.tmp 57), type := 3, pos := "outright.go:155", after := #[{ on := 16, ground := Go.Ground.data }, { on := 12, ground := Go.Ground.guard }], guard := some (12, true) }) (v := ?_) rfl (by kernel_rfl) (by kernel_rfl) (by kernel_rfl) (fun _ _ _ h => h) (Or.inl ⟨by rfl, ?_⟩) hHeld ?_
            rotate_left
            · (intro wq hSw; (try dsimp only at hSw); go_simp; try (with_reducible rfl))
            try simp only [Act.put, List.setIfInBounds_toArray, List.set_cons_zero, List.set_cons_succ]
            refine wpAnyH_take (i := 18) (oi := { dst := some 59, op := Go.Op.binOp Go.BinOp.eql 3 (Go.Operand.tmp 55) (Go.Operand.tmp 58) 3, type := 4, pos := "outright.go:155", after := #[{ on := 14, ground := Go.Ground.data }, { on := 17, ground := Go.Ground.data }, { on := 12, ground := Go.Ground.guard }], guard := some (12, true) }) (v := .bool true) rfl (by kernel_rfl) (by kernel_rfl) (by kernel_rfl) (fun _ _ _ h => h) (Or.inl ⟨by rfl, ?_⟩) hHeld ?_
            · (intro wq hSw; (try dsimp only at hSw); go_simp; try exact hlv)
            try simp only [Act.put, List.setIfInBounds_toArray, List.set_cons_zero, List.set_cons_succ]
            refine wpAnyH_take (i := 19) (oi := { dst := some 60, op := Go.Op.pick (Go.Operand.tmp 53) (Go.Operand.tmp 59) (Go.Operand.const (Go.Value.bool false)), type := 4, pos := "outright.go:155", after := #[{ on := 12, ground := Go.Ground.data }, { on := 18, ground := Go.Ground.data }], guard := none }) (v := ?_) rfl (by kernel_rfl) (by kernel_rfl) (by kernel_rfl) (fun _ _ _ h => h) (Or.inl ⟨by rfl, ?_⟩) hHeld ?_
            rotate_left
            · (intro wq hSw; (try dsimp only at hSw); go_simp; try (with_reducible rfl))
            try simp only [Act.put, List.setIfInBounds_toArray, List.set_cons_zero, List.set_cons_succ]
            refine wpAnyH_take (i := 20) (oi := { dst := some 61, op := Go.Op.binOp Go.BinOp.neq 4 (Go.Operand.tmp 50) (Go.Operand.tmp 60) 4, type := 4, pos := "outright.go:155", after := #[{ on := 9, ground := Go.Ground.data }, { on := 19, ground := Go.Ground.data }], guard := none }) (v := ?_) rfl (by kernel_rfl) (by kernel_rfl) (by kernel_rfl) (fun _ _ _ h => h) (Or.inl ⟨by rfl, ?_⟩) hHeld ?_
            rotate_left
            · (intro wq hSw; (try dsimp only at hSw); go_simp; try (with_reducible rfl))
            try simp only [Act.put, List.setIfInBounds_toArray, List.set_cons_zero, List.set_cons_succ]
            refine wpAnyH_done (by kernel_rfl) ?_ _
            go_wp2_with fail
            go_meet
            case rel => exact ⟨by first | rfl | simp, (Below.refl Wx.heap.size Wx).drew⟩

          · have hit : hitsL xs J0 = true := by
              cases hh : hitsL xs J0 with
              | true => rfl
              | false => exact absurd (HF0.out.1.1 hh).2 hlv
            rw [hit] at hfh
            cases hfu : freeB xs J0.up with
            | false =>
              refine wp_region_held_drew (S := (fun X => RowKit.Below Wx.heap.size Wx X ∧ X.cell? ⟨B0, 1, none⟩ = some (.slice ua0 J0.up.length uc0) ∧ X.cell? ⟨B0, 2, none⟩ = some (.slice va0 J0.lo.length vc0) ∧ X.cell? ⟨B, 0, none⟩ = some (.int .i64 J.lv) ∧ X.cell? ⟨ob, oo, none⟩ = some (.int .i64 (z0 : Int)))) (by kernel_rfl) ?_ (fun hHeld => ?_)
              · exact HST.out _ (Below.refl _ _).drew
              refine wpAnyH_take (i := 0) (oi := { dst := some 41, op := Go.Op.fieldAddr 62 (Go.Operand.tmp 13) 1, type := 0, pos := "outright.go:155", after := #[], guard := none }) (v := ?_) rfl (by kernel_rfl) (by kernel_rfl) (by kernel_rfl) (fun _ _ _ h => h) (Or.inl ⟨by rfl, ?_⟩) hHeld ?_
              rotate_left
              · (intro wq hSw; (try dsimp only at hSw); go_simp; try (with_reducible rfl))
              try simp only [Act.put, List.setIfInBounds_toArray, List.set_cons_zero, List.set_cons_succ]
              refine wpAnyH_take (i := 1) (oi := { dst := some 42, op := Go.Op.load 58 (Go.Operand.tmp 41), type := 58, pos := "outright.go:155", after := #[{ on := 0, ground := Go.Ground.data }], guard := none }) (v := ?_) rfl (by kernel_rfl) (by kernel_rfl) (by kernel_rfl) (fun _ _ _ h => h) (Or.inl ⟨by rfl, ?_⟩) hHeld ?_
              rotate_left
              · (intro wq hSw; (try dsimp only at hSw); go_simp; try (with_reducible rfl))
              try simp only [Act.put, List.setIfInBounds_toArray, List.set_cons_zero, List.set_cons_succ]
              refine wpAnyH_take (i := 2) (oi := { dst := some 43, op := Go.Op.move (Go.Operand.tmp 3), type := 26, pos := "outright.go:155", after := #[], guard := none }) (v := ?_) rfl (by kernel_rfl) (by kernel_rfl) (by kernel_rfl) (fun _ _ _ h => h) (Or.inl ⟨by rfl, ?_⟩) hHeld ?_
              rotate_left
              · (intro wq hSw; (try dsimp only at hSw); go_simp; try (with_reducible rfl))
              try simp only [Act.put, List.setIfInBounds_toArray, List.set_cons_zero, List.set_cons_succ]
              refine wpAnyH_take (i := 10) (oi := { dst := some 51, op := Go.Op.move (Go.Operand.tmp 12), type := 3, pos := "outright.go:155", after := #[], guard := none }) (v := ?_) rfl (by kernel_rfl) (by kernel_rfl) (by kernel_rfl) (fun _ _ _ h => h) (Or.inl ⟨by rfl, ?_⟩) hHeld ?_
              rotate_left
              · (intro wq hSw; (try dsimp only at hSw); go_simp; try (with_reducible rfl))
              try simp only [Act.put, List.setIfInBounds_toArray, List.set_cons_zero, List.set_cons_succ]
              refine wpAnyH_take (i := 11) (oi := { dst := some 52, op := Go.Op.binOp Go.BinOp.eql 3 (Go.Operand.tmp 51) (Go.Operand.const (Go.Value.int Go.IntKind.i64 2)) 3, type := 4, pos := "outright.go:155", after := #[{ on := 10, ground := Go.Ground.data }], guard := none }) (v := ?_) rfl (by kernel_rfl) (by kernel_rfl) (by kernel_rfl) (fun _ _ _ h => h) (Or.inl ⟨by rfl, ?_⟩) hHeld ?_
              rotate_left
              · (intro wq hSw; (try dsimp only at hSw); go_simp; try (with_reducible rfl))
              try simp only [Act.put, List.setIfInBounds_toArray, List.set_cons_zero, List.set_cons_succ]
              refine wpAnyH_ready (rs := [3]) (by kernel_rfl) (by simp) ?_
              refine (AllReadyH.cons (o := { dst := some 44, op := Go.Op.call { callee := Go.Callee.value (Go.Operand.func 65), args := #[Go.Operand.tmp 42, Go.Operand.tmp 43], argTypes := #[58, 26] }, type := 4, pos := "outright.go:155", after := #[{ on := 1, ground := Go.Ground.data }, { on := 2, ground := Go.Ground.data }], guard := none }) rfl (fun K hK => ?_) AllReadyH.nil)
              go_simp
              refine (HFU.out _ hHeld.1).mono ?_
              rintro e w6 ⟨rfl, hw6⟩
              have hw6' := hw6.symm
              clear hw6
              subst hw6'
              rw [hfu]
              try dsimp only
              refine hK.out _ _ ?_ (fun hHeld => ?_)
              · exact hHeld
              clear hK K
              try simp only [Act.put, List.setIfInBounds_toArray, List.set_cons_zero, List.set_cons_succ]
              refine wpAnyH_take (i := 4) (oi := { dst := some 45, op := Go.Op.move (Go.Operand.tmp 44), type := 4, pos := "outright.go:155", after := #[{ on := 3, ground := Go.Ground.data }, { on := 3, ground := Go.Ground.chain }], guard := none }) (v := ?_) rfl (by kernel_rfl) (by kernel_rfl) (by kernel_rfl) (fun _ _ _ h => h) (Or.inl ⟨by rfl, ?_⟩) hHeld ?_
              rotate_left
              · (intro wq hSw; (try dsimp only at hSw); go_simp; try (with_reducible rfl))
              try simp only [Act.put, List.setIfInBounds_toArray, List.set_cons_zero, List.set_cons_succ]
              refine wpAnyH_take (i := 5) (oi := { dst := some 46, op := Go.Op.fieldAddr 62 (Go.Operand.tmp 13) 2, type := 0, pos := "outright.go:155", after := #[{ on := 4, ground := Go.Ground.guard }], guard := some (4, true) }) (v := undef) rfl (by kernel_rfl) (by kernel_rfl) (by kernel_rfl) (fun _ _ _ h => h) (Or.inr ⟨by rfl, rfl⟩) hHeld ?_
              try simp only [Act.put, List.setIfInBounds_toArray, List.set_cons_zero, List.set_cons_succ]
              refine wpAnyH_take (i := 6) (oi := { dst := some 47, op := Go.Op.load 58 (Go.Operand.tmp 46), type := 58, pos := "outright.go:155", after := #[{ on := 5, ground := Go.Ground.data }, { on := 4, ground := Go.Ground.guard }], guard := some (4, true) }) (v := undef) rfl (by kernel_rfl) (by kernel_rfl) (by kernel_rfl) (fun _ _ _ h => h) (Or.inr ⟨by rfl, rfl⟩) hHeld ?_
              try simp only [Act.put, List.setIfInBounds_toArray, List.set_cons_zero, List.set_cons_succ]
              refine wpAnyH_take (i := 7) (oi := { dst := some 48, op := Go.Op.move (Go.Operand.tmp 3), type := 26, pos := "outright.go:155", after := #[{ on := 4, ground := Go.Ground.guard }], guard := some (4, true) }) (v := undef) rfl (by kernel_rfl) (by kernel_rfl) (by kernel_rfl) (fun _ _ _ h => h) (Or.inr ⟨by rfl, rfl⟩) hHeld ?_
              try simp only [Act.put, List.setIfInBounds_toArray, List.set_cons_zero, List.set_cons_succ]
              refine wpAnyH_take (i := 8) (oi := { dst := some 49, op := Go.Op.call { callee := Go.Callee.value (Go.Operand.func 65), args := #[Go.Operand.tmp 47, Go.Operand.tmp 48], argTypes := #[58, 26] }, type := 4, pos := "outright.go:155", after := #[{ on := 6, ground := Go.Ground.data }, { on := 7, ground := Go.Ground.data }, { on := 4, ground := Go.Ground.chain }, { on := 4, ground := Go.Ground.guard }], guard := some (4, true) }) (v := undef) rfl (by kernel_rfl) (by kernel_rfl) (by kernel_rfl) (fun _ _ _ h => h) (Or.inr ⟨by rfl, rfl⟩) hHeld ?_
              try simp only [Act.put, List.setIfInBounds_toArray, List.set_cons_zero, List.set_cons_succ]
              refine wpAnyH_take (i := 9) (oi := { dst := some 50, op := Go.Op.pick (Go.Operand.tmp 45) (Go.Operand.tmp 49) (Go.Operand.const (Go.Value.bool false)), type := 4, pos := "outright.go:155", after := #[{ on := 4, ground := Go.Ground.data }, { on := 8, ground := Go.Ground.data }], guard := none }) (v := ?_) rfl (by kernel_rfl) (by kernel_rfl) (by kernel_rfl) (fun _ _ _ h => h) (Or.inl ⟨by rfl, ?_⟩) hHeld ?_
              rotate_left
              · (intro wq hSw; (try dsimp only at hSw); go_simp; try (with_reducible rfl))
              try simp only [Act.put, List.setIfInBounds_toArray, List.set_cons_zero, List.set_cons_succ]
              refine wpAnyH_take (i := 12) (oi := { dst := some 53, op := Go.Op.move (Go.Operand.tmp 52), type := 4, pos := "outright.go:155", after := #[{ on := 11, ground := Go.Ground.data }, { on := 8, ground := Go.Ground.chain }], guard := none }) (v := ?_) rfl (by kernel_rfl) (by kernel_rfl) (by kernel_rfl) (fun _ _ _ h => h) (Or.inl ⟨by rfl, ?_⟩) hHeld ?_
              rotate_left
              · (intro wq hSw; (try dsimp only at hSw); go_simp; try (with_reducible rfl))
              try simp only [Act.put, List.setIfInBounds_toArray, List.set_cons_zero, List.set_cons_succ]
              refine wpAnyH_take (i := 13) (oi := { dst := some 54, op := Go.Op.fieldAddr 62 (Go.Operand.tmp 11) 0, type := 0, pos := "outright.go:155", after := #[{ on := 12, ground := Go.Ground.guard }], guard := some (12, true) }) (v := ?_) rfl (by kernel_rfl) (by kernel_rfl) (by kernel_rfl) (fun _ _ _ h => h) (Or.inl ⟨by rfl, ?_⟩) hHeld ?_
              rotate_left
              · (intro wq hSw; (try dsimp only at hSw); go_simp; try (with_reducible rfl))
              try simp only [Act.put, List.setIfInBounds_toArray, List.set_cons_zero, List.set_cons_succ]
              refine wpAnyH_take (i := 14) (oi := { dst := some 55, op := Go.Op.load 3 (Go.Operand.tmp 54), type := 3, pos := "outright.go:155", after := #[{ on := 13, ground := Go.Ground.data }, { on := 12, ground := Go.Ground.guard }], guard := some (12, true) }) (v := ?_) rfl (by kernel_rfl) (by kernel_rfl) (by kernel_rfl) (fun _ _ _ h => h) (Or.inl ⟨by rfl, ?_⟩) hHeld ?_
              rotate_left
              · (intro wq hSw; (try dsimp only at hSw); go_simp; try (with_reducible rfl))
              try simp only [Act.put, List.setIfInBounds_toArray, List.set_cons_zero, List.set_cons_succ]
              refine wpAnyH_take (i := 15) (oi := { dst := some 56, op := Go.Op.move (Go.Operand.tmp 4), type := 35, pos := "outright.go:155", after := #[{ on := 12, ground := Go.Ground.guard }], guard := some (12, true) }) (v := ?_) rfl (by kernel_rfl) (by kernel_rfl) (by kernel_rfl) (fun _ _ _ h => h) (Or.inl ⟨by rfl, ?_⟩) hHeld ?_
              rotate_left
              · (intro wq hSw; (try dsimp only at hSw); go_simp; try (with_reducible rfl))
              try simp only [Act.put, List.setIfInBounds_toArray, List.set_cons_zero, List.set_cons_succ]
              refine wpAnyH_take (i := 16) (oi := { dst := some 57, op := Go.Op.indexAddr 35 (Go.Operand.tmp 56) (Go.Operand.const (Go.Value.int Go.IntKind.i64 0)), type := 0, pos := "outright.go:155", after := #[{ on := 15, ground := Go.Ground.data }, { on := 12, ground := Go.Ground.guard }], guard := some (12, true) }) (v := ?_) rfl (by kernel_rfl) (by kernel_rfl) (by kernel_rfl) (fun _ _ _ h => h) (Or.inl ⟨by rfl, ?_⟩) hHeld ?_
              rotate_left
              · (intro wq hSw; (try dsimp only at hSw); go_simp; try (with_reducible rfl))
              try simp only [Act.put, List.setIfInBounds_toArray, List.set_cons_zero, List.set_cons_succ]
              refine wpAnyH_take (i := 17) (oi := { dst := some 58, op := Go.Op.load 3 (Go.Operand.tmp 57), type := 3, pos := "outright.go:155", after := #[{ on := 16, ground := Go.Ground.data }, { on := 12, ground := Go.Ground.guard }], guard := some (12, true) }) (v := ?_) rfl (by kernel_rfl) (by kernel_rfl) (by kernel_rfl) (fun _ _ _ h => h) (Or.inl ⟨by rfl, ?_⟩) hHeld ?_
              rotate_left
              · (intro wq hSw; (try dsimp only at hSw); go_simp; try (with_reducible rfl))
              try simp only [Act.put, List.setIfInBounds_toArray, List.set_cons_zero, List.set_cons_succ]
              refine wpAnyH_take (i := 18) (oi := { dst := some 59, op := Go.Op.binOp Go.BinOp.eql 3 (Go.Operand.tmp 55) (Go.Operand.tmp 58) 3, type := 4, pos := "outright.go:155", after := #[{ on := 14, ground := Go.Ground.data }, { on := 17, ground := Go.Ground.data }, { on := 12, ground := Go.Ground.guard }], guard := some (12, true) }) (v := .bool false) rfl (by kernel_rfl) (by kernel_rfl) (by kernel_rfl) (fun _ _ _ h => h) (Or.inl ⟨by rfl, ?_⟩) hHeld ?_
              · (intro wq hSw; (try dsimp only at hSw); go_simp; try exact hlv)
              try simp only [Act.put, List.setIfInBounds_toArray, List.set_cons_zero, List.set_cons_succ]
              refine wpAnyH_take (i := 19) (oi := { dst := some 60, op := Go.Op.pick (Go.Operand.tmp 53) (Go.Operand.tmp 59) (Go.Operand.const (Go.Value.bool false)), type := 4, pos := "outright.go:155", after := #[{ on := 12, ground := Go.Ground.data }, { on := 18, ground := Go.Ground.data }], guard := none }) (v := ?_) rfl (by kernel_rfl) (by kernel_rfl) (by kernel_rfl) (fun _ _ _ h => h) (Or.inl ⟨by rfl, ?_⟩) hHeld ?_
              rotate_left
              · (intro wq hSw; (try dsimp only at hSw); go_simp; try (with_reducible rfl))
              try simp only [Act.put, List.setIfInBounds_toArray, List.set_cons_zero, List.set_cons_succ]
              refine wpAnyH_take (i := 20) (oi := { dst := some 61, op := Go.Op.binOp Go.BinOp.neq 4 (Go.Operand.tmp 50) (Go.Operand.tmp 60) 4, type := 4, pos := "outright.go:155", after := #[{ on := 9, ground := Go.Ground.data }, { on := 19, ground := Go.Ground.data }], guard := none }) (v := ?_) rfl (by kernel_rfl) (by kernel_rfl) (by kernel_rfl) (fun _ _ _ h => h) (Or.inl ⟨by rfl, ?_⟩) hHeld ?_
              rotate_left
              · (intro wq hSw; (try dsimp only at hSw); go_simp; try (with_reducible rfl))
              try simp only [Act.put, List.setIfInBounds_toArray, List.set_cons_zero, List.set_cons_succ]
              refine wpAnyH_done (by kernel_rfl) ?_ _
              go_wp2_with fail
              go_meet
              case rel => exact ⟨by first | rfl | simp, (Below.refl Wx.heap.size Wx).drew⟩

            | true =>
              have hfl : freeB xs J0.lo = false := by rw [hfu] at hfh; simpa using hfh
              refine wp_region_held_drew (S := (fun X => RowKit.Below Wx.heap.size Wx X ∧ X.cell? ⟨B0, 1, none⟩ = some (.slice ua0 J0.up.length uc0) ∧ X.cell? ⟨B0, 2, none⟩ = some (.slice va0 J0.lo.length vc0) ∧ X.cell? ⟨B, 0, none⟩ = some (.int .i64 J.lv) ∧ X.cell? ⟨ob, oo, none⟩ = some (.int .i64 (z0 : Int)))) (by kernel_rfl) ?_ (fun hHeld => ?_)
              · exact HST.out _ (Below.refl _ _).drew
              refine wpAnyH_take (i := 0) (oi := { dst := some 41, op := Go.Op.fieldAddr 62 (Go.Operand.tmp 13) 1, type := 0, pos := "outright.go:155", after := #[], guard := none }) (v := ?_) rfl (by kernel_rfl) (by kernel_rfl) (by kernel_rfl) (fun _ _ _ h => h) (Or.inl ⟨by rfl, ?_⟩) hHeld ?_
              rotate_left
              · (intro wq hSw; (try dsimp only at hSw); go_simp; try (with_reducible rfl))
              try simp only [Act.put, List.setIfInBounds_toArray, List.set_cons_zero, List.set_cons_succ]
              refine wpAnyH_take (i := 1) (oi := { dst := some 42, op := Go.Op.load 58 (Go.Operand.tmp 41), type := 58, pos := "outright.go:155", after := #[{ on := 0, ground := Go.Ground.data }], guard := none }) (v := ?_) rfl (by kernel_rfl) (by kernel_rfl) (by kernel_rfl) (fun _ _ _ h => h) (Or.inl ⟨by rfl, ?_⟩) hHeld ?_
              rotate_left
              · (intro wq hSw; (try dsimp only at hSw); go_simp; try (with_reducible rfl))
              try simp only [Act.put, List.setIfInBounds_toArray, List.set_cons_zero, List.set_cons_succ]
              refine wpAnyH_take (i := 2) (oi := { dst := some 43, op := Go.Op.move (Go.Operand.tmp 3), type := 26, pos := "outright.go:155", after := #[], guard := none }) (v := ?_) rfl (by kernel_rfl) (by kernel_rfl) (by kernel_rfl) (fun _ _ _ h => h) (Or.inl ⟨by rfl, ?_⟩) hHeld ?_
              rotate_left
              · (intro wq hSw; (try dsimp only at hSw); go_simp; try (with_reducible rfl))
              try simp only [Act.put, List.setIfInBounds_toArray, List.set_cons_zero, List.set_cons_succ]
              refine wpAnyH_take (i := 10) (oi := { dst := some 51, op := Go.Op.move (Go.Operand.tmp 12), type := 3, pos := "outright.go:155", after := #[], guard := none }) (v := ?_) rfl (by kernel_rfl) (by kernel_rfl) (by kernel_rfl) (fun _ _ _ h => h) (Or.inl ⟨by rfl, ?_⟩) hHeld ?_
              rotate_left
              · (intro wq hSw; (try dsimp only at hSw); go_simp; try (with_reducible rfl))
              try simp only [Act.put, List.setIfInBounds_toArray, List.set_cons_zero, List.set_cons_succ]
              refine wpAnyH_take (i := 11) (oi := { dst := some 52, op := Go.Op.binOp Go.BinOp.eql 3 (Go.Operand.tmp 51) (Go.Operand.const (Go.Value.int Go.IntKind.i64 2)) 3, type := 4, pos := "outright.go:155", after := #[{ on := 10, ground := Go.Ground.data }], guard := none }) (v := ?_) rfl (by kernel_rfl) (by kernel_rfl) (by kernel_rfl) (fun _ _ _ h => h) (Or.inl ⟨by rfl, ?_⟩) hHeld ?_
              rotate_left
              · (intro wq hSw; (try dsimp only at hSw); go_simp; try (with_reducible rfl))
              try simp only [Act.put, List.setIfInBounds_toArray, List.set_cons_zero, List.set_cons_succ]
              refine wpAnyH_ready (rs := [3]) (by kernel_rfl) (by simp) ?_
              refine (AllReadyH.cons (o := { dst := some 44, op := Go.Op.call { callee := Go.Callee.value (Go.Operand.func 65), args := #[Go.Operand.tmp 42, Go.Operand.tmp 43], argTypes := #[58, 26] }, type := 4, pos := "outright.go:155", after := #[{ on := 1, ground := Go.Ground.data }, { on := 2, ground := Go.Ground.data }], guard := none }) rfl (fun K hK => ?_) AllReadyH.nil)
              go_simp
              refine (HFU.out _ hHeld.1).mono ?_
              rintro e w6 ⟨rfl, hw6⟩
              have hw6' := hw6.symm
              clear hw6
              subst hw6'
              rw [hfu]
              try dsimp only
              refine hK.out _ _ ?_ (fun hHeld => ?_)
              · exact hHeld
              clear hK K
              try simp only [Act.put, List.setIfInBounds_toArray, List.set_cons_zero, List.set_cons_succ]
              refine wpAnyH_take (i := 4) (oi := { dst := some 45, op := Go.Op.move (Go.Operand.tmp 44), type := 4, pos := "outright.go:155", after := #[{ on := 3, ground := Go.Ground.data }, { on := 3, ground := Go.Ground.chain }], guard := none }) (v := ?_) rfl (by kernel_rfl) (by kernel_rfl) (by kernel_rfl) (fun _ _ _ h => h) (Or.inl ⟨by rfl, ?_⟩) hHeld ?_
              rotate_left
              · (intro wq hSw; (try dsimp only at hSw); go_simp; try (with_reducible rfl))
              try simp only [Act.put, List.setIfInBounds_toArray, List.set_cons_zero, List.set_cons_succ]
              refine wpAnyH_take (i := 5) (oi := { dst := some 46, op := Go.Op.fieldAddr 62 (Go.Operand.tmp 13) 2, type := 0, pos := "outright.go:155", after := #[{ on := 4, ground := Go.Ground.guard }], guard := some (4, true) }) (v := ?_) rfl (by kernel_rfl) (by kernel_rfl) (by kernel_rfl) (fun _ _ _ h => h) (Or.inl ⟨by rfl, ?_⟩) hHeld ?_
              rotate_left
              · (intro wq hSw; (try dsimp only at hSw); go_simp; try (with_reducible rfl))
              try simp only [Act.put, List.setIfInBounds_toArray, List.set_cons_zero, List.set_cons_succ]
              refine wpAnyH_take (i := 6) (oi := { dst := some 47, op := Go.Op.load 58 (Go.Operand.tmp 46), type := 58, pos := "outright.go:155", after := #[{ on := 5, ground := Go.Ground.data }, { on := 4, ground := Go.Ground.guard }], guard := some (4, true) }) (v := ?_) rfl (by kernel_rfl) (by kernel_rfl) (by kernel_rfl) (fun _ _ _ h => h) (Or.inl ⟨by rfl, ?_⟩) hHeld ?_
              rotate_left
              · (intro wq hSw; (try dsimp only at hSw); go_simp; try (with_reducible rfl))
              try simp only [Act.put, List.setIfInBounds_toArray, List.set_cons_zero, List.set_cons_succ]
              refine wpAnyH_take (i := 7) (oi := { dst := some 48, op := Go.Op.move (Go.Operand.tmp 3), type := 26, pos := "outright.go:155", after := #[{ on := 4, ground := Go.Ground.guard }], guard := some (4, true) }) (v := ?_) rfl (by kernel_rfl) (by kernel_rfl) (by kernel_rfl) (fun _ _ _ h => h) (Or.inl ⟨by rfl, ?_⟩) hHeld ?_
              rotate_left
              · (intro wq hSw; (try dsimp only at hSw); go_simp; try (with_reducible rfl))
              try simp only [Act.put, List.setIfInBounds_toArray, List.set_cons_zero, List.set_cons_succ]
              refine wpAnyH_ready (rs := [8]) (by kernel_rfl) (by simp) ?_
              refine (AllReadyH.cons (o := { dst := some 49, op := Go.Op.call { callee := Go.Callee.value (Go.Operand.func 65), args := #[Go.Operand.tmp 47, Go.Operand.tmp 48], argTypes := #[58, 26] }, type := 4, pos := "outright.go:155", after := #[{ on := 6, ground := Go.Ground.data }, { on := 7, ground := Go.Ground.data }, { on := 4, ground := Go.Ground.chain }, { on := 4, ground := Go.Ground.guard }], guard := some (4, true) }) rfl (fun K hK => ?_) AllReadyH.nil)
              go_simp
              refine (HFL.out _ hHeld.1).mono ?_
              rintro e w6 ⟨rfl, hw6⟩
              have hw6' := hw6.symm
              clear hw6
              subst hw6'
              rw [hfl]
              try dsimp only
              refine hK.out _ _ ?_ (fun hHeld => ?_)
              · exact hHeld
              clear hK K
              try simp only [Act.put, List.setIfInBounds_toArray, List.set_cons_zero, List.set_cons_succ]
              refine wpAnyH_take (i := 9) (oi := { dst := some 50, op := Go.Op.pick (Go.Operand.tmp 45) (Go.Operand.tmp 49) (Go.Operand.const (Go.Value.bool false)), type := 4, pos := "outright.go:155", after := #[{ on := 4, ground := Go.Ground.data }, { on := 8, ground := Go.Ground.data }], guard := none }) (v := ?_) rfl (by kernel_rfl) (by kernel_rfl) (by kernel_rfl) (fun _ _ _ h => h) (Or.inl ⟨by rfl, ?_⟩) hHeld ?_
              rotate_left
              · (intro wq hSw; (try dsimp only at hSw); go_simp; try (with_reducible rfl))
              try simp only [Act.put, List.setIfInBounds_toArray, List.set_cons_zero, List.set_cons_succ]
              refine wpAnyH_take (i := 12) (oi := { dst := some 53, op := Go.Op.move (Go.Operand.tmp 52), type := 4, pos := "outright.go:155", after := #[{ on := 11, ground := Go.Ground.data }, { on := 8, ground := Go.Ground.chain }], guard := none }) (v := ?_) rfl (by kernel_rfl) (by kernel_rfl) (by kernel_rfl) (fun _ _ _ h => h) (Or.inl ⟨by rfl, ?_⟩) hHeld ?_
              rotate_left
              · (intro wq hSw; (try dsimp only at hSw); go_simp; try (with_reducible rfl))
              try simp only [Act.put, List.setIfInBounds_toArray, List.set_cons_zero, List.set_cons_succ]
              refine wpAnyH_take (i := 13) (oi := { dst := some 54, op := Go.Op.fieldAddr 62 (Go.Operand.tmp 11) 0, type := 0, pos := "outright.go:155", after := #[{ on := 12, ground := Go.Ground.guard }], guard := some (12, true) }) (v := ?_) rfl (by kernel_rfl) (by kernel_rfl) (by kernel_rfl) (fun _ _ _ h => h) (Or.inl ⟨by rfl, ?_⟩) hHeld ?_
              rotate_left
              · (intro wq hSw; (try dsimp only at hSw); go_simp; try (with_reducible rfl))
              try simp only [Act.put, List.setIfInBounds_toArray, List.set_cons_zero, List.set_cons_succ]
              refine wpAnyH_take (i := 14) (oi := { dst := some 55, op := Go.Op.load 3 (Go.Operand.tmp 54), type := 3, pos := "outright.go:155", after := #[{ on := 13, ground := Go.Ground.data }, { on := 12, ground := Go.Ground.guard }], guard := some (12, true) }) (v := ?_) rfl (by kernel_rfl) (by kernel_rfl) (by kernel_rfl) (fun _ _ _ h => h) (Or.inl ⟨by rfl, ?_⟩) hHeld ?_
              rotate_left
              · (intro wq hSw; (try dsimp only at hSw); go_simp; try (with_reducible rfl))
              try simp only [Act.put, List.setIfInBounds_toArray, List.set_cons_zero, List.set_cons_succ]
              refine wpAnyH_take (i := 15) (oi := { dst := some 56, op := Go.Op.move (Go.Operand.tmp 4), type := 35, pos := "outright.go:155", after := #[{ on := 12, ground := Go.Ground.guard }], guard := some (12, true) }) (v := ?_) rfl (by kernel_rfl) (by kernel_rfl) (by kernel_rfl) (fun _ _ _ h => h) (Or.inl ⟨by rfl, ?_⟩) hHeld ?_
              rotate_left
              · (intro wq hSw; (try dsimp only at hSw); go_simp; try (with_reducible rfl))
              try simp only [Act.put, List.setIfInBounds_toArray, List.set_cons_zero, List.set_cons_succ]
              refine wpAnyH_take (i := 16) (oi := { dst := some 57, op := Go.Op.indexAddr 35 (Go.Operand.tmp 56) (Go.Operand.const (Go.Value.int Go.IntKind.i64 0)), type := 0, pos := "outright.go:155", after := #[{ on := 15, ground := Go.Ground.data }, { on := 12, ground := Go.Ground.guard }], guard := some (12, true) }) (v := ?_) rfl (by kernel_rfl) (by kernel_rfl) (by kernel_rfl) (fun _ _ _ h => h) (Or.inl ⟨by rfl, ?_⟩) hHeld ?_
              rotate_left
              · (intro wq hSw; (try dsimp only at hSw); go_simp; try (with_reducible rfl))
              try simp only [Act.put, List.setIfInBounds_toArray, List.set_cons_zero, List.set_cons_succ]
              refine wpAnyH_take (i := 17) (oi := { dst := some 58, op := Go.Op.load 3 (Go.Operand.tmp 57), type := 3, pos := "outright.go:155", after := #[{ on := 16, ground := Go.Ground.data }, { on := 12, ground := Go.Ground.guard }], guard := some (12, true) }) (v := ?_) rfl (by kernel_rfl) (by kernel_rfl) (by kernel_rfl) (fun _ _ _ h => h) (Or.inl ⟨by rfl, ?_⟩) hHeld ?_
              rotate_left
              · (intro wq hSw; (try dsimp only at hSw); go_simp; try (with_reducible rfl))
              try simp only [Act.put, List.setIfInBounds_toArray, List.set_cons_zero, List.set_cons_succ]
              refine wpAnyH_take (i := 18) (oi := { dst := some 59, op := Go.Op.binOp Go.BinOp.eql 3 (Go.Operand.tmp 55) (Go.Operand.tmp 58) 3, type := 4, pos := "outright.go:155", after := #[{ on := 14, ground := Go.Ground.data }, { on := 17, ground := Go.Ground.data }, { on := 12, ground := Go.Ground.guard }], guard := some (12, true) }) (v := .bool false) rfl (by kernel_rfl) (by kernel_rfl) (by kernel_rfl) (fun _ _ _ h => h) (Or.inl ⟨by rfl, ?_⟩) hHeld ?_
              · (intro wq hSw; (try dsimp only at hSw); go_simp; try exact hlv)
              try simp only [Act.put, List.setIfInBounds_toArray, List.set_cons_zero, List.set_cons_succ]
              refine wpAnyH_take (i := 19) (oi := { dst := some 60, op := Go.Op.pick (Go.Operand.tmp 53) (Go.Operand.tmp 59) (Go.Operand.const (Go.Value.bool false)), type := 4, pos := "outright.go:155", after := #[{ on := 12, ground := Go.Ground.data }, { on := 18, ground := Go.Ground.data }], guard := none }) (v := ?_) rfl (by kernel_rfl) (by kernel_rfl) (by kernel_rfl) (fun _ _ _ h => h) (Or.inl ⟨by rfl, ?_⟩) hHeld ?_
              rotate_left
              · (intro wq hSw; (try dsimp only at hSw); go_simp; try (with_reducible rfl))
              try simp only [Act.put, List.setIfInBounds_toArray, List.set_cons_zero, List.set_cons_succ]
              refine wpAnyH_take (i := 20) (oi := { dst := some 61, op := Go.Op.binOp Go.BinOp.neq 4 (Go.Operand.tmp 50) (Go.Operand.tmp 60) 4, type := 4, pos := "outright.go:155", after := #[{ on := 9, ground := Go.Ground.data }, { on := 19, ground := Go.Ground.data }], guard := none }) (v := ?_) rfl (by kernel_rfl) (by kernel_rfl) (by kernel_rfl) (fun _ _ _ h => h) (Or.inl ⟨by rfl, ?_⟩) hHeld ?_
              rotate_left
              · (intro wq hSw; (try dsimp only at hSw); go_simp; try (with_reducible rfl))
              try simp only [Act.put, List.setIfInBounds_toArray, List.set_cons_zero, List.set_cons_succ]
              refine wpAnyH_done (by kernel_rfl) ?_ _
              go_wp2_with fail
              go_meet
              case rel => exact ⟨by first | rfl | simp, (Below.refl Wx.heap.size Wx).drew⟩

        case rest =>
          obtain ⟨rfl, HBY⟩ := hcut
          rename World => Wy
          have HSy := hidV (HSx.out.below HBY.out)
          clear HST HFU HFL HJx HSx HF0 hfh
          obtain ⟨p, z, hz, hJz, hlvl, hhit, hno⟩ := HFX.out.2.2.2 (by trivial)
          have hlz : J.lv = (z : Int) := by rw [hJz]; exact jobL_lv
          obtain ⟨g1, g2, g3⟩ := HX.out.og z (List.mem_of_getElem? hz)
          have hpl := (List.getElem?_eq_some_iff.1 hz).1
          have hn5 := HX.out.cr.n5
          have hzb : z < 5 := by omega
          have e1 : un = J.up.length := HSy.out.ja.1.2.1
          have e2 : vn = J.lo.length := HSy.out.ja.2.2.1
          subst e1 e2
          have HJL : Hid (J.up.length ≤ 1000000 ∧ J.lo.length ≤ 1000000) := by rw [hJz]; exact jobL_len HX.out.v.1
          have hff := free_hits xs J
          rw [show hitsL xs J = false by rw [hJz]; exact hhit] at hff
          have hfu : freeB xs J.up = true := by cases hh : freeB xs J.up with | true => rfl | false => (rw [hh] at hff; simp at hff)
          have hfl : freeB xs J.lo = true := by cases hh : freeB xs J.lo with | true => rfl | false => (rw [hh] at hff; simp at hff)
          have HFR : Hid ((freeB xs J.up = true ∧ freeB xs J.lo = true) ∧ od[p]? = some z ∧ ∀ (m y : Nat), m < p → od[m]? = some y → y ≠ z ∧ y ≠ z + 1 ∧ y + 1 ≠ z) := ⟨⟨hfu, hfl⟩, hz, hno⟩
          have HLV : Hid (∀ X, RowKit.Below w.heap.size w X → Calls Tryz.prog 17 #[.slice (some ⟨ob, oo, none⟩) od.length sc, .int .i64 (z : Int)] X fun e w' => e = .returned (.int .i64 (p : Int)) ∧ w' = X) := fun X hX => by
            have := levelN_any (some ⟨ob, oo, none⟩) od.length sc od z X (HX.out.s.below hX) (by omega)
            rw [hlvl] at this
            exact this
          have HIN : Hid (∀ X, RowKit.Below w.heap.size w X → Calls Tryz.prog 18 #[.agg (cfgA c), .pointer (some ⟨vb, 0, none⟩), .slice pa ps.length pc, .int .i64 (z : Int)] X fun e w' => ∃ (ua : Option Addr) (un uc : Nat) (va : Option Addr) (vn vc : Nat), e = .returned (.tuple #[jbV J.lv (ua, un, uc) (va, vn, vc) J.cut J.mv, .bool true]) ∧ JAt w' (ua, un, uc) (va, vn, vc) J ∧ RowKit.Below X.heap.size X w') := fun X hX => by
            rw [hJz]
            refine (inputsL_any c vb V pa pc ps z f _ X (HX.out.v.below hX) HX.out.cr HX.out.no (HX.out.p.below hX) HX.out.pl HX.out.f_ g1 g2 g3).mono ?_
            rintro e w' ⟨⟨ua, un, uc⟩, ⟨va, vn, vc⟩, he, hj, hb, hu, hl⟩
            exact ⟨ua, un, uc, va, vn, vc, he, hj, hb⟩
          have HLZ := hidV hlz
          clear hfu hfl hff hno hhit hlvl hJz hz g2 g3
          have j0 := HSy.out.jz.2.1 0 _ rfl
          have j1 := HSy.out.jz.2.1 1 _ rfl
          have j2 := HSy.out.jz.2.1 2 _ rfl
          have j3 := HSy.out.jz.2.1 3 _ rfl
          have j4 := HSy.out.jz.2.1 4 _ rfl
          simp only at j1 j2
          rw [hlz] at j0
          clear hlz
          have hLy := HSy.out.cf
          go_upto_region 10 with (first
            | (refine wpList_cfg (by rfl) _ (by rfl) (by rfl) hLy ?_)
            | (go_at_call 17; go_loud (refine (HLV.out _ HSy.out.b).mono ?_; rintro e w6 ⟨rfl, hw6⟩; have hw6' := hw6.symm; clear hw6; subst hw6'))
            | (go_at_call 18; go_loud (refine (HIN.out _ HSy.out.b).mono ?_; rintro e w7 ⟨u7, n7, k7, v7, m7, l7, rfl, hj7, hb7⟩; have H7 := hidV (And.intro hj7 hb7); clear hj7 hb7; unfold jbV)))
          obtain ⟨W8, hW8⟩ : ∃ X, w7.alloc (Obj.cells #[.int .i64 J.lv, .slice u7 n7 k7, .slice v7 m7 l7, .string J.cut, .bool J.mv] 62) = X := ⟨_, rfl⟩
          have H8 : Hid (FoS w c V J (ua, J.up.length, uc) (va, J.lo.length, vc) B W8 ∧ Zb W8 w7.heap.size (jbC J.lv (u7, n7, k7) (v7, m7, l7) J.cut J.mv) ∧ JAt W8 (u7, n7, k7) (v7, m7, l7) J) := by
            subst hW8
            have hb := (Below.refl w7.heap.size w7).alloc (Nat.le_refl _) (Obj.cells #[.int .i64 J.lv, .slice u7 n7 k7, .slice v7 m7 l7, .string J.cut, .bool J.mv] 62)
            exact ⟨(HSy.out.below H7.out.2).below hb, Zb.new w7 _ _, H7.out.1.below hb⟩
          (try rw [hW8])
          clear hW8
          generalize w7.heap.size = B8 at *
          clear j0 j1 j2 j3 j4 hLy H7 HIN HLV
          have j0 := H8.out.1.jz.2.1 0 _ rfl
          have j1 := H8.out.1.jz.2.1 1 _ rfl
          have j2 := H8.out.1.jz.2.1 2 _ rfl
          have j3 := H8.out.1.jz.2.1 3 _ rfl
          have j4 := H8.out.1.jz.2.1 4 _ rfl
          have i0 := H8.out.2.1.2.1 0 _ rfl
          have i1 := H8.out.2.1.2.1 1 _ rfl
          have i2 := H8.out.2.1.2.1 2 _ rfl
          have i3 := H8.out.2.1.2.1 3 _ rfl
          have i4 := H8.out.2.1.2.1 4 _ rfl
          simp only at j1 j2 i1 i2
          have HSJ : Hid (Calls Tryz.prog 35 #[jbV J.lv (ua, J.up.length, uc) (va, J.lo.length, vc) J.cut J.mv, jbV J.lv (u7, n7, k7) (v7, m7, l7) J.cut J.mv] W8 fun e w' => e = .returned (.bool true) ∧ FoS w c V J (ua, J.up.length, uc) (va, J.lo.length, vc) B w' ∧ w'.cell? ⟨B, 0, none⟩ = some (.int .i64 (z : Int)) ∧ w'.cell? ⟨B, 1, none⟩ = some (.slice ua J.up.length uc) ∧ w'.cell? ⟨B, 2, none⟩ = some (.slice va J.lo.length vc)) := (sameJob_true J _ _ _ _ W8 H8.out.1.ja H8.out.2.2 HJL.out).mono fun e w' ⟨he, hb⟩ => by
            have h9 := H8.out.1.below hb
            have c0 := h9.jz.2.1 0 _ rfl
            rw [HLZ.out] at c0
            exact ⟨he, h9, c0, h9.jz.2.1 1 _ rfl, h9.jz.2.1 2 _ rfl⟩
          unfold jbV at HSJ
          simp only at HSJ
          have HFU : Hid (∀ X, FoS w c V J (ua, J.up.length, uc) (va, J.lo.length, vc) B X → Calls Tryz.prog 65 #[.slice ua J.up.length uc, .slice la ln lc] X fun e w' => e = .returned (.bool true) ∧ w' = X) := fun X hX => by
            have := free_any _ _ _ _ _ _ _ X hX.ja.1 HJL.out.1 (HX.out.x.below hX.b) HX.out.xl HX.out.xo
            rw [HFR.out.1.1] at this
            exact this
          have HFL : Hid (∀ X, FoS w c V J (ua, J.up.length, uc) (va, J.lo.length, vc) B X → Calls Tryz.prog 65 #[.slice va J.lo.length vc, .slice la ln lc] X fun e w' => e = .returned (.bool true) ∧ w' = X) := fun X hX => by
            have := free_any _ _ _ _ _ _ _ X hX.ja.2 HJL.out.2 (HX.out.x.below hX.b) HX.out.xl HX.out.xo
            rw [HFR.out.1.2] at this
            exact this
          have p0 : ¬ (p : Int) < 0 := by omega
          go_upto_region 12 with (first
            | (go_at_call 35; go_loud (refine HSJ.out.mono ?_; rintro e w9 ⟨rfl, h9, c0, c1, c2⟩; have H9 := hidV h9; clear h9))
            | (go_at_call 65; go_loud (with_reducible refine (HFU.out _ H9.out).mono ?_; rintro e w6 ⟨rfl, hw6⟩; have hw6' := hw6.symm; clear hw6; subst hw6'))
            | (go_at_call 65; go_loud (with_reducible refine (HFL.out _ H9.out).mono ?_; rintro e w6 ⟨rfl, hw6⟩; have hw6' := hw6.symm; clear hw6; subst hw6')))
          clear j0 j1 j2 j3 j4 i0 i1 i2 i3 i4 HSJ HFU HFL H8 c1 c2
          have w1z : IntKind.i64.wrap ((z : Int) + 1) = (z : Int) + 1 := IntWalk.i64_in _ (by omega)
          have w2z : IntKind.i64.wrap ((z : Int) - 1) = (z : Int) - 1 := IntWalk.i64_in _ (by omega)
          go_wp2_with fail
          go_loopw [18] (fun iv wr => ∃ k : Nat, k ≤ p ∧ iv = .int .i64 (k : Int) ∧ wr = w9) (fun iv _ => p - (intOf iv).toNat)
          case atStart => exact ⟨0, Nat.zero_le _, rfl, rfl⟩
          case round =>
            obtain ⟨k, hk, rfl, hww⟩ := hrel
            have hww' := hww.symm
            clear hww
            subst hww'
            by_cases hlt : k < p
            · have hlt' : (k : Int) < (p : Int) := by omega
              have hko : (k : Int) < (od.length : Int) := by omega
              obtain ⟨y, hy⟩ : ∃ y, od[k]? = some y := ⟨_, List.getElem?_eq_getElem (by omega)⟩
              obtain ⟨n1, n2, n3⟩ := HFR.out.2.2 k y hlt hy
              obtain ⟨ob', oo', eo, hob', hcell⟩ := (HX.out.s.below H9.out.b).cell (i := k) (x := (y : Int)) (by unfold zI; rw [List.getElem?_map, hy]; rfl)
              have hcy : w9.cell? ⟨ob, oo + k, none⟩ = some (.int .i64 (y : Int)) := by
                injection eo with eo
                injection eo with a1 a2
                subst a1 a2
                have := hcell 0 _ rfl
                simpa [kI] using this
              have m1 : ¬ (y : Int) = (z : Int) := by omega
              have m2 : ¬ (y : Int) = (z : Int) + 1 := by omega
              have m3 : ¬ (y : Int) = (z : Int) - 1 := by omega
              have m1b : ((y : Int) == (z : Int)) = false := by simpa using m1
              have m2b : ((y : Int) == (z : Int) + 1) = false := by simpa using m2
              have m3b : ((y : Int) == (z : Int) - 1) = false := by simpa using m3
              clear hcell hy eo m1 m2 m3
              go_wp2_with fail
              go_roundw
              case rel => exact ⟨k + 1, by omega, by go_num, trivial⟩
              case measure => simp [intOf]; omega
            · have hlt' : ¬ (k : Int) < (p : Int) := by omega
              go_wp2_with fail
              go_ret
              exact ⟨rfl, H9.out.b⟩

end Vr
end Go.Proofs.YtaejjpbpnedblaaGreat
