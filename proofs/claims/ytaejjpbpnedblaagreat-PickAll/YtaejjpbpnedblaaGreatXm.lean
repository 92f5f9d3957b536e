import Derived.Test.YtaejjpbpnedblaaGreatXl
namespace Go.Proofs.YtaejjpbpnedblaaGreat
namespace Vr
open Go.Shelf Go.RowKit Go.Lib Go.Sort Go.Maps Go.ChangeMaps Go.MapKept Laws Irw Crw
set_option linter.unusedVariables false
set_option linter.unusedSimpArgs false
set_option maxRecDepth 20000
theorem wpList_stC {ops : Array Oper} {rest : List Oper} {op : Oper} {a : Act} {w : World} {Q : Exit → Act → World → Prop} {c : Cf} {Z : Array Value} (hgd : op.guard = none) (x y : Operand) (ho : op.op = .store 23 x y) (hx : a.eval x = .pointer (some ⟨w.heap.size, 0, none⟩)) (hy : a.eval y = .agg (cfgA c)) (hZ : Z.size = 27)
    (h : wpList Tryz.prog ops Q rest (a.put op.dst undef) (w.alloc (.cells (cfgA c) 23))) : wpList Tryz.prog ops Q (op :: rest) a (w.alloc (.cells Z 23)) := by
  refine wpList_skipR hgd ?_ h
  unfold execOp
  rw [ho]
  show (do Instr.storeAt 23 (a.eval x) (a.eval y); pure Next.skip : Sem Next).run Tryz.prog _ = _
  rw [hx, hy]
  exact run_skipR (run_storeAt_new w 23 Z (cfgA c) (by exact infoCfg) hZ (by simp [cfgA, Value.oneCell']))
theorem ls_ints (w : World) (l : List Int) (vs : Array Value) (h : vs.toList = kI.cells l) (n : Nat) (hn : l.length = n) : Ls kI (w.alloc (.cells vs 3)) (some ⟨w.heap.size, 0, none⟩, n, n) l := by
  subst hn
  have hz := Zb.new w vs 3
  rw [h] at hz
  exact ⟨isK_zb hz, rfl, by simp, Nat.le_refl _, .inr ⟨_, _, rfl⟩⟩
theorem ls_strs (w : World) (l : List ByteArray) (vs : Array Value) (h : vs.toList = kT.cells l) (n : Nat) (hn : l.length = n) : Ls kT (w.alloc (.cells vs 9)) (some ⟨w.heap.size, 0, none⟩, n, n) l := by
  subst hn
  have hz := Zb.new w vs 9
  rw [h] at hz
  exact ⟨isK_zb hz, rfl, by simp, Nat.le_refl _, .inr ⟨_, _, rfl⟩⟩
theorem scores_ex (vb : Nat) (W : World) (h : VAt W vb exV) : Calls Tryz.prog 15 #[.agg (cfgA exC), .pointer (some ⟨vb, 0, none⟩)] W fun e w' => ∃ (a : Option Addr) (c : Nat), e = .returned (.slice a 3 c) ∧ Ls kI w' (a, 3, c) [1000, 1220, 1098] ∧ RowKit.Below W.heap.size W w' :=
  (scores_any exC vb exV W h exV_we exC_r).mono fun e w' ⟨⟨a, n, c⟩, T, he, ho, hold⟩ => by
    rw [exV_scs] at ho
    have hl := Ls.own ho
    have hn : n = 3 := hl.2.1
    subst hn
    exact ⟨a, c, he, hl, hold.below⟩
theorem order_ex' (vb : Nat) (W : World) (h : VAt W vb exV) : Calls Tryz.prog 14 #[.agg (cfgA exC), .pointer (some ⟨vb, 0, none⟩)] W fun e w' => ∃ (a : Option Addr) (c : Nat), e = .returned (.slice a 3 c) ∧ Ls kI w' (a, 3, c) [1, 2, 0] ∧ RowKit.Below W.heap.size W w' :=
  (order_ex vb W h).mono fun e w' ⟨g, cap, he, hc, hz, hb⟩ => ⟨some ⟨g, 0, none⟩, cap, he, ⟨isK_zb hz, rfl, by simp, hc, .inr ⟨_, _, rfl⟩⟩, hb⟩
/-- what stands between the calls -/
structure KB (w : World) (B vb : Nat) (W : World) : Prop where
  b : RowKit.Below w.heap.size w W
  v : VAt W vb exV
  c : Lc W B exC
  l : B < W.heap.size
theorem KB.below {w W W' : World} {B vb : Nat} (h : KB w B vb W) (hb : RowKit.Below W.heap.size W W') : KB w B vb W' := ⟨h.b.trans (hb.mono h.b.size), h.v.below hb, h.c.keep h.l hb, Nat.lt_of_lt_of_le h.l hb.size⟩
set_option maxHeartbeats 4000000 in
theorem known_any (w : World) : Calls Tryz.prog 13 #[] w fun e w' => e = .returned (.bool true) ∧ RowKit.Below w.heap.size w w' := by
  have HExm := hidV (example_any w)
  go_enter Tryz.func13, Tryz.ntmps13
  go_upto_region 2 with (first | (go_at_call 54; go_loud (refine HExm.out.mono ?_; rintro e w1 ⟨vb, rfl, hv1, hb1⟩; have H1 := hidV (And.intro hv1 hb1); clear hv1 hb1)) | (refine wpList_stC (by rfl) _ _ (by rfl) (by rfl) (by rfl) (by rfl) ?_))
  have HK : Hid (KB w w1.heap.size vb (w1.alloc (.cells (cfgA exC) 23))) := by
    have hb : RowKit.Below w1.heap.size w1 (w1.alloc (.cells (cfgA exC) 23)) := (Below.refl _ _).alloc (Nat.le_refl _) _
    exact ⟨H1.out.2.trans (hb.mono H1.out.2.size), H1.out.1.below hb, lc_new w1 exC 23, by simp⟩
  generalize (w1.alloc (.cells (cfgA exC) 23)) = W at *
  generalize w1.heap.size = B at *
  clear H1 HExm
  have hL := HK.out.c
  go_upto_region 4 with (first
    | (refine wpList_cfgG (by rfl) _ (by rfl) (by rfl) hL ?_)
    | (refine wpList_cfgG (by rfl) _ (by rfl) (by rfl) hL3 ?_)
    | (go_at_call 15; go_loud (refine (scores_ex vb W HK.out.v).mono ?_; rintro e w2 ⟨a2, c2, rfl, hs2, hb2⟩; have H2 : Hid (Ls kI w2 (a2, 3, c2) [1000, 1220, 1098] ∧ KB w B vb w2) := ⟨hs2, HK.out.below hb2⟩; clear hs2 hb2))
    | (go_at_call 14; go_loud (refine (order_ex' vb _ H3.out.v).mono ?_; rintro e w4 ⟨a4, c4, rfl, hs4, hb4⟩; have H4 : Hid (Ls kI w4 (a4, 3, c4) [1, 2, 0] ∧ KB w B vb w4) := ⟨hs4, H3.out.below hb4⟩; clear hs4 hb4))
    | (go_at_call_of 31 a2; go_loud (refine (sameInts_true a2 (some ⟨w2.heap.size, 0, none⟩) c2 3 3 [1000, 1220, 1098] _ (H2.out.1.below ((Below.refl _ _).alloc (Nat.le_refl _) _)) (ls_ints w2 [1000, 1220, 1098] _ rfl 3 rfl) rfl (by omega)).mono ?_; rintro e w3 ⟨rfl, n3, hw3⟩; have H3 : Hid (KB w B vb w3) := (by rw [hw3]; exact (H2.out.2.below ((Below.refl _ _).alloc (Nat.le_refl _) _)).below (bl_dn (Below.refl _ _) n3)); have hL3 := H3.out.c; clear hw3))
    | (go_at_call_of 31 a4; go_loud (refine (sameInts_true a4 (some ⟨w4.heap.size, 0, none⟩) c4 3 3 [1, 2, 0] _ (H4.out.1.below ((Below.refl _ _).alloc (Nat.le_refl _) _)) (ls_ints w4 [1, 2, 0] _ rfl 3 rfl) rfl (by omega)).mono ?_; rintro e w5 ⟨rfl, n5, hw5⟩; have H5 : Hid (KB w B vb w5) := (by rw [hw5]; exact (H4.out.2.below ((Below.refl _ _).alloc (Nat.le_refl _) _)).below (bl_dn (Below.refl _ _) n5)); clear hw5)))
  clear hL hL3 H2 H3 H4 HK
  have hL5 := H5.out.c
  go_upto_region 5 with (first
    | (refine wpList_cfg (by rfl) _ (by rfl) (by rfl) hL5 ?_)
    | (go_at_call 18; go_loud (refine (in1_ex vb (some ⟨w5.heap.size, 0, none⟩) 2 _ (H5.out.v.below ((Below.refl _ _).alloc (Nat.le_refl _) _)) (ls_strs w5 exP _ rfl 2 rfl)).mono ?_; rintro e w6 ⟨⟨ua, un, uc⟩, ⟨va, vn, vc⟩, rfl, hj6, hb6, _, _⟩; have H6 : Hid (JAt w6 (ua, un, uc) (va, vn, vc) exJ1 ∧ KB w B vb w6) := ⟨hj6, (H5.out.below ((Below.refl _ _).alloc (Nat.le_refl _) _)).below hb6⟩; clear hj6 hb6; unfold jbV; simp only)))
  clear hL5 H5
  obtain ⟨W6, hW6⟩ : ∃ X, w6.alloc (Obj.cells #[.int .i64 exJ1.lv, .slice ua un uc, .slice va vn vc, .string exJ1.cut, .bool exJ1.mv] 62) = X := ⟨_, rfl⟩
  have H7 : Hid (JAt W6 (ua, un, uc) (va, vn, vc) exJ1 ∧ KB w B vb W6 ∧ Zb W6 w6.heap.size (jbC exJ1.lv (ua, un, uc) (va, vn, vc) exJ1.cut exJ1.mv)) := by
    subst hW6
    have hb : RowKit.Below w6.heap.size w6 (w6.alloc (Obj.cells #[.int .i64 exJ1.lv, .slice ua un uc, .slice va vn vc, .string exJ1.cut, .bool exJ1.mv] 62)) := (Below.refl _ _).alloc (Nat.le_refl _) _
    exact ⟨H6.out.1.below hb, H6.out.2.below hb, Zb.new w6 _ _⟩
  rw [hW6]
  clear hW6 H6
  generalize w6.heap.size = bj at *
  have hL6 := H7.out.2.1.c
  have HN9 : Hid (Calls Tryz.prog 36 #[.agg (cfgA exC), .pointer (some ⟨vb, 0, none⟩), .slice (some ⟨W6.heap.size, 0, none⟩) 2 2, .slice (some ⟨W6.heap.size + 1, 0, none⟩) 1 1] ((W6.alloc (Obj.cells #[.string ⟨#[]⟩, .string ⟨#[99]⟩] 9)).alloc (Obj.cells #[.int .u64 9] 55)) fun e w' => ∃ us ls : Sv, e = .returned (.tuple #[.agg #[.int .i64 exJ1.lv, .slice us.1 us.2.1 us.2.2, .slice ls.1 ls.2.1 ls.2.2, .string exJ1.cut, .bool exJ1.mv], .int .i64 2]) ∧ JAt w' us ls exJ1 ∧ RowKit.Below W6.heap.size W6 w') := by
    have hb1 : RowKit.Below W6.heap.size W6 (W6.alloc (Obj.cells #[.string ⟨#[]⟩, .string ⟨#[99]⟩] 9)) := (Below.refl _ _).alloc (Nat.le_refl _) _
    have hb2 : RowKit.Below (W6.alloc (Obj.cells #[.string ⟨#[]⟩, .string ⟨#[99]⟩] 9)).heap.size (W6.alloc (Obj.cells #[.string ⟨#[]⟩, .string ⟨#[99]⟩] 9)) ((W6.alloc (Obj.cells #[.string ⟨#[]⟩, .string ⟨#[99]⟩] 9)).alloc (Obj.cells #[.int .u64 9] 55)) := (Below.refl _ _).alloc (Nat.le_refl _) _
    have hbb := hb1.trans (hb2.mono hb1.size)
    refine (next_ex vb (some ⟨W6.heap.size, 0, none⟩) 2 (W6.heap.size + 1) 0 1 9 _ ((H7.out.2.1.v.below hb1).below hb2) ((ls_strs W6 exP _ rfl 2 rfl).below hb2) ((Zb.new2 W6 _ #[.int .u64 9] 55).2.1 0 _ rfl) (.inl rfl)).mono ?_
    rintro e w' ⟨hb, h9, _⟩
    obtain ⟨us, ls, he, hj⟩ := h9 rfl
    exact ⟨us, ls, he, hj, hbb.trans (hb.mono hbb.size)⟩
  go_upto_region 6 with (first
    | (refine wpList_cfg (by rfl) _ (by rfl) (by rfl) hL6 ?_)
    | (go_at_call 36; go_loud ((try simp only [World.size_alloc]); refine HN9.out.mono ?_; rintro e w8 ⟨⟨xa, xn, xc⟩, ⟨za, zn, zc⟩, rfl, hj8, hb8⟩; have H8 : Hid (JAt w8 (xa, xn, xc) (za, zn, zc) exJ1 ∧ JAt w8 (ua, un, uc) (va, vn, vc) exJ1 ∧ KB w B vb w8 ∧ Zb w8 bj (jbC exJ1.lv (ua, un, uc) (va, vn, vc) exJ1.cut exJ1.mv)) := ⟨hj8, H7.out.1.below hb8, H7.out.2.1.below hb8, H7.out.2.2.below hb8⟩; clear hj8 hb8; simp only)))
  clear hL6 HN9 H7
  obtain ⟨W8, hW8⟩ : ∃ X, w8.alloc (Obj.cells #[.int .i64 exJ1.lv, .slice xa xn xc, .slice za zn zc, .string exJ1.cut, .bool exJ1.mv] 62) = X := ⟨_, rfl⟩
  have H9 : Hid (JAt W8 (xa, xn, xc) (za, zn, zc) exJ1 ∧ JAt W8 (ua, un, uc) (va, vn, vc) exJ1 ∧ KB w B vb W8 ∧ Zb W8 bj (jbC exJ1.lv (ua, un, uc) (va, vn, vc) exJ1.cut exJ1.mv) ∧ Zb W8 w8.heap.size (jbC exJ1.lv (xa, xn, xc) (za, zn, zc) exJ1.cut exJ1.mv)) := by
    subst hW8
    have hb : RowKit.Below w8.heap.size w8 (w8.alloc (Obj.cells #[.int .i64 exJ1.lv, .slice xa xn xc, .slice za zn zc, .string exJ1.cut, .bool exJ1.mv] 62)) := (Below.refl _ _).alloc (Nat.le_refl _) _
    exact ⟨H8.out.1.below hb, H8.out.2.1.below hb, H8.out.2.2.1.below hb, H8.out.2.2.2.below hb, Zb.new w8 _ _⟩
  rw [hW8]
  clear hW8 H8
  generalize w8.heap.size = bx at *
  have hL8 := H9.out.2.2.1.c
  have HN7 : Hid (Calls Tryz.prog 36 #[.agg (cfgA exC), .pointer (some ⟨vb, 0, none⟩), .slice (some ⟨W8.heap.size, 0, none⟩) 2 2, .slice (some ⟨W8.heap.size + 1, 0, none⟩) 1 1] ((W8.alloc (Obj.cells #[.string ⟨#[]⟩, .string ⟨#[99]⟩] 9)).alloc (Obj.cells #[.int .u64 7] 55)) fun e w' => e = .returned (.tuple #[.agg #[.int .i64 0, .slice none 0 0, .slice none 0 0, .string ⟨#[]⟩, .bool false], .int .i64 1]) ∧ RowKit.Below W8.heap.size W8 w') := by
    have hb1 : RowKit.Below W8.heap.size W8 (W8.alloc (Obj.cells #[.string ⟨#[]⟩, .string ⟨#[99]⟩] 9)) := (Below.refl _ _).alloc (Nat.le_refl _) _
    have hb2 : RowKit.Below (W8.alloc (Obj.cells #[.string ⟨#[]⟩, .string ⟨#[99]⟩] 9)).heap.size (W8.alloc (Obj.cells #[.string ⟨#[]⟩, .string ⟨#[99]⟩] 9)) ((W8.alloc (Obj.cells #[.string ⟨#[]⟩, .string ⟨#[99]⟩] 9)).alloc (Obj.cells #[.int .u64 7] 55)) := (Below.refl _ _).alloc (Nat.le_refl _) _
    have hbb := hb1.trans (hb2.mono hb1.size)
    refine (next_ex vb (some ⟨W8.heap.size, 0, none⟩) 2 (W8.heap.size + 1) 0 1 7 _ ((H9.out.2.2.1.v.below hb1).below hb2) ((ls_strs W8 exP _ rfl 2 rfl).below hb2) ((Zb.new2 W8 _ #[.int .u64 7] 55).2.1 0 _ rfl) (.inr rfl)).mono ?_
    rintro e w' ⟨hb, _, h7⟩
    exact ⟨h7 rfl, hbb.trans (hb.mono hbb.size)⟩
  go_upto_region 7 with (first
    | (refine wpList_cfg (by rfl) _ (by rfl) (by rfl) hL8 ?_)
    | (go_at_call 36; go_loud ((try simp only [World.size_alloc]); refine HN7.out.mono ?_; rintro e wA ⟨rfl, hbA⟩; have HA : Hid (JAt wA (xa, xn, xc) (za, zn, zc) exJ1 ∧ JAt wA (ua, un, uc) (va, vn, vc) exJ1 ∧ KB w B vb wA ∧ Zb wA bj (jbC exJ1.lv (ua, un, uc) (va, vn, vc) exJ1.cut exJ1.mv) ∧ Zb wA bx (jbC exJ1.lv (xa, xn, xc) (za, zn, zc) exJ1.cut exJ1.mv)) := ⟨H9.out.1.below hbA, H9.out.2.1.below hbA, H9.out.2.2.1.below hbA, H9.out.2.2.2.1.below hbA, H9.out.2.2.2.2.below hbA⟩; clear hbA; simp only)))
  clear hL8 HN7 H9
  obtain ⟨WA, hWA⟩ : ∃ X, wA.alloc (Obj.cells #[.int .i64 0, .slice none 0 0, .slice none 0 0, .string ⟨#[]⟩, .bool false] 62) = X := ⟨_, rfl⟩
  have HB : Hid (JAt WA (xa, xn, xc) (za, zn, zc) exJ1 ∧ JAt WA (ua, un, uc) (va, vn, vc) exJ1 ∧ KB w B vb WA ∧ Zb WA bj (jbC exJ1.lv (ua, un, uc) (va, vn, vc) exJ1.cut exJ1.mv) ∧ Zb WA bx (jbC exJ1.lv (xa, xn, xc) (za, zn, zc) exJ1.cut exJ1.mv)) := by
    subst hWA
    have hb : RowKit.Below wA.heap.size wA (wA.alloc (Obj.cells #[.int .i64 0, .slice none 0 0, .slice none 0 0, .string ⟨#[]⟩, .bool false] 62)) := (Below.refl _ _).alloc (Nat.le_refl _) _
    exact ⟨HA.out.1.below hb, HA.out.2.1.below hb, HA.out.2.2.1.below hb, HA.out.2.2.2.1.below hb, HA.out.2.2.2.2.below hb⟩
  rw [hWA]
  clear hWA HA
  have eu : un = 1 := HB.out.2.1.1.2.1
  have ev : vn = 2 := HB.out.2.1.2.2.1
  subst eu ev
  obtain ⟨b1, o1, e1, _, hc1⟩ := HB.out.2.1.1.cell (i := 0) (x := exT 4 2000 101 112) rfl
  obtain ⟨b2, o2, e2, _, hc2⟩ := HB.out.2.1.2.cell (i := 1) (x := exT 7 3000 103 105) rfl
  change ua = _ at e1
  change va = _ at e2
  subst e1 e2
  have t1 : WA.cell? ⟨b1, o1, none⟩ = some (.int .u64 4) := hc1 0 _ rfl
  have t2 : WA.cell? ⟨b2, o2 + 6, none⟩ = some (.int .u64 7) := hc2 0 _ rfl
  clear hc1 hc2
  have y0 : WA.cell? ⟨bj, 0, none⟩ = some (.int .i64 1) := HB.out.2.2.2.1.2.1 0 _ rfl
  have y1 : WA.cell? ⟨bj, 1, none⟩ = some (.slice (some ⟨b1, o1, none⟩) 1 uc) := HB.out.2.2.2.1.2.1 1 _ rfl
  have y2 : WA.cell? ⟨bj, 2, none⟩ = some (.slice (some ⟨b2, o2, none⟩) 2 vc) := HB.out.2.2.2.1.2.1 2 _ rfl
  have y3 : WA.cell? ⟨bj, 3, none⟩ = some (.string ⟨#[107]⟩) := HB.out.2.2.2.1.2.1 3 _ rfl
  have y4 : WA.cell? ⟨bj, 4, none⟩ = some (.bool false) := HB.out.2.2.2.1.2.1 4 _ rfl
  have x0 : WA.cell? ⟨bx, 0, none⟩ = some (.int .i64 1) := HB.out.2.2.2.2.2.1 0 _ rfl
  have x1 : WA.cell? ⟨bx, 1, none⟩ = some (.slice xa xn xc) := HB.out.2.2.2.2.2.1 1 _ rfl
  have x2 : WA.cell? ⟨bx, 2, none⟩ = some (.slice za zn zc) := HB.out.2.2.2.2.2.1 2 _ rfl
  have x3 : WA.cell? ⟨bx, 3, none⟩ = some (.string ⟨#[107]⟩) := HB.out.2.2.2.2.2.1 3 _ rfl
  have x4 : WA.cell? ⟨bx, 4, none⟩ = some (.bool false) := HB.out.2.2.2.2.2.1 4 _ rfl
  have HSJ : Hid (Calls Tryz.prog 35 #[.agg #[.int .i64 1, .slice xa xn xc, .slice za zn zc, .string ⟨#[107]⟩, .bool false], .agg #[.int .i64 1, .slice (some ⟨b1, o1, none⟩) 1 uc, .slice (some ⟨b2, o2, none⟩) 2 vc, .string ⟨#[107]⟩, .bool false]] WA fun e w' => e = .returned (.bool true) ∧ RowKit.Below WA.heap.size WA w') := sameJob_true exJ1 (xa, xn, xc) (za, zn, zc) (some ⟨b1, o1, none⟩, 1, uc) (some ⟨b2, o2, none⟩, 2, vc) WA HB.out.1 HB.out.2.1 ⟨by decide, by decide⟩
  go_wp2_with (go_at_call 35; go_loud (refine HSJ.out.mono ?_; rintro e wB ⟨rfl, hbB⟩; have HZ : Hid (RowKit.Below w.heap.size w wB) := HB.out.2.2.1.b.trans (hbB.mono HB.out.2.2.1.b.size); clear hbB))
  go_ret
  exact ⟨rfl, HZ.out⟩
end Vr
end Go.Proofs.YtaejjpbpnedblaaGreat
