import Derived.Test.YtaejjpbpnedblaaGreatFpm
import Derived.OrdersHeld
import Derived.Deep.CutRange
import Derived.Deep.CutBlock
import Derived.Deep.DeepCutAuto
import Derived.Deep.RegionHeld3
import Derived.BigQuiet
namespace Go.Proofs.YtaejjpbpnedblaaGreat
namespace Vr
open Go.Shelf Go.RowKit Go.Lib Go.Sort Go.Maps Go.ChangeMaps Go.MapKept Laws Irw Crw
set_option linter.unusedVariables false
set_option linter.unusedSimpArgs false
set_option maxRecDepth 20000
set_option maxHeartbeats 8000000 in
theorem fair_any (c : Cf) (vb : Nat) (V : Lv) (j : Jb) (i : Nat) (us ls : Sv) (w : World) (h : VAt w vb V) (hc : Cr c V.length) (hj : JAt w us ls j) (hf : FairJ c V j i) :
    Calls Tryz.prog 19 #[.agg (cfgA c), .pointer (some ⟨vb, 0, none⟩), jbV j.lv us ls j.cut j.mv] w fun e w' => e = .returned (.bool true) ∧ RowKit.Below w.heap.size w w' := by
  obtain ⟨ua, un, uc⟩ := us
  obtain ⟨la, ln, lc⟩ := ls
  have e1 : un = j.up.length := hj.1.2.1
  have e2 : ln = j.lo.length := hj.2.2.1
  subst e1 e2
  have hn3 := hc.n3
  have hn5 := hc.n5
  obtain ⟨W, hW⟩ : ∃ X, (w.alloc (Obj.cells (cfgA c) 23)).alloc (Obj.cells #[.int .i64 (i : Int), .slice ua j.up.length uc, .slice la j.lo.length lc, .string j.cut, .bool j.mv] 62) = X := ⟨_, rfl⟩
  have HW : Hid (RowKit.Below w.heap.size w W ∧ Lc W w.heap.size c ∧ Zb W (w.heap.size + 1) (jbC (i : Int) (ua, j.up.length, uc) (la, j.lo.length, lc) j.cut j.mv) ∧ w.heap.size + 1 < W.heap.size) := by
    subst hW
    exact ⟨((Below.refl _ _).alloc (Nat.le_refl _) _).alloc (by simp) _, (lc_new w c 23).keep (by simp) ((Below.refl _ _).alloc (Nat.le_refl _) _), Zb.new2 w _ _ _, by simp⟩
  obtain ⟨u, hu⟩ : ∃ u, j.up[0]? = some u := ⟨_, List.getElem?_eq_getElem hf.up⟩
  obtain ⟨ub, uo, rfl, hub, u0, u1, u2, u3, u4, u5⟩ := ls_tb (hj.1.below HW.out.1) hu
  rw [Nat.zero_mul, Nat.add_zero] at u0 u1 u2 u3 u4 u5
  have HA := hidV (And.intro h (And.intro hc (And.intro hj (And.intro hf hu))))
  have hil := hf.il
  have hup := hf.up
  have hlen1 := hf.len.1
  have hlen2 := hf.len.2
  have j0 := HW.out.2.2.1.2.1 0 _ rfl
  have j1 := HW.out.2.2.1.2.1 1 _ rfl
  have j2 := HW.out.2.2.1.2.1 2 _ rfl
  have j3 := HW.out.2.2.1.2.1 3 _ rfl
  have j4 := HW.out.2.2.1.2.1 4 _ rfl
  simp only at j1 j2
  have c8 : W.cell? ⟨w.heap.size, 8, none⟩ = some (.int .i64 (V.length : Int)) := HW.out.2.1.cell 8 (by rw [← hc.lv]; rfl)
  have q1 : ¬ j.up.length = 0 := by omega
  have q1i : ¬ (j.up.length : Int) = 0 := by omega
  have q1b : ((j.up.length : Int) == 0) = false := by simp [q1]
  have q2 : ¬ (i : Int) < 0 := by omega
  have q3 : ¬ (V.length : Int) - 1 ≤ (i : Int) := by omega
  have w1 : IntKind.i64.wrap ((V.length : Int) - 1) = (V.length : Int) - 1 := IntWalk.i64_in _ (by omega)
  have q4 : (0 : Int) < (j.up.length : Int) := by omega
  rw [hf.lv]
  unfold jbV
  clear h hc hj hf hu
  go_enter Tryz.func19, Tryz.ntmps19
  go_upto_region 1 with (fail)
  (try simp only)
  (try rw [hW])
  clear hW
  go_upto_region 4 with (fail)
  have HS0 : Hid (FaS w c vb V j i (some ⟨ub, uo, none⟩, j.up.length, uc) (la, j.lo.length, lc) (W.alloc (.cells #[.int .u64 (u.no : Int), .int .i64 u.we, .int .i64 u.by_, .int .i64 u.en, .string u.le, .string u.gr] 76)) W.heap.size (hulK u j.up 0)) := by
    have hb := (Below.refl W.heap.size W).alloc (Nat.le_refl _) (Obj.cells #[.int .u64 (u.no : Int), .int .i64 u.we, .int .i64 u.by_, .int .i64 u.en, .string u.le, .string u.gr] 76)
    exact ⟨HW.out.1.trans (hb.mono HW.out.1.size), HW.out.2.1.keep (by have := HW.out.2.2.2; omega) hb, by have := HW.out.2.2.2; simp; omega, HW.out.2.2.1.below hb, Zb.new W _ _, HW.out.2.2.2⟩
  generalize W.alloc (.cells #[.int .u64 (u.no : Int), .int .i64 u.we, .int .i64 u.by_, .int .i64 u.en, .string u.le, .string u.gr] 76) = W3 at *
  generalize W.heap.size = H at *
  clear u0 u1 u2 u3 u4 u5 j0 j1 j2 j3 j4 c8 hub
  go_wp2_with fail
  go_loopw [8] (fun iv wr => ∃ k : Nat, k ≤ j.up.length ∧ iv = .int .i64 (k : Int) ∧ Hid (FaS w c vb V j i (some ⟨ub, uo, none⟩, j.up.length, uc) (la, j.lo.length, lc) wr H (hulK u j.up k))) (fun iv _ => j.up.length - (intOf iv).toNat)
  case atStart => exact ⟨0, Nat.zero_le _, rfl, HS0.out⟩
  case round =>
    clear HS0
    obtain ⟨k, hk, rfl, HS⟩ := hrel
    rename World => Wk
    have j0 := HS.out.jz.2.1 0 _ rfl
    have j1 := HS.out.jz.2.1 1 _ rfl
    have j2 := HS.out.jz.2.1 2 _ rfl
    have j3 := HS.out.jz.2.1 3 _ rfl
    have j4 := HS.out.jz.2.1 4 _ rfl
    simp only at j1 j2
    by_cases hlt : k < j.up.length
    · have hlt' : (k : Int) < (j.up.length : Int) := by omega
      obtain ⟨t, ht⟩ : ∃ t, j.up[k]? = some t := ⟨_, List.getElem?_eq_getElem hlt⟩
      obtain ⟨tb, tf, te, htb, t0, t1, t2, t3, t4, t5⟩ := ls_tb (HA.out.2.2.1.below HS.out.b).1 ht
      obtain ⟨rfl, rfl⟩ : tb = ub ∧ tf = uo := by injection te with te; injection te with a1 a2; exact ⟨a1.symm, a2.symm⟩
      have HT : Hid (tin (lev V (i : Int)) t.no = true ∧ hulK u j.up (k + 1) = { hulK u j.up k with le := minS (hulK u j.up k).le t.le, gr := maxS (hulK u j.up k).gr t.gr }) := ⟨HA.out.2.2.2.1.ins t (List.mem_of_getElem? ht), hulK_succ ht⟩
      have HST : Hid (∀ X, RowKit.Below Wk.heap.size Wk X → RowKit.Below Wk.heap.size Wk X ∧ X.cell? ⟨w.heap.size + 1, 0, none⟩ = some (.int .i64 (i : Int)) ∧ X.cell? ⟨w.heap.size + 1, 1, none⟩ = some (.slice (some ⟨tb, tf, none⟩) j.up.length uc) ∧ X.cell? ⟨tb, tf + k * 6, none⟩ = some (.int .u64 (t.no : Int))) := fun X hX => ⟨hX, (hX.cell (p := ⟨w.heap.size + 1, 0, none⟩) HS.out.jz.1).trans j0, (hX.cell (p := ⟨w.heap.size + 1, 1, none⟩) HS.out.jz.1).trans j1, (hX.cell (p := ⟨tb, tf + k * 6, none⟩) htb).trans t0⟩
      have HTB : Hid (∀ X, RowKit.Below Wk.heap.size Wk X → Calls Tryz.prog 16 #[.pointer (some ⟨vb, 0, none⟩), .int .i64 (i : Int)] X fun e w' => ∃ a cc, e = .returned (.slice a (lev V (i : Int)).length cc) ∧ Ls kTb w' (a, (lev V (i : Int)).length, cc) (lev V (i : Int)) ∧ RowKit.Below Wk.heap.size Wk w') := fun X hX => (tables_any vb V i X ((HA.out.1.below HS.out.b).below hX)).mono fun e w' ⟨s, he, ⟨G, hs, hG, hrow⟩, hb2⟩ => by
        rw [he, hs]
        exact ⟨_, _, rfl, Ls.row hrow rfl, hX.trans (hb2.mono hX.size)⟩
      have HLV : Hid ((lev V (i : Int)).length ≤ 1000000) := lev_le HA.out.1.1 i
      generalize lev V (i : Int) = L at *
      have HTK := hidV ht
      clear ht te
      go_wp2_with fail
      go_cut [51] (fun v wx => v = .bool false ∧ Hid (RowKit.Below Wk.heap.size Wk wx))
      case first =>
        go_region_held3 (fun X => RowKit.Below Wk.heap.size Wk X ∧ X.cell? ⟨w.heap.size + 1, 0, none⟩ = some (.int .i64 (i : Int)) ∧ X.cell? ⟨w.heap.size + 1, 1, none⟩ = some (.slice (some ⟨tb, tf, none⟩) j.up.length uc) ∧ X.cell? ⟨tb, tf + k * 6, none⟩ = some (.int .u64 (t.no : Int))) (first | assumption | exact HST.out _ (Below.refl _ _).drew | exact keepSF HST.out (by assumption) (by assumption))
          (first
          | (go_at_call 16; go_loud (refine (HTB.out _ (by first | exact (Below.refl _ _).drew | exact (And.left (by assumption)))).mono ?_; rintro e w5 ⟨a5, c5, rfl, hl5, hb5⟩; have HL5 := hidV (And.intro hl5 hb5); have hS5 := HST.out _ hb5; clear hl5 hb5))
          | (go_at_call 63; go_loud (refine (in_any a5 c5 L t.no w5 HL5.out.1 HLV.out).mono ?_; rintro e w6 ⟨rfl, hw6⟩; have hw6' := hw6.symm; clear hw6; subst hw6'; rw [HT.out.1])))
        all_goals (
          go_wp2_with fail
          go_meet
          case rel => exact ⟨by first | rfl | simp, HL5.out.2⟩)
      case rest =>
        obtain ⟨rfl, HBX⟩ := hcut
        rename World => Wx
        have HSX := hidV (HS.out.below HBX.out)
        clear HST HTB HLV HBX HS
        have x1 := HSX.out.jz.2.1 1 _ rfl
        simp only at x1
        obtain ⟨tb', tf', te', htb', y0, y1, y2, y3, y4, y5⟩ := ls_tb (HA.out.2.2.1.below HSX.out.b).1 (show j.up[k]? = some t from HTK.out)
        obtain ⟨rfl, rfl⟩ : tb' = tb ∧ tf' = tf := by injection te' with te'; injection te' with a1 a2; exact ⟨a1.symm, a2.symm⟩
        obtain ⟨hk', hhk⟩ : ∃ x, hulK u j.up k = x := ⟨_, rfl⟩
        rw [hhk] at HSX HT
        have z4 := HSX.out.hz.2.1 4 _ rfl
        have z5 := HSX.out.hz.2.1 5 _ rfl
        have f4 := HSX.out.hz.2.2 4
        have f5 := HSX.out.hz.2.2 5
        have HNX : Hid (FaS w c vb V j i (some ⟨tb', tf', none⟩, j.up.length, uc) (la, j.lo.length, lc) ((Wx.setCell ⟨H, 4, none⟩ (.string (minS hk'.le t.le))).setCell ⟨H, 5, none⟩ (.string (maxS hk'.gr t.gr))).drew H (hulK u j.up (k + 1))) := by
          rw [HT.out.2]
          exact HSX.out.set _ _
        have l1 := run_minS
        have l2 := run_maxS
        have l3 : ∀ (v : Value), (Wx.setCell ⟨H, 4, none⟩ v).frozen? ⟨H, 5, none⟩ = false := fun v => by rw [World.frozen?_setCell]; exact f5
        clear te' htb' hhk
        generalize hk'.le = hle at *
        generalize hk'.gr = hgr at *
        go_wp2_with fail
        go_region
        all_goals (
          go_wp2_with fail
          go_roundw
          case rel => exact ⟨k + 1, by omega, by go_num, HNX.out⟩
          case measure => simp [intOf]; omega)
    · have hlt' : ¬ (k : Int) < (j.up.length : Int) := by omega
      have hkk : k = j.up.length := by omega
      have HS2 : Hid (FaS w c vb V j i (some ⟨ub, uo, none⟩, j.up.length, uc) (la, j.lo.length, lc) Wk H (hulT j)) := by
        have := HS.out
        rw [hkk, hulK_all HA.out.2.2.2.2] at this
        exact this
      have w2 : IntKind.i64.wrap ((i : Int) + 1) = ((i + 1 : Nat) : Int) := by rw [show (i : Int) + 1 = ((i + 1 : Nat) : Int) by omega]; exact IntWalk.i64_in _ (by omega)
      obtain ⟨N, hN⟩ : ∃ N, lev V ((i + 1 : Nat) : Int) = N := ⟨_, rfl⟩
      have HN : Hid (lev V ((i + 1 : Nat) : Int) = N ∧ N.length ≤ 1000000) := ⟨hN, by rw [← hN]; exact lev_le HA.out.1.1 (i + 1)⟩
      have HTB : Hid (Calls Tryz.prog 16 #[.pointer (some ⟨vb, 0, none⟩), .int .i64 ((i + 1 : Nat) : Int)] Wk fun e w' => ∃ a cc, e = .returned (.slice a N.length cc) ∧ Ls kTb w' (a, N.length, cc) N ∧ RowKit.Below Wk.heap.size Wk w') := (tables_any vb V ((i + 1 : Nat) : Int) Wk (HA.out.1.below HS2.out.b)).mono fun e w' ⟨s, he, ⟨G, hs, hG, hrow⟩, hb2⟩ => by
        rw [hN] at hs hrow
        rw [he, hs]
        exact ⟨_, _, rfl, Ls.row hrow rfl, hb2⟩
      clear HS hkk hN
      go_wp2_with (go_at_call 16; go_loud (refine HTB.out.mono ?_; rintro e w5 ⟨na, nc, rfl, hl5, hb5⟩; have H5 := hidV (And.intro hl5 (HS2.out.below hb5)); clear hl5 hb5))
      obtain ⟨hT, hhT⟩ : ∃ x, hulT j = x := ⟨_, rfl⟩
      have HF : Hid ((∀ x ∈ j.lo, tin N x.no = true ∧ ovT x hT = true) ∧ (∀ t ∈ N, ovT t hT = true → tin j.lo t.no = true ∨ (j.cut ≠ ⟨#[]⟩ ∧ ltS t.le j.cut = false)) ∧ hulT j = hT) := by
        refine ⟨fun x hx => ?_, fun t ht ho => ?_, hhT⟩
        · have := HA.out.2.2.2.1.low x hx
          rw [HN.out.1, hhT] at this
          exact this
        · rw [← hhT] at ho
          rw [← HN.out.1] at ht
          exact HA.out.2.2.2.1.nxt t ht ho
      rw [hhT] at H5
      clear hhT HS2 HTB
      go_loopw [10] (fun iv wr => ∃ k : Nat, k ≤ j.lo.length ∧ iv = .int .i64 (k : Int) ∧ Hid (RowKit.Below w5.heap.size w5 wr)) (fun iv _ => j.lo.length - (intOf iv).toNat)
      case atStart => exact ⟨0, Nat.zero_le _, rfl, Below.refl _ _⟩
      case round =>
        obtain ⟨k, hk, rfl, HBR⟩ := hrel
        rename World => wr
        have HSR := hidV (And.intro (H5.out.1.below HBR.out) (H5.out.2.below HBR.out))
        have j0 := HSR.out.2.jz.2.1 0 _ rfl
        have j2 := HSR.out.2.jz.2.1 2 _ rfl
        simp only at j2
        by_cases hlo : k < j.lo.length
        · have hlo' : (k : Int) < (j.lo.length : Int) := by omega
          obtain ⟨x, hx⟩ : ∃ x, j.lo[k]? = some x := ⟨_, List.getElem?_eq_getElem hlo⟩
          obtain ⟨lb, lf, rfl, hlb, x0, x1, x2, x3, x4, x5⟩ := ls_tb (HA.out.2.2.1.2.below HSR.out.2.b) hx
          have HX := hidV (HF.out.1 x (List.mem_of_getElem? hx))
          have HST : Hid (∀ X, RowKit.Below wr.heap.size wr X → RowKit.Below wr.heap.size wr X ∧ X.cell? ⟨w.heap.size + 1, 2, none⟩ = some (.slice (some ⟨lb, lf, none⟩) j.lo.length lc) ∧ X.cell? ⟨lb, lf + k * 6, none⟩ = some (.int .u64 (x.no : Int)) ∧ X.cell? ⟨lb, lf + k * 6 + 1, none⟩ = some (.int .i64 x.we) ∧ X.cell? ⟨lb, lf + k * 6 + 2, none⟩ = some (.int .i64 x.by_) ∧ X.cell? ⟨lb, lf + k * 6 + 3, none⟩ = some (.int .i64 x.en) ∧ X.cell? ⟨lb, lf + k * 6 + 4, none⟩ = some (.string x.le) ∧ X.cell? ⟨lb, lf + k * 6 + 5, none⟩ = some (.string x.gr) ∧ X.cell? ⟨H, 0, none⟩ = some (.int .u64 (hT.no : Int)) ∧ X.cell? ⟨H, 1, none⟩ = some (.int .i64 hT.we) ∧ X.cell? ⟨H, 2, none⟩ = some (.int .i64 hT.by_) ∧ X.cell? ⟨H, 3, none⟩ = some (.int .i64 hT.en) ∧ X.cell? ⟨H, 4, none⟩ = some (.string hT.le) ∧ X.cell? ⟨H, 5, none⟩ = some (.string hT.gr)) := fun X hX =>
            have hh : ∀ q v, (tbC hT)[q]? = some v → X.cell? ⟨H, q, none⟩ = some v := fun q v hq => (HSR.out.2.hz.below hX).2.1 q v hq
            have hx : ∀ q v, wr.cell? ⟨lb, q, none⟩ = some v → X.cell? ⟨lb, q, none⟩ = some v := fun q v hq => (hX.cell (p := ⟨lb, q, none⟩) hlb).trans hq
            ⟨hX, (hX.cell (p := ⟨w.heap.size + 1, 2, none⟩) HSR.out.2.jz.1).trans j2, hx _ _ x0, hx _ _ x1, hx _ _ x2, hx _ _ x3, hx _ _ x4, hx _ _ x5, hh 0 _ rfl, hh 1 _ rfl, hh 2 _ rfl, hh 3 _ rfl, hh 4 _ rfl, hh 5 _ rfl⟩
          clear hx
          go_wp2_with fail
          go_cut [102] (fun v wx => v = .bool false ∧ Hid (RowKit.Below wr.heap.size wr wx))
          case first =>
            go_region_held3 (fun X => RowKit.Below wr.heap.size wr X ∧ X.cell? ⟨w.heap.size + 1, 2, none⟩ = some (.slice (some ⟨lb, lf, none⟩) j.lo.length lc) ∧ X.cell? ⟨lb, lf + k * 6, none⟩ = some (.int .u64 (x.no : Int)) ∧ X.cell? ⟨lb, lf + k * 6 + 1, none⟩ = some (.int .i64 x.we) ∧ X.cell? ⟨lb, lf + k * 6 + 2, none⟩ = some (.int .i64 x.by_) ∧ X.cell? ⟨lb, lf + k * 6 + 3, none⟩ = some (.int .i64 x.en) ∧ X.cell? ⟨lb, lf + k * 6 + 4, none⟩ = some (.string x.le) ∧ X.cell? ⟨lb, lf + k * 6 + 5, none⟩ = some (.string x.gr) ∧ X.cell? ⟨H, 0, none⟩ = some (.int .u64 (hT.no : Int)) ∧ X.cell? ⟨H, 1, none⟩ = some (.int .i64 hT.we) ∧ X.cell? ⟨H, 2, none⟩ = some (.int .i64 hT.by_) ∧ X.cell? ⟨H, 3, none⟩ = some (.int .i64 hT.en) ∧ X.cell? ⟨H, 4, none⟩ = some (.string hT.le) ∧ X.cell? ⟨H, 5, none⟩ = some (.string hT.gr)) (first | assumption | exact HST.out _ (Below.refl _ _).drew | exact keepSF HST.out (by assumption) (by assumption))
              (first
              | (go_at_call 63; go_loud (refine (in_any na nc N x.no _ (HSR.out.1.below (by first | exact (Below.refl _ _).drew | exact (And.left (by assumption)))) HN.out.2).mono ?_; rintro e w6 ⟨rfl, hw6⟩; have hw6' := hw6.symm; clear hw6; subst hw6'; rw [HX.out.1]))
              | (go_at_call 64; go_loud (refine (ovT_any x hT _).mono ?_; rintro e w7 ⟨rfl, hb7⟩; rw [HX.out.2]; have HB7 : Hid (RowKit.Below wr.heap.size wr w7) := ((Below.refl wr.heap.size wr).drew).trans hb7; have hS7 := HST.out _ HB7.out; clear hb7)))
            all_goals (
              go_wp2_with fail
              go_meet
              case rel => exact ⟨by first | rfl | simp, HB7⟩)
          case rest =>
            obtain ⟨rfl, HBX⟩ := hcut
            rename World => Wx
            clear HST x0 x1 x2 x3 x4 x5
            go_wp2_with fail
            go_roundw
            case rel => exact ⟨k + 1, by omega, by go_num, HBR.out.trans (HBX.out.mono HBR.out.size)⟩
            case measure => simp [intOf]; omega
        · have hlo' : ¬ (k : Int) < (j.lo.length : Int) := by omega
          go_wp2_with fail
          go_loopw [11] (fun iv wr => ∃ k : Nat, k ≤ N.length ∧ iv = .int .i64 (k : Int) ∧ Hid (RowKit.Below w5.heap.size w5 wr)) (fun iv _ => N.length - (intOf iv).toNat)
          case atStart => exact ⟨0, Nat.zero_le _, rfl, HBR.out⟩
          case round =>
            clear HSR HBR j0 j2 hlo hlo' hk
            obtain ⟨k, hk, rfl, HBR⟩ := hrel
            rename World => wr
            have HSR := hidV (And.intro (H5.out.1.below HBR.out) (H5.out.2.below HBR.out))
            have j0 := HSR.out.2.jz.2.1 0 _ rfl
            have j1 := HSR.out.2.jz.2.1 1 _ rfl
            have j2 := HSR.out.2.jz.2.1 2 _ rfl
            have j3 := HSR.out.2.jz.2.1 3 _ rfl
            have j4 := HSR.out.2.jz.2.1 4 _ rfl
            simp only at j1 j2
            by_cases hl : k < N.length
            · have hl' : (k : Int) < (N.length : Int) := by omega
              obtain ⟨t, ht⟩ : ∃ t, N[k]? = some t := ⟨_, List.getElem?_eq_getElem hl⟩
              obtain ⟨nb, nf, rfl, hnb, y0, y1, y2, y3, y4, y5⟩ := ls_tb HSR.out.1 ht
              have HX := hidV (HF.out.2.1 t (List.mem_of_getElem? ht))
              have HST : Hid (∀ X, RowKit.Below wr.heap.size wr X → RowKit.Below wr.heap.size wr X ∧ X.cell? ⟨w.heap.size + 1, 2, none⟩ = some (.slice la j.lo.length lc) ∧ X.cell? ⟨w.heap.size + 1, 3, none⟩ = some (.string j.cut) ∧ X.cell? ⟨nb, nf + k * 6, none⟩ = some (.int .u64 (t.no : Int)) ∧ X.cell? ⟨nb, nf + k * 6 + 1, none⟩ = some (.int .i64 t.we) ∧ X.cell? ⟨nb, nf + k * 6 + 2, none⟩ = some (.int .i64 t.by_) ∧ X.cell? ⟨nb, nf + k * 6 + 3, none⟩ = some (.int .i64 t.en) ∧ X.cell? ⟨nb, nf + k * 6 + 4, none⟩ = some (.string t.le) ∧ X.cell? ⟨nb, nf + k * 6 + 5, none⟩ = some (.string t.gr) ∧ X.cell? ⟨H, 0, none⟩ = some (.int .u64 (hT.no : Int)) ∧ X.cell? ⟨H, 1, none⟩ = some (.int .i64 hT.we) ∧ X.cell? ⟨H, 2, none⟩ = some (.int .i64 hT.by_) ∧ X.cell? ⟨H, 3, none⟩ = some (.int .i64 hT.en) ∧ X.cell? ⟨H, 4, none⟩ = some (.string hT.le) ∧ X.cell? ⟨H, 5, none⟩ = some (.string hT.gr)) := fun X hX =>
                have hh : ∀ q v, (tbC hT)[q]? = some v → X.cell? ⟨H, q, none⟩ = some v := fun q v hq => (HSR.out.2.hz.below hX).2.1 q v hq
                have hx : ∀ q v, wr.cell? ⟨nb, q, none⟩ = some v → X.cell? ⟨nb, q, none⟩ = some v := fun q v hq => (hX.cell (p := ⟨nb, q, none⟩) hnb).trans hq
                ⟨hX, (hX.cell (p := ⟨w.heap.size + 1, 2, none⟩) HSR.out.2.jz.1).trans j2, (hX.cell (p := ⟨w.heap.size + 1, 3, none⟩) HSR.out.2.jz.1).trans j3, hx _ _ y0, hx _ _ y1, hx _ _ y2, hx _ _ y3, hx _ _ y4, hx _ _ y5, hh 0 _ rfl, hh 1 _ rfl, hh 2 _ rfl, hh 3 _ rfl, hh 4 _ rfl, hh 5 _ rfl⟩
              have hnN := HN.out.2
              have ln := lssS
              have le := eqlS
              clear ht
              go_wp2_with fail
              go_cut [140] (fun v wx => v = .bool false ∧ Hid (RowKit.Below wr.heap.size wr wx))
              case first =>
                cases ho : ovT t hT with
                | false =>
                  refine wp_region_held_drew (S := (fun X => RowKit.Below wr.heap.size wr X ∧ X.cell? ⟨w.heap.size + 1, 2, none⟩ = some (.slice la j.lo.length lc) ∧ X.cell? ⟨w.heap.size + 1, 3, none⟩ = some (.string j.cut) ∧ X.cell? ⟨nb, nf + k * 6, none⟩ = some (.int .u64 (t.no : Int)) ∧ X.cell? ⟨nb, nf + k * 6 + 1, none⟩ = some (.int .i64 t.we) ∧ X.cell? ⟨nb, nf + k * 6 + 2, none⟩ = some (.int .i64 t.by_) ∧ X.cell? ⟨nb, nf + k * 6 + 3, none⟩ = some (.int .i64 t.en) ∧ X.cell? ⟨nb, nf + k * 6 + 4, none⟩ = some (.string t.le) ∧ X.cell? ⟨nb, nf + k * 6 + 5, none⟩ = some (.string t.gr) ∧ X.cell? ⟨H, 0, none⟩ = some (.int .u64 (hT.no : Int)) ∧ X.cell? ⟨H, 1, none⟩ = some (.int .i64 hT.we) ∧ X.cell? ⟨H, 2, none⟩ = some (.int .i64 hT.by_) ∧ X.cell? ⟨H, 3, none⟩ = some (.int .i64 hT.en) ∧ X.cell? ⟨H, 4, none⟩ = some (.string hT.le) ∧ X.cell? ⟨H, 5, none⟩ = some (.string hT.gr))) (by kernel_rfl) ?_ (fun hHeld => ?_)
                  · exact HST.out _ (Below.refl _ _).drew
                  refine wpAnyH_take (i := 0) (oi := { dst := some 109, op := Go.Op.move (Go.Operand.tmp 9), type := 58, pos := "outright.go:76", after := #[], guard := none }) (v := ?_) rfl (by kernel_rfl) (by kernel_rfl) (by kernel_rfl) (fun _ _ _ h => h) (Or.inl ⟨by rfl, ?_⟩) hHeld ?_
                  rotate_left
                  · (intro wq hSw; (try dsimp only at hSw); go_simp; try (with_reducible rfl))
                  try simp only [Act.put, List.setIfInBounds_toArray, List.set_cons_zero, List.set_cons_succ]
                  refine wpAnyH_take (i := 1) (oi := { dst := some 110, op := Go.Op.move (Go.Operand.tmp 11), type := 3, pos := "outright.go:76", after := #[], guard := none }) (v := ?_) rfl (by kernel_rfl) (by kernel_rfl) (by kernel_rfl) (fun _ _ _ h => h) (Or.inl ⟨by rfl, ?_⟩) hHeld ?_
                  rotate_left
                  · (intro wq hSw; (try dsimp only at hSw); go_simp; try (with_reducible rfl))
                  try simp only [Act.put, List.setIfInBounds_toArray, List.set_cons_zero, List.set_cons_succ]
                  refine wpAnyH_take (i := 2) (oi := { dst := some 111, op := Go.Op.indexAddr 58 (Go.Operand.tmp 109) (Go.Operand.tmp 110), type := 0, pos := "outright.go:76", after := #[{ on := 0, ground := Go.Ground.data }, { on := 1, ground := Go.Ground.data }], guard := none }) (v := ?_) rfl (by kernel_rfl) (by kernel_rfl) (by kernel_rfl) (fun _ _ _ h => h) (Or.inl ⟨by rfl, ?_⟩) hHeld ?_
                  rotate_left
                  · (intro wq hSw; (try dsimp only at hSw); go_simp; try (with_reducible rfl))
                  try simp only [Act.put, List.setIfInBounds_toArray, List.set_cons_zero, List.set_cons_succ]
                  refine wpAnyH_take (i := 3) (oi := { dst := some 112, op := Go.Op.load 76 (Go.Operand.tmp 111), type := 76, pos := "outright.go:76", after := #[{ on := 2, ground := Go.Ground.data }], guard := none }) (v := ?_) rfl (by kernel_rfl) (by kernel_rfl) (by kernel_rfl) (fun _ _ _ h => h) (Or.inl ⟨by rfl, ?_⟩) hHeld ?_
                  rotate_left
                  · (intro wq hSw; (try dsimp only at hSw); go_simp; try (with_reducible rfl))
                  try simp only [Act.put, List.setIfInBounds_toArray, List.set_cons_zero, List.set_cons_succ]
                  refine wpAnyH_take (i := 4) (oi := { dst := some 113, op := Go.Op.load 76 (Go.Operand.tmp 7), type := 76, pos := "outright.go:76", after := #[], guard := none }) (v := ?_) rfl (by kernel_rfl) (by kernel_rfl) (by kernel_rfl) (fun _ _ _ h => h) (Or.inl ⟨by rfl, ?_⟩) hHeld ?_
                  rotate_left
                  · (intro wq hSw; (try dsimp only at hSw); go_simp; try (with_reducible rfl))
                  try simp only [Act.put, List.setIfInBounds_toArray, List.set_cons_zero, List.set_cons_succ]
                  refine wpAnyH_ready (rs := [5]) (by kernel_rfl) (by simp) ?_
                  refine (AllReadyH.cons (o := { dst := some 114, op := Go.Op.call { callee := Go.Callee.value (Go.Operand.func 64), args := #[Go.Operand.tmp 112, Go.Operand.tmp 113], argTypes := #[76, 76] }, type := 4, pos := "outright.go:76", after := #[{ on := 3, ground := Go.Ground.data }, { on := 4, ground := Go.Ground.data }], guard := none }) rfl (fun K hK => ?_) AllReadyH.nil)
                  go_simp
                  refine (ovT_any t hT _).mono ?_
                  rintro e w7 ⟨rfl, hb7⟩
                  rw [ho]
                  have HB7 : Hid (RowKit.Below wr.heap.size wr w7) := hHeld.1.trans (hb7.mono hHeld.1.size)
                  have hS7 := HST.out _ HB7.out
                  clear hb7
                  try dsimp only
                  refine hK.out _ _ ?_ (fun hHeld => ?_)
                  · exact HST.out _ HB7.out
                  clear hK K
                  try simp only [Act.put, List.setIfInBounds_toArray, List.set_cons_zero, List.set_cons_succ]
                  refine wpAnyH_take (i := 6) (oi := { dst := some 115, op := Go.Op.move (Go.Operand.tmp 114), type := 4, pos := "outright.go:76", after := #[{ on := 5, ground := Go.Ground.data }, { on := 5, ground := Go.Ground.chain }], guard := none }) (v := ?_) rfl (by kernel_rfl) (by kernel_rfl) (by kernel_rfl) (fun _ _ _ h => h) (Or.inl ⟨by rfl, ?_⟩) hHeld ?_
                  rotate_left
                  · (intro wq hSw; (try dsimp only at hSw); go_simp; try (with_reducible rfl))
                  try simp only [Act.put, List.setIfInBounds_toArray, List.set_cons_zero, List.set_cons_succ]
                  refine wpAnyH_take (i := 7) (oi := { dst := some 116, op := Go.Op.fieldAddr 62 (Go.Operand.tmp 5) 2, type := 0, pos := "outright.go:76", after := #[{ on := 6, ground := Go.Ground.guard }], guard := some (6, true) }) (v := undef) rfl (by kernel_rfl) (by kernel_rfl) (by kernel_rfl) (fun _ _ _ h => h) (Or.inr ⟨by rfl, rfl⟩) hHeld ?_
                  try simp only [Act.put, List.setIfInBounds_toArray, List.set_cons_zero, List.set_cons_succ]
                  refine wpAnyH_take (i := 8) (oi := { dst := some 117, op := Go.Op.load 58 (Go.Operand.tmp 116), type := 58, pos := "outright.go:76", after := #[{ on := 7, ground := Go.Ground.data }, { on := 6, ground := Go.Ground.guard }], guard := some (6, true) }) (v := undef) rfl (by kernel_rfl) (by kernel_rfl) (by kernel_rfl) (fun _ _ _ h => h) (Or.inr ⟨by rfl, rfl⟩) hHeld ?_
                  try simp only [Act.put, List.setIfInBounds_toArray, List.set_cons_zero, List.set_cons_succ]
                  refine wpAnyH_take (i := 9) (oi := { dst := some 118, op := Go.Op.move (Go.Operand.tmp 9), type := 58, pos := "outright.go:76", after := #[{ on := 6, ground := Go.Ground.guard }], guard := some (6, true) }) (v := undef) rfl (by kernel_rfl) (by kernel_rfl) (by kernel_rfl) (fun _ _ _ h => h) (Or.inr ⟨by rfl, rfl⟩) hHeld ?_
                  try simp only [Act.put, List.setIfInBounds_toArray, List.set_cons_zero, List.set_cons_succ]
                  refine wpAnyH_take (i := 10) (oi := { dst := some 119, op := Go.Op.move (Go.Operand.tmp 11), type := 3, pos := "outright.go:76", after := #[{ on := 6, ground := Go.Ground.guard }], guard := some (6, true) }) (v := undef) rfl (by kernel_rfl) (by kernel_rfl) (by kernel_rfl) (fun _ _ _ h => h) (Or.inr ⟨by rfl, rfl⟩) hHeld ?_
                  try simp only [Act.put, List.setIfInBounds_toArray, List.set_cons_zero, List.set_cons_succ]
                  refine wpAnyH_take (i := 11) (oi := { dst := some 120, op := Go.Op.indexAddr 58 (Go.Operand.tmp 118) (Go.Operand.tmp 119), type := 0, pos := "outright.go:76", after := #[{ on := 9, ground := Go.Ground.data }, { on := 10, ground := Go.Ground.data }, { on := 6, ground := Go.Ground.guard }], guard := some (6, true) }) (v := undef) rfl (by kernel_rfl) (by kernel_rfl) (by kernel_rfl) (fun _ _ _ h => h) (Or.inr ⟨by rfl, rfl⟩) hHeld ?_
                  try simp only [Act.put, List.setIfInBounds_toArray, List.set_cons_zero, List.set_cons_succ]
                  refine wpAnyH_take (i := 12) (oi := { dst := some 121, op := Go.Op.fieldAddr 76 (Go.Operand.tmp 120) 0, type := 0, pos := "outright.go:76", after := #[{ on := 11, ground := Go.Ground.data }, { on := 6, ground := Go.Ground.guard }], guard := some (6, true) }) (v := undef) rfl (by kernel_rfl) (by kernel_rfl) (by kernel_rfl) (fun _ _ _ h => h) (Or.inr ⟨by rfl, rfl⟩) hHeld ?_
                  try simp only [Act.put, List.setIfInBounds_toArray, List.set_cons_zero, List.set_cons_succ]
                  refine wpAnyH_take (i := 13) (oi := { dst := some 122, op := Go.Op.load 55 (Go.Operand.tmp 121), type := 55, pos := "outright.go:76", after := #[{ on := 12, ground := Go.Ground.data }, { on := 6, ground := Go.Ground.guard }], guard := some (6, true) }) (v := undef) rfl (by kernel_rfl) (by kernel_rfl) (by kernel_rfl) (fun _ _ _ h => h) (Or.inr ⟨by rfl, rfl⟩) hHeld ?_
                  try simp only [Act.put, List.setIfInBounds_toArray, List.set_cons_zero, List.set_cons_succ]
                  refine wpAnyH_take (i := 14) (oi := { dst := some 123, op := Go.Op.call { callee := Go.Callee.value (Go.Operand.func 63), args := #[Go.Operand.tmp 117, Go.Operand.tmp 122], argTypes := #[58, 55] }, type := 4, pos := "outright.go:76", after := #[{ on := 8, ground := Go.Ground.data }, { on := 13, ground := Go.Ground.data }, { on := 6, ground := Go.Ground.chain }, { on := 6, ground := Go.Ground.guard }], guard := some (6, true) }) (v := undef) rfl (by kernel_rfl) (by kernel_rfl) (by kernel_rfl) (fun _ _ _ h => h) (Or.inr ⟨by rfl, rfl⟩) hHeld ?_
                  try simp only [Act.put, List.setIfInBounds_toArray, List.set_cons_zero, List.set_cons_succ]
                  refine wpAnyH_take (i := 15) (oi := { dst := some 124, op := Go.Op.unOp Go.UnOp.not 4 (Go.Operand.tmp 123), type := 4, pos := "outright.go:76", after := #[{ on := 14, ground := Go.Ground.data }, { on := 6, ground := Go.Ground.guard }], guard := some (6, true) }) (v := undef) rfl (by kernel_rfl) (by kernel_rfl) (by kernel_rfl) (fun _ _ _ h => h) (Or.inr ⟨by rfl, rfl⟩) hHeld ?_
                  try simp only [Act.put, List.setIfInBounds_toArray, List.set_cons_zero, List.set_cons_succ]
                  refine wpAnyH_take (i := 16) (oi := { dst := some 125, op := Go.Op.pick (Go.Operand.tmp 115) (Go.Operand.tmp 124) (Go.Operand.const (Go.Value.bool false)), type := 4, pos := "outright.go:76", after := #[{ on := 6, ground := Go.Ground.data }, { on := 15, ground := Go.Ground.data }], guard := none }) (v := ?_) rfl (by kernel_rfl) (by kernel_rfl) (by kernel_rfl) (fun _ _ _ h => h) (Or.inl ⟨by rfl, ?_⟩) hHeld ?_
                  rotate_left
                  · (intro wq hSw; (try dsimp only at hSw); go_simp; try (with_reducible rfl))
                  try simp only [Act.put, List.setIfInBounds_toArray, List.set_cons_zero, List.set_cons_succ]
                  refine wpAnyH_take (i := 17) (oi := { dst := some 126, op := Go.Op.move (Go.Operand.tmp 125), type := 4, pos := "outright.go:76", after := #[{ on := 16, ground := Go.Ground.data }, { on := 14, ground := Go.Ground.chain }], guard := none }) (v := ?_) rfl (by kernel_rfl) (by kernel_rfl) (by kernel_rfl) (fun _ _ _ h => h) (Or.inl ⟨by rfl, ?_⟩) hHeld ?_
                  rotate_left
                  · (intro wq hSw; (try dsimp only at hSw); go_simp; try (with_reducible rfl))
                  try simp only [Act.put, List.setIfInBounds_toArray, List.set_cons_zero, List.set_cons_succ]
                  refine wpAnyH_take (i := 18) (oi := { dst := some 127, op := Go.Op.fieldAddr 62 (Go.Operand.tmp 5) 3, type := 0, pos := "outright.go:76", after := #[{ on := 17, ground := Go.Ground.guard }], guard := some (17, true) }) (v := undef) rfl (by kernel_rfl) (by kernel_rfl) (by kernel_rfl) (fun _ _ _ h => h) (Or.inr ⟨by rfl, rfl⟩) hHeld ?_
                  try simp only [Act.put, List.setIfInBounds_toArray, List.set_cons_zero, List.set_cons_succ]
                  refine wpAnyH_take (i := 19) (oi := { dst := some 128, op := Go.Op.load 9 (Go.Operand.tmp 127), type := 9, pos := "outright.go:76", after := #[{ on := 18, ground := Go.Ground.data }, { on := 17, ground := Go.Ground.guard }], guard := some (17, true) }) (v := undef) rfl (by kernel_rfl) (by kernel_rfl) (by kernel_rfl) (fun _ _ _ h => h) (Or.inr ⟨by rfl, rfl⟩) hHeld ?_
                  try simp only [Act.put, List.setIfInBounds_toArray, List.set_cons_zero, List.set_cons_succ]
                  refine wpAnyH_take (i := 20) (oi := { dst := some 129, op := Go.Op.binOp Go.BinOp.eql 9 (Go.Operand.tmp 128) (Go.Operand.const (Go.Value.string { data := #[] })) 9, type := 4, pos := "outright.go:76", after := #[{ on := 19, ground := Go.Ground.data }, { on := 17, ground := Go.Ground.guard }], guard := some (17, true) }) (v := undef) rfl (by kernel_rfl) (by kernel_rfl) (by kernel_rfl) (fun _ _ _ h => h) (Or.inr ⟨by rfl, rfl⟩) hHeld ?_
                  try simp only [Act.put, List.setIfInBounds_toArray, List.set_cons_zero, List.set_cons_succ]
                  refine wpAnyH_take (i := 21) (oi := { dst := some 130, op := Go.Op.move (Go.Operand.tmp 129), type := 4, pos := "outright.go:76", after := #[{ on := 20, ground := Go.Ground.data }, { on := 17, ground := Go.Ground.chain }, { on := 17, ground := Go.Ground.guard }], guard := some (17, true) }) (v := undef) rfl (by kernel_rfl) (by kernel_rfl) (by kernel_rfl) (fun _ _ _ h => h) (Or.inr ⟨by rfl, rfl⟩) hHeld ?_
                  try simp only [Act.put, List.setIfInBounds_toArray, List.set_cons_zero, List.set_cons_succ]
                  refine wpAnyH_take (i := 22) (oi := { dst := some 131, op := Go.Op.move (Go.Operand.tmp 9), type := 58, pos := "outright.go:76", after := #[{ on := 21, ground := Go.Ground.guard }], guard := some (21, false) }) (v := undef) rfl (by kernel_rfl) (by kernel_rfl) (by kernel_rfl) (fun _ _ _ h => h) (Or.inr ⟨by rfl, rfl⟩) hHeld ?_
                  try simp only [Act.put, List.setIfInBounds_toArray, List.set_cons_zero, List.set_cons_succ]
                  refine wpAnyH_take (i := 23) (oi := { dst := some 132, op := Go.Op.move (Go.Operand.tmp 11), type := 3, pos := "outright.go:76", after := #[{ on := 21, ground := Go.Ground.guard }], guard := some (21, false) }) (v := undef) rfl (by kernel_rfl) (by kernel_rfl) (by kernel_rfl) (fun _ _ _ h => h) (Or.inr ⟨by rfl, rfl⟩) hHeld ?_
                  try simp only [Act.put, List.setIfInBounds_toArray, List.set_cons_zero, List.set_cons_succ]
                  refine wpAnyH_take (i := 24) (oi := { dst := some 133, op := Go.Op.indexAddr 58 (Go.Operand.tmp 131) (Go.Operand.tmp 132), type := 0, pos := "outright.go:76", after := #[{ on := 22, ground := Go.Ground.data }, { on := 23, ground := Go.Ground.data }, { on := 21, ground := Go.Ground.guard }], guard := some (21, false) }) (v := undef) rfl (by kernel_rfl) (by kernel_rfl) (by kernel_rfl) (fun _ _ _ h => h) (Or.inr ⟨by rfl, rfl⟩) hHeld ?_
                  try simp only [Act.put, List.setIfInBounds_toArray, List.set_cons_zero, List.set_cons_succ]
                  refine wpAnyH_take (i := 25) (oi := { dst := some 134, op := Go.Op.fieldAddr 76 (Go.Operand.tmp 133) 4, type := 0, pos := "outright.go:76", after := #[{ on := 24, ground := Go.Ground.data }, { on := 21, ground := Go.Ground.guard }], guard := some (21, false) }) (v := undef) rfl (by kernel_rfl) (by kernel_rfl) (by kernel_rfl) (fun _ _ _ h => h) (Or.inr ⟨by rfl, rfl⟩) hHeld ?_
                  try simp only [Act.put, List.setIfInBounds_toArray, List.set_cons_zero, List.set_cons_succ]
                  refine wpAnyH_take (i := 26) (oi := { dst := some 135, op := Go.Op.load 9 (Go.Operand.tmp 134), type := 9, pos := "outright.go:76", after := #[{ on := 25, ground := Go.Ground.data }, { on := 21, ground := Go.Ground.guard }], guard := some (21, false) }) (v := undef) rfl (by kernel_rfl) (by kernel_rfl) (by kernel_rfl) (fun _ _ _ h => h) (Or.inr ⟨by rfl, rfl⟩) hHeld ?_
                  try simp only [Act.put, List.setIfInBounds_toArray, List.set_cons_zero, List.set_cons_succ]
                  refine wpAnyH_take (i := 27) (oi := { dst := some 136, op := Go.Op.fieldAddr 62 (Go.Operand.tmp 5) 3, type := 0, pos := "outright.go:76", after := #[{ on := 21, ground := Go.Ground.guard }], guard := some (21, false) }) (v := undef) rfl (by kernel_rfl) (by kernel_rfl) (by kernel_rfl) (fun _ _ _ h => h) (Or.inr ⟨by rfl, rfl⟩) hHeld ?_
                  try simp only [Act.put, List.setIfInBounds_toArray, List.set_cons_zero, List.set_cons_succ]
                  refine wpAnyH_take (i := 28) (oi := { dst := some 137, op := Go.Op.load 9 (Go.Operand.tmp 136), type := 9, pos := "outright.go:76", after := #[{ on := 27, ground := Go.Ground.data }, { on := 21, ground := Go.Ground.guard }], guard := some (21, false) }) (v := undef) rfl (by kernel_rfl) (by kernel_rfl) (by kernel_rfl) (fun _ _ _ h => h) (Or.inr ⟨by rfl, rfl⟩) hHeld ?_
                  try simp only [Act.put, List.setIfInBounds_toArray, List.set_cons_zero, List.set_cons_succ]
                  refine wpAnyH_take (i := 29) (oi := { dst := some 138, op := Go.Op.binOp Go.BinOp.lss 9 (Go.Operand.tmp 135) (Go.Operand.tmp 137) 9, type := 4, pos := "outright.go:76", after := #[{ on := 26, ground := Go.Ground.data }, { on := 28, ground := Go.Ground.data }, { on := 21, ground := Go.Ground.guard }], guard := some (21, false) }) (v := undef) rfl (by kernel_rfl) (by kernel_rfl) (by kernel_rfl) (fun _ _ _ h => h) (Or.inr ⟨by rfl, rfl⟩) hHeld ?_
                  try simp only [Act.put, List.setIfInBounds_toArray, List.set_cons_zero, List.set_cons_succ]
                  refine wpAnyH_take (i := 30) (oi := { dst := some 139, op := Go.Op.pick (Go.Operand.tmp 130) (Go.Operand.const (Go.Value.bool true)) (Go.Operand.tmp 138), type := 4, pos := "outright.go:76", after := #[{ on := 21, ground := Go.Ground.data }, { on := 29, ground := Go.Ground.data }, { on := 17, ground := Go.Ground.guard }], guard := some (17, true) }) (v := undef) rfl (by kernel_rfl) (by kernel_rfl) (by kernel_rfl) (fun _ _ _ h => h) (Or.inr ⟨by rfl, rfl⟩) hHeld ?_
                  try simp only [Act.put, List.setIfInBounds_toArray, List.set_cons_zero, List.set_cons_succ]
                  refine wpAnyH_take (i := 31) (oi := { dst := some 140, op := Go.Op.pick (Go.Operand.tmp 126) (Go.Operand.tmp 139) (Go.Operand.const (Go.Value.bool false)), type := 4, pos := "outright.go:76", after := #[{ on := 17, ground := Go.Ground.data }, { on := 30, ground := Go.Ground.data }], guard := none }) (v := ?_) rfl (by kernel_rfl) (by kernel_rfl) (by kernel_rfl) (fun _ _ _ h => h) (Or.inl ⟨by rfl, ?_⟩) hHeld ?_
                  rotate_left
                  · (intro wq hSw; (try dsimp only at hSw); go_simp; try (with_reducible rfl))
                  try simp only [Act.put, List.setIfInBounds_toArray, List.set_cons_zero, List.set_cons_succ]
                  refine wpAnyH_done (by kernel_rfl) ?_ _
                  go_wp2_with fail
                  go_meet
                  case rel => exact ⟨by first | rfl | simp, HB7⟩

                | true =>
                  cases HTI : tin j.lo t.no with
                  | true =>
                    refine wp_region_held_drew (S := (fun X => RowKit.Below wr.heap.size wr X ∧ X.cell? ⟨w.heap.size + 1, 2, none⟩ = some (.slice la j.lo.length lc) ∧ X.cell? ⟨w.heap.size + 1, 3, none⟩ = some (.string j.cut) ∧ X.cell? ⟨nb, nf + k * 6, none⟩ = some (.int .u64 (t.no : Int)) ∧ X.cell? ⟨nb, nf + k * 6 + 1, none⟩ = some (.int .i64 t.we) ∧ X.cell? ⟨nb, nf + k * 6 + 2, none⟩ = some (.int .i64 t.by_) ∧ X.cell? ⟨nb, nf + k * 6 + 3, none⟩ = some (.int .i64 t.en) ∧ X.cell? ⟨nb, nf + k * 6 + 4, none⟩ = some (.string t.le) ∧ X.cell? ⟨nb, nf + k * 6 + 5, none⟩ = some (.string t.gr) ∧ X.cell? ⟨H, 0, none⟩ = some (.int .u64 (hT.no : Int)) ∧ X.cell? ⟨H, 1, none⟩ = some (.int .i64 hT.we) ∧ X.cell? ⟨H, 2, none⟩ = some (.int .i64 hT.by_) ∧ X.cell? ⟨H, 3, none⟩ = some (.int .i64 hT.en) ∧ X.cell? ⟨H, 4, none⟩ = some (.string hT.le) ∧ X.cell? ⟨H, 5, none⟩ = some (.string hT.gr))) (by kernel_rfl) ?_ (fun hHeld => ?_)
                    · exact HST.out _ (Below.refl _ _).drew
                    refine wpAnyH_take (i := 0) (oi := { dst := some 109, op := Go.Op.move (Go.Operand.tmp 9), type := 58, pos := "outright.go:76", after := #[], guard := none }) (v := ?_) rfl (by kernel_rfl) (by kernel_rfl) (by kernel_rfl) (fun _ _ _ h => h) (Or.inl ⟨by rfl, ?_⟩) hHeld ?_
                    rotate_left
                    · (intro wq hSw; (try dsimp only at hSw); go_simp; try (with_reducible rfl))
                    try simp only [Act.put, List.setIfInBounds_toArray, List.set_cons_zero, List.set_cons_succ]
                    refine wpAnyH_take (i := 1) (oi := { dst := some 110, op := Go.Op.move (Go.Operand.tmp 11), type := 3, pos := "outright.go:76", after := #[], guard := none }) (v := ?_) rfl (by kernel_rfl) (by kernel_rfl) (by kernel_rfl) (fun _ _ _ h => h) (Or.inl ⟨by rfl, ?_⟩) hHeld ?_
                    rotate_left
                    · (intro wq hSw; (try dsimp only at hSw); go_simp; try (with_reducible rfl))
                    try simp only [Act.put, List.setIfInBounds_toArray, List.set_cons_zero, List.set_cons_succ]
                    refine wpAnyH_take (i := 2) (oi := { dst := some 111, op := Go.Op.indexAddr 58 (Go.Operand.tmp 109) (Go.Operand.tmp 110), type := 0, pos := "outright.go:76", after := #[{ on := 0, ground := Go.Ground.data }, { on := 1, ground := Go.Ground.data }], guard := none }) (v := ?_) rfl (by kernel_rfl) (by kernel_rfl) (by kernel_rfl) (fun _ _ _ h => h) (Or.inl ⟨by rfl, ?_⟩) hHeld ?_
                    rotate_left
                    · (intro wq hSw; (try dsimp only at hSw); go_simp; try (with_reducible rfl))
                    try simp only [Act.put, List.setIfInBounds_toArray, List.set_cons_zero, List.set_cons_succ]
                    refine wpAnyH_take (i := 3) (oi := { dst := some 112, op := Go.Op.load 76 (Go.Operand.tmp 111), type := 76, pos := "outright.go:76", after := #[{ on := 2, ground := Go.Ground.data }], guard := none }) (v := ?_) rfl (by kernel_rfl) (by kernel_rfl) (by kernel_rfl) (fun _ _ _ h => h) (Or.inl ⟨by rfl, ?_⟩) hHeld ?_
                    rotate_left
                    · (intro wq hSw; (try dsimp only at hSw); go_simp; try (with_reducible rfl))
                    try simp only [Act.put, List.setIfInBounds_toArray, List.set_cons_zero, List.set_cons_succ]
                    refine wpAnyH_take (i := 4) (oi := { dst := some 113, op := Go.Op.load 76 (Go.Operand.tmp 7), type := 76, pos := "outright.go:76", after := #[], guard := none }) (v := ?_) rfl (by kernel_rfl) (by kernel_rfl) (by kernel_rfl) (fun _ _ _ h => h) (Or.inl ⟨by rfl, ?_⟩) hHeld ?_
                    rotate_left
                    · (intro wq hSw; (try dsimp only at hSw); go_simp; try (with_reducible rfl))
                    try simp only [Act.put, List.setIfInBounds_toArray, List.set_cons_zero, List.set_cons_succ]
                    refine wpAnyH_ready (rs := [5]) (by kernel_rfl) (by simp) ?_
                    refine (AllReadyH.cons (o := { dst := some 114, op := Go.Op.call { callee := Go.Callee.value (Go.Operand.func 64), args := #[Go.Operand.tmp 112, Go.Operand.tmp 113], argTypes := #[76, 76] }, type := 4, pos := "outright.go:76", after := #[{ on := 3, ground := Go.Ground.data }, { on := 4, ground := Go.Ground.data }], guard := none }) rfl (fun K hK => ?_) AllReadyH.nil)
                    go_simp
                    refine (ovT_any t hT _).mono ?_
                    rintro e w7 ⟨rfl, hb7⟩
                    rw [ho]
                    have HB7 : Hid (RowKit.Below wr.heap.size wr w7) := hHeld.1.trans (hb7.mono hHeld.1.size)
                    have hS7 := HST.out _ HB7.out
                    clear hb7
                    try dsimp only
                    refine hK.out _ _ ?_ (fun hHeld => ?_)
                    · exact HST.out _ HB7.out
                    clear hK K
                    try simp only [Act.put, List.setIfInBounds_toArray, List.set_cons_zero, List.set_cons_succ]
                    refine wpAnyH_take (i := 6) (oi := { dst := some 115, op := Go.Op.move (Go.Operand.tmp 114), type := 4, pos := "outright.go:76", after := #[{ on := 5, ground := Go.Ground.data }, { on := 5, ground := Go.Ground.chain }], guard := none }) (v := ?_) rfl (by kernel_rfl) (by kernel_rfl) (by kernel_rfl) (fun _ _ _ h => h) (Or.inl ⟨by rfl, ?_⟩) hHeld ?_
                    rotate_left
                    · (intro wq hSw; (try dsimp only at hSw); go_simp; try (with_reducible rfl))
                    try simp only [Act.put, List.setIfInBounds_toArray, List.set_cons_zero, List.set_cons_succ]
                    refine wpAnyH_take (i := 7) (oi := { dst := some 116, op := Go.Op.fieldAddr 62 (Go.Operand.tmp 5) 2, type := 0, pos := "outright.go:76", after := #[{ on := 6, ground := Go.Ground.guard }], guard := some (6, true) }) (v := ?_) rfl (by kernel_rfl) (by kernel_rfl) (by kernel_rfl) (fun _ _ _ h => h) (Or.inl ⟨by rfl, ?_⟩) hHeld ?_
                    rotate_left
                    · (intro wq hSw; (try dsimp only at hSw); go_simp; try (with_reducible rfl))
                    try simp only [Act.put, List.setIfInBounds_toArray, List.set_cons_zero, List.set_cons_succ]
                    refine wpAnyH_take (i := 8) (oi := { dst := some 117, op := Go.Op.load 58 (Go.Operand.tmp 116), type := 58, pos := "outright.go:76", after := #[{ on := 7, ground := Go.Ground.data }, { on := 6, ground := Go.Ground.guard }], guard := some (6, true) }) (v := ?_) rfl (by kernel_rfl) (by kernel_rfl) (by kernel_rfl) (fun _ _ _ h => h) (Or.inl ⟨by rfl, ?_⟩) hHeld ?_
                    rotate_left
                    · (intro wq hSw; (try dsimp only at hSw); go_simp; try (with_reducible rfl))
                    try simp only [Act.put, List.setIfInBounds_toArray, List.set_cons_zero, List.set_cons_succ]
                    refine wpAnyH_take (i := 9) (oi := { dst := some 118, op := Go.Op.move (Go.Operand.tmp 9), type := 58, pos := "outright.go:76", after := #[{ on := 6, ground := Go.Ground.guard }], guard := some (6, true) }) (v := ?_) rfl (by kernel_rfl) (by kernel_rfl) (by kernel_rfl) (fun _ _ _ h => h) (Or.inl ⟨by rfl, ?_⟩) hHeld ?_
                    rotate_left
                    · (intro wq hSw; (try dsimp only at hSw); go_simp; try (with_reducible rfl))
                    try simp only [Act.put, List.setIfInBounds_toArray, List.set_cons_zero, List.set_cons_succ]
                    refine wpAnyH_take (i := 10) (oi := { dst := some 119, op := Go.Op.move (Go.Operand.tmp 11), type := 3, pos := "outright.go:76", after := #[{ on := 6, ground := Go.Ground.guard }], guard := some (6, true) }) (v := ?_) rfl (by kernel_rfl) (by kernel_rfl) (by kernel_rfl) (fun _ _ _ h => h) (Or.inl ⟨by rfl, ?_⟩) hHeld ?_
                    rotate_left
                    · (intro wq hSw; (try dsimp only at hSw); go_simp; try (with_reducible rfl))
                    try simp only [Act.put, List.setIfInBounds_toArray, List.set_cons_zero, List.set_cons_succ]
                    refine wpAnyH_take (i := 11) (oi := { dst := some 120, op := Go.Op.indexAddr 58 (Go.Operand.tmp 118) (Go.Operand.tmp 119), type := 0, pos := "outright.go:76", after := #[{ on := 9, ground := Go.Ground.data }, { on := 10, ground := Go.Ground.data }, { on := 6, ground := Go.Ground.guard }], guard := some (6, true) }) (v := ?_) rfl (by kernel_rfl) (by kernel_rfl) (by kernel_rfl) (fun _ _ _ h => h) (Or.inl ⟨by rfl, ?_⟩) hHeld ?_
                    rotate_left
                    · (intro wq hSw; (try dsimp only at hSw); go_simp; try (with_reducible rfl))
                    try simp only [Act.put, List.setIfInBounds_toArray, List.set_cons_zero, List.set_cons_succ]
                    refine wpAnyH_take (i := 12) (oi := { dst := some 121, op := Go.Op.fieldAddr 76 (Go.Operand.tmp 120) 0, type := 0, pos := "outright.go:76", after := #[{ on := 11, ground := Go.Ground.data }, { on := 6, ground := Go.Ground.guard }], guard := some (6, true) }) (v := ?_) rfl (by kernel_rfl) (by kernel_rfl) (by kernel_rfl) (fun _ _ _ h => h) (Or.inl ⟨by rfl, ?_⟩) hHeld ?_
                    rotate_left
                    · (intro wq hSw; (try dsimp only at hSw); go_simp; try (with_reducible rfl))
                    try simp only [Act.put, List.setIfInBounds_toArray, List.set_cons_zero, List.set_cons_succ]
                    refine wpAnyH_take (i := 13) (oi := { dst := some 122, op := Go.Op.load 55 (Go.Operand.tmp 121), type := 55, pos := "outright.go:76", after := #[{ on := 12, ground := Go.Ground.data }, { on := 6, ground := Go.Ground.guard }], guard := some (6, true) }) (v := ?_) rfl (by kernel_rfl) (by kernel_rfl) (by kernel_rfl) (fun _ _ _ h => h) (Or.inl ⟨by rfl, ?_⟩) hHeld ?_
                    rotate_left
                    · (intro wq hSw; (try dsimp only at hSw); go_simp; try (with_reducible rfl))
                    try simp only [Act.put, List.setIfInBounds_toArray, List.set_cons_zero, List.set_cons_succ]
                    refine wpAnyH_ready (rs := [14]) (by kernel_rfl) (by simp) ?_
                    refine (AllReadyH.cons (o := { dst := some 123, op := Go.Op.call { callee := Go.Callee.value (Go.Operand.func 63), args := #[Go.Operand.tmp 117, Go.Operand.tmp 122], argTypes := #[58, 55] }, type := 4, pos := "outright.go:76", after := #[{ on := 8, ground := Go.Ground.data }, { on := 13, ground := Go.Ground.data }, { on := 6, ground := Go.Ground.chain }, { on := 6, ground := Go.Ground.guard }], guard := some (6, true) }) rfl (fun K hK => ?_) AllReadyH.nil)
                    go_simp
                    refine (in_any la lc j.lo t.no _ (HA.out.2.2.1.2.below (HSR.out.2.b.trans (hHeld.1.mono HSR.out.2.b.size))) hlen2).mono ?_
                    rintro e w6 ⟨rfl, hw6⟩
                    have hw6' := hw6.symm
                    clear hw6
                    subst hw6'
                    rw [HTI]
                    try dsimp only
                    refine hK.out _ _ ?_ (fun hHeld => ?_)
                    · exact HST.out _ HB7.out
                    clear hK K
                    try simp only [Act.put, List.setIfInBounds_toArray, List.set_cons_zero, List.set_cons_succ]
                    refine wpAnyH_take (i := 15) (oi := { dst := some 124, op := Go.Op.unOp Go.UnOp.not 4 (Go.Operand.tmp 123), type := 4, pos := "outright.go:76", after := #[{ on := 14, ground := Go.Ground.data }, { on := 6, ground := Go.Ground.guard }], guard := some (6, true) }) (v := ?_) rfl (by kernel_rfl) (by kernel_rfl) (by kernel_rfl) (fun _ _ _ h => h) (Or.inl ⟨by rfl, ?_⟩) hHeld ?_
                    rotate_left
                    · (intro wq hSw; (try dsimp only at hSw); go_simp; try (with_reducible rfl))
                    try simp only [Act.put, List.setIfInBounds_toArray, List.set_cons_zero, List.set_cons_succ]
                    refine wpAnyH_take (i := 16) (oi := { dst := some 125, op := Go.Op.pick (Go.Operand.tmp 115) (Go.Operand.tmp 124) (Go.Operand.const (Go.Value.bool false)), type := 4, pos := "outright.go:76", after := #[{ on := 6, ground := Go.Ground.data }, { on := 15, ground := Go.Ground.data }], guard := none }) (v := ?_) rfl (by kernel_rfl) (by kernel_rfl) (by kernel_rfl) (fun _ _ _ h => h) (Or.inl ⟨by rfl, ?_⟩) hHeld ?_
                    rotate_left
                    · (intro wq hSw; (try dsimp only at hSw); go_simp; try (with_reducible rfl))
                    try simp only [Act.put, List.setIfInBounds_toArray, List.set_cons_zero, List.set_cons_succ]
                    refine wpAnyH_take (i := 17) (oi := { dst := some 126, op := Go.Op.move (Go.Operand.tmp 125), type := 4, pos := "outright.go:76", after := #[{ on := 16, ground := Go.Ground.data }, { on := 14, ground := Go.Ground.chain }], guard := none }) (v := ?_) rfl (by kernel_rfl) (by kernel_rfl) (by kernel_rfl) (fun _ _ _ h => h) (Or.inl ⟨by rfl, ?_⟩) hHeld ?_
                    rotate_left
                    · (intro wq hSw; (try dsimp only at hSw); go_simp; try (with_reducible rfl))
                    try simp only [Act.put, List.setIfInBounds_toArray, List.set_cons_zero, List.set_cons_succ]
                    refine wpAnyH_take (i := 18) (oi := { dst := some 127, op := Go.Op.fieldAddr 62 (Go.Operand.tmp 5) 3, type := 0, pos := "outright.go:76", after := #[{ on := 17, ground := Go.Ground.guard }], guard := some (17, true) }) (v := undef) rfl (by kernel_rfl) (by kernel_rfl) (by kernel_rfl) (fun _ _ _ h => h) (Or.inr ⟨by rfl, rfl⟩) hHeld ?_
                    try simp only [Act.put, List.setIfInBounds_toArray, List.set_cons_zero, List.set_cons_succ]
                    refine wpAnyH_take (i := 19) (oi := { dst := some 128, op := Go.Op.load 9 (Go.Operand.tmp 127), type := 9, pos := "outright.go:76", after := #[{ on := 18, ground := Go.Ground.data }, { on := 17, ground := Go.Ground.guard }], guard := some (17, true) }) (v := undef) rfl (by kernel_rfl) (by kernel_rfl) (by kernel_rfl) (fun _ _ _ h => h) (Or.inr ⟨by rfl, rfl⟩) hHeld ?_
                    try simp only [Act.put, List.setIfInBounds_toArray, List.set_cons_zero, List.set_cons_succ]
                    refine wpAnyH_take (i := 20) (oi := { dst := some 129, op := Go.Op.binOp Go.BinOp.eql 9 (Go.Operand.tmp 128) (Go.Operand.const (Go.Value.string { data := #[] })) 9, type := 4, pos := "outright.go:76", after := #[{ on := 19, ground := Go.Ground.data }, { on := 17, ground := Go.Ground.guard }], guard := some (17, true) }) (v := undef) rfl (by kernel_rfl) (by kernel_rfl) (by kernel_rfl) (fun _ _ _ h => h) (Or.inr ⟨by rfl, rfl⟩) hHeld ?_
                    try simp only [Act.put, List.setIfInBounds_toArray, List.set_cons_zero, List.set_cons_succ]
                    refine wpAnyH_take (i := 21) (oi := { dst := some 130, op := Go.Op.move (Go.Operand.tmp 129), type := 4, pos := "outright.go:76", after := #[{ on := 20, ground := Go.Ground.data }, { on := 17, ground := Go.Ground.chain }, { on := 17, ground := Go.Ground.guard }], guard := some (17, true) }) (v := undef) rfl (by kernel_rfl) (by kernel_rfl) (by kernel_rfl) (fun _ _ _ h => h) (Or.inr ⟨by rfl, rfl⟩) hHeld ?_
                    try simp only [Act.put, List.setIfInBounds_toArray, List.set_cons_zero, List.set_cons_succ]
                    refine wpAnyH_take (i := 22) (oi := { dst := some 131, op := Go.Op.move (Go.Operand.tmp 9), type := 58, pos := "outright.go:76", after := #[{ on := 21, ground := Go.Ground.guard }], guard := some (21, false) }) (v := undef) rfl (by kernel_rfl) (by kernel_rfl) (by kernel_rfl) (fun _ _ _ h => h) (Or.inr ⟨by rfl, rfl⟩) hHeld ?_
                    try simp only [Act.put, List.setIfInBounds_toArray, List.set_cons_zero, List.set_cons_succ]
                    refine wpAnyH_take (i := 23) (oi := { dst := some 132, op := Go.Op.move (Go.Operand.tmp 11), type := 3, pos := "outright.go:76", after := #[{ on := 21, ground := Go.Ground.guard }], guard := some (21, false) }) (v := undef) rfl (by kernel_rfl) (by kernel_rfl) (by kernel_rfl) (fun _ _ _ h => h) (Or.inr ⟨by rfl, rfl⟩) hHeld ?_
                    try simp only [Act.put, List.setIfInBounds_toArray, List.set_cons_zero, List.set_cons_succ]
                    refine wpAnyH_take (i := 24) (oi := { dst := some 133, op := Go.Op.indexAddr 58 (Go.Operand.tmp 131) (Go.Operand.tmp 132), type := 0, pos := "outright.go:76", after := #[{ on := 22, ground := Go.Ground.data }, { on := 23, ground := Go.Ground.data }, { on := 21, ground := Go.Ground.guard }], guard := some (21, false) }) (v := undef) rfl (by kernel_rfl) (by kernel_rfl) (by kernel_rfl) (fun _ _ _ h => h) (Or.inr ⟨by rfl, rfl⟩) hHeld ?_
                    try simp only [Act.put, List.setIfInBounds_toArray, List.set_cons_zero, List.set_cons_succ]
                    refine wpAnyH_take (i := 25) (oi := { dst := some 134, op := Go.Op.fieldAddr 76 (Go.Operand.tmp 133) 4, type := 0, pos := "outright.go:76", after := #[{ on := 24, ground := Go.Ground.data }, { on := 21, ground := Go.Ground.guard }], guard := some (21, false) }) (v := undef) rfl (by kernel_rfl) (by kernel_rfl) (by kernel_rfl) (fun _ _ _ h => h) (Or.inr ⟨by rfl, rfl⟩) hHeld ?_
                    try simp only [Act.put, List.setIfInBounds_toArray, List.set_cons_zero, List.set_cons_succ]
                    refine wpAnyH_take (i := 26) (oi := { dst := some 135, op := Go.Op.load 9 (Go.Operand.tmp 134), type := 9, pos := "outright.go:76", after := #[{ on := 25, ground := Go.Ground.data }, { on := 21, ground := Go.Ground.guard }], guard := some (21, false) }) (v := undef) rfl (by kernel_rfl) (by kernel_rfl) (by kernel_rfl) (fun _ _ _ h => h) (Or.inr ⟨by rfl, rfl⟩) hHeld ?_
                    try simp only [Act.put, List.setIfInBounds_toArray, List.set_cons_zero, List.set_cons_succ]
                    refine wpAnyH_take (i := 27) (oi := { dst := some 136, op := Go.Op.fieldAddr 62 (Go.Operand.tmp 5) 3, type := 0, pos := "outright.go:76", after := #[{ on := 21, ground := Go.Ground.guard }], guard := some (21, false) }) (v := undef) rfl (by kernel_rfl) (by kernel_rfl) (by kernel_rfl) (fun _ _ _ h => h) (Or.inr ⟨by rfl, rfl⟩) hHeld ?_
                    try simp only [Act.put, List.setIfInBounds_toArray, List.set_cons_zero, List.set_cons_succ]
                    refine wpAnyH_take (i := 28) (oi := { dst := some 137, op := Go.Op.load 9 (Go.Operand.tmp 136), type := 9, pos := "outright.go:76", after := #[{ on := 27, ground := Go.Ground.data }, { on := 21, ground := Go.Ground.guard }], guard := some (21, false) }) (v := undef) rfl (by kernel_rfl) (by kernel_rfl) (by kernel_rfl) (fun _ _ _ h => h) (Or.inr ⟨by rfl, rfl⟩) hHeld ?_
                    try simp only [Act.put, List.setIfInBounds_toArray, List.set_cons_zero, List.set_cons_succ]
                    refine wpAnyH_take (i := 29) (oi := { dst := some 138, op := Go.Op.binOp Go.BinOp.lss 9 (Go.Operand.tmp 135) (Go.Operand.tmp 137) 9, type := 4, pos := "outright.go:76", after := #[{ on := 26, ground := Go.Ground.data }, { on := 28, ground := Go.Ground.data }, { on := 21, ground := Go.Ground.guard }], guard := some (21, false) }) (v := undef) rfl (by kernel_rfl) (by kernel_rfl) (by kernel_rfl) (fun _ _ _ h => h) (Or.inr ⟨by rfl, rfl⟩) hHeld ?_
                    try simp only [Act.put, List.setIfInBounds_toArray, List.set_cons_zero, List.set_cons_succ]
                    refine wpAnyH_take (i := 30) (oi := { dst := some 139, op := Go.Op.pick (Go.Operand.tmp 130) (Go.Operand.const (Go.Value.bool true)) (Go.Operand.tmp 138), type := 4, pos := "outright.go:76", after := #[{ on := 21, ground := Go.Ground.data }, { on := 29, ground := Go.Ground.data }, { on := 17, ground := Go.Ground.guard }], guard := some (17, true) }) (v := undef) rfl (by kernel_rfl) (by kernel_rfl) (by kernel_rfl) (fun _ _ _ h => h) (Or.inr ⟨by rfl, rfl⟩) hHeld ?_
                    try simp only [Act.put, List.setIfInBounds_toArray, List.set_cons_zero, List.set_cons_succ]
                    refine wpAnyH_take (i := 31) (oi := { dst := some 140, op := Go.Op.pick (Go.Operand.tmp 126) (Go.Operand.tmp 139) (Go.Operand.const (Go.Value.bool false)), type := 4, pos := "outright.go:76", after := #[{ on := 17, ground := Go.Ground.data }, { on := 30, ground := Go.Ground.data }], guard := none }) (v := ?_) rfl (by kernel_rfl) (by kernel_rfl) (by kernel_rfl) (fun _ _ _ h => h) (Or.inl ⟨by rfl, ?_⟩) hHeld ?_
                    rotate_left
                    · (intro wq hSw; (try dsimp only at hSw); go_simp; try (with_reducible rfl))
                    try simp only [Act.put, List.setIfInBounds_toArray, List.set_cons_zero, List.set_cons_succ]
                    refine wpAnyH_done (by kernel_rfl) ?_ _
                    go_wp2_with fail
                    go_meet
                    case rel => exact ⟨by first | rfl | simp, HB7⟩

                  | false =>
                    obtain ⟨hcz, hcl⟩ : decide (j.cut = ⟨#[]⟩) = false ∧ ltS t.le j.cut = false := by
                      rcases HX.out ho with q | ⟨q1, q2⟩
                      · rw [HTI] at q; exact absurd q (by simp)
                      · exact ⟨by simpa using q1, q2⟩
                    have hcn : ¬ j.cut.toList = [] := by
                      rw [ByteArray.toList_eq]
                      intro e
                      have : j.cut = ⟨#[]⟩ := ba_ext (by rw [e])
                      exact (by simpa using hcz : ¬ j.cut = ⟨#[]⟩) this
                    have hcl2 : Op.bytesLess t.le.toList j.cut.toList = false := (lt_ltS _ _).trans hcl
                    refine wp_region_held_drew (S := (fun X => RowKit.Below wr.heap.size wr X ∧ X.cell? ⟨w.heap.size + 1, 2, none⟩ = some (.slice la j.lo.length lc) ∧ X.cell? ⟨w.heap.size + 1, 3, none⟩ = some (.string j.cut) ∧ X.cell? ⟨nb, nf + k * 6, none⟩ = some (.int .u64 (t.no : Int)) ∧ X.cell? ⟨nb, nf + k * 6 + 1, none⟩ = some (.int .i64 t.we) ∧ X.cell? ⟨nb, nf + k * 6 + 2, none⟩ = some (.int .i64 t.by_) ∧ X.cell? ⟨nb, nf + k * 6 + 3, none⟩ = some (.int .i64 t.en) ∧ X.cell? ⟨nb, nf + k * 6 + 4, none⟩ = some (.string t.le) ∧ X.cell? ⟨nb, nf + k * 6 + 5, none⟩ = some (.string t.gr) ∧ X.cell? ⟨H, 0, none⟩ = some (.int .u64 (hT.no : Int)) ∧ X.cell? ⟨H, 1, none⟩ = some (.int .i64 hT.we) ∧ X.cell? ⟨H, 2, none⟩ = some (.int .i64 hT.by_) ∧ X.cell? ⟨H, 3, none⟩ = some (.int .i64 hT.en) ∧ X.cell? ⟨H, 4, none⟩ = some (.string hT.le) ∧ X.cell? ⟨H, 5, none⟩ = some (.string hT.gr))) (by kernel_rfl) ?_ (fun hHeld => ?_)
                    · exact HST.out _ (Below.refl _ _).drew
                    refine wpAnyH_take (i := 0) (oi := { dst := some 109, op := Go.Op.move (Go.Operand.tmp 9), type := 58, pos := "outright.go:76", after := #[], guard := none }) (v := ?_) rfl (by kernel_rfl) (by kernel_rfl) (by kernel_rfl) (fun _ _ _ h => h) (Or.inl ⟨by rfl, ?_⟩) hHeld ?_
                    rotate_left
                    · (intro wq hSw; (try dsimp only at hSw); go_simp; try (with_reducible rfl))
                    try simp only [Act.put, List.setIfInBounds_toArray, List.set_cons_zero, List.set_cons_succ]
                    refine wpAnyH_take (i := 1) (oi := { dst := some 110, op := Go.Op.move (Go.Operand.tmp 11), type := 3, pos := "outright.go:76", after := #[], guard := none }) (v := ?_) rfl (by kernel_rfl) (by kernel_rfl) (by kernel_rfl) (fun _ _ _ h => h) (Or.inl ⟨by rfl, ?_⟩) hHeld ?_
                    rotate_left
                    · (intro wq hSw; (try dsimp only at hSw); go_simp; try (with_reducible rfl))
                    try simp only [Act.put, List.setIfInBounds_toArray, List.set_cons_zero, List.set_cons_succ]
                    refine wpAnyH_take (i := 2) (oi := { dst := some 111, op := Go.Op.indexAddr 58 (Go.Operand.tmp 109) (Go.Operand.tmp 110), type := 0, pos := "outright.go:76", after := #[{ on := 0, ground := Go.Ground.data }, { on := 1, ground := Go.Ground.data }], guard := none }) (v := ?_) rfl (by kernel_rfl) (by kernel_rfl) (by kernel_rfl) (fun _ _ _ h => h) (Or.inl ⟨by rfl, ?_⟩) hHeld ?_
                    rotate_left
                    · (intro wq hSw; (try dsimp only at hSw); go_simp; try (with_reducible rfl))
                    try simp only [Act.put, List.setIfInBounds_toArray, List.set_cons_zero, List.set_cons_succ]
                    refine wpAnyH_take (i := 3) (oi := { dst := some 112, op := Go.Op.load 76 (Go.Operand.tmp 111), type := 76, pos := "outright.go:76", after := #[{ on := 2, ground := Go.Ground.data }], guard := none }) (v := ?_) rfl (by kernel_rfl) (by kernel_rfl) (by kernel_rfl) (fun _ _ _ h => h) (Or.inl ⟨by rfl, ?_⟩) hHeld ?_
                    rotate_left
                    · (intro wq hSw; (try dsimp only at hSw); go_simp; try (with_reducible rfl))
                    try simp only [Act.put, List.setIfInBounds_toArray, List.set_cons_zero, List.set_cons_succ]
                    refine wpAnyH_take (i := 4) (oi := { dst := some 113, op := Go.Op.load 76 (Go.Operand.tmp 7), type := 76, pos := "outright.go:76", after := #[], guard := none }) (v := ?_) rfl (by kernel_rfl) (by kernel_rfl) (by kernel_rfl) (fun _ _ _ h => h) (Or.inl ⟨by rfl, ?_⟩) hHeld ?_
                    rotate_left
                    · (intro wq hSw; (try dsimp only at hSw); go_simp; try (with_reducible rfl))
                    try simp only [Act.put, List.setIfInBounds_toArray, List.set_cons_zero, List.set_cons_succ]
                    refine wpAnyH_ready (rs := [5]) (by kernel_rfl) (by simp) ?_
                    refine (AllReadyH.cons (o := { dst := some 114, op := Go.Op.call { callee := Go.Callee.value (Go.Operand.func 64), args := #[Go.Operand.tmp 112, Go.Operand.tmp 113], argTypes := #[76, 76] }, type := 4, pos := "outright.go:76", after := #[{ on := 3, ground := Go.Ground.data }, { on := 4, ground := Go.Ground.data }], guard := none }) rfl (fun K hK => ?_) AllReadyH.nil)
                    go_simp
                    refine (ovT_any t hT _).mono ?_
                    rintro e w7 ⟨rfl, hb7⟩
                    rw [ho]
                    have HB7 : Hid (RowKit.Below wr.heap.size wr w7) := hHeld.1.trans (hb7.mono hHeld.1.size)
                    have hS7 := HST.out _ HB7.out
                    clear hb7
                    try dsimp only
                    refine hK.out _ _ ?_ (fun hHeld => ?_)
                    · exact HST.out _ HB7.out
                    clear hK K
                    try simp only [Act.put, List.setIfInBounds_toArray, List.set_cons_zero, List.set_cons_succ]
                    refine wpAnyH_take (i := 6) (oi := { dst := some 115, op := Go.Op.move (Go.Operand.tmp 114), type := 4, pos := "outright.go:76", after := #[{ on := 5, ground := Go.Ground.data }, { on := 5, ground := Go.Ground.chain }], guard := none }) (v := ?_) rfl (by kernel_rfl) (by kernel_rfl) (by kernel_rfl) (fun _ _ _ h => h) (Or.inl ⟨by rfl, ?_⟩) hHeld ?_
                    rotate_left
                    · (intro wq hSw; (try dsimp only at hSw); go_simp; try (with_reducible rfl))
                    try simp only [Act.put, List.setIfInBounds_toArray, List.set_cons_zero, List.set_cons_succ]
                    refine wpAnyH_take (i := 7) (oi := { dst := some 116, op := Go.Op.fieldAddr 62 (Go.Operand.tmp 5) 2, type := 0, pos := "outright.go:76", after := #[{ on := 6, ground := Go.Ground.guard }], guard := some (6, true) }) (v := ?_) rfl (by kernel_rfl) (by kernel_rfl) (by kernel_rfl) (fun _ _ _ h => h) (Or.inl ⟨by rfl, ?_⟩) hHeld ?_
                    rotate_left
                    · (intro wq hSw; (try dsimp only at hSw); go_simp; try (with_reducible rfl))
                    try simp only [Act.put, List.setIfInBounds_toArray, List.set_cons_zero, List.set_cons_succ]
                    refine wpAnyH_take (i := 8) (oi := { dst := some 117, op := Go.Op.load 58 (Go.Operand.tmp 116), type := 58, pos := "outright.go:76", after := #[{ on := 7, ground := Go.Ground.data }, { on := 6, ground := Go.Ground.guard }], guard := some (6, true) }) (v := ?_) rfl (by kernel_rfl) (by kernel_rfl) (by kernel_rfl) (fun _ _ _ h => h) (Or.inl ⟨by rfl, ?_⟩) hHeld ?_
                    rotate_left
                    · (intro wq hSw; (try dsimp only at hSw); go_simp; try (with_reducible rfl))
                    try simp only [Act.put, List.setIfInBounds_toArray, List.set_cons_zero, List.set_cons_succ]
                    refine wpAnyH_take (i := 9) (oi := { dst := some 118, op := Go.Op.move (Go.Operand.tmp 9), type := 58, pos := "outright.go:76", after := #[{ on := 6, ground := Go.Ground.guard }], guard := some (6, true) }) (v := ?_) rfl (by kernel_rfl) (by kernel_rfl) (by kernel_rfl) (fun _ _ _ h => h) (Or.inl ⟨by rfl, ?_⟩) hHeld ?_
                    rotate_left
                    · (intro wq hSw; (try dsimp only at hSw); go_simp; try (with_reducible rfl))
                    try simp only [Act.put, List.setIfInBounds_toArray, List.set_cons_zero, List.set_cons_succ]
                    refine wpAnyH_take (i := 10) (oi := { dst := some 119, op := Go.Op.move (Go.Operand.tmp 11), type := 3, pos := "outright.go:76", after := #[{ on := 6, ground := Go.Ground.guard }], guard := some (6, true) }) (v := ?_) rfl (by kernel_rfl) (by kernel_rfl) (by kernel_rfl) (fun _ _ _ h => h) (Or.inl ⟨by rfl, ?_⟩) hHeld ?_
                    rotate_left
                    · (intro wq hSw; (try dsimp only at hSw); go_simp; try (with_reducible rfl))
                    try simp only [Act.put, List.setIfInBounds_toArray, List.set_cons_zero, List.set_cons_succ]
                    refine wpAnyH_take (i := 11) (oi := { dst := some 120, op := Go.Op.indexAddr 58 (Go.Operand.tmp 118) (Go.Operand.tmp 119), type := 0, pos := "outright.go:76", after := #[{ on := 9, ground := Go.Ground.data }, { on := 10, ground := Go.Ground.data }, { on := 6, ground := Go.Ground.guard }], guard := some (6, true) }) (v := ?_) rfl (by kernel_rfl) (by kernel_rfl) (by kernel_rfl) (fun _ _ _ h => h) (Or.inl ⟨by rfl, ?_⟩) hHeld ?_
                    rotate_left
                    · (intro wq hSw; (try dsimp only at hSw); go_simp; try (with_reducible rfl))
                    try simp only [Act.put, List.setIfInBounds_toArray, List.set_cons_zero, List.set_cons_succ]
                    refine wpAnyH_take (i := 12) (oi := { dst := some 121, op := Go.Op.fieldAddr 76 (Go.Operand.tmp 120) 0, type := 0, pos := "outright.go:76", after := #[{ on := 11, ground := Go.Ground.data }, { on := 6, ground := Go.Ground.guard }], guard := some (6, true) }) (v := ?_) rfl (by kernel_rfl) (by kernel_rfl) (by kernel_rfl) (fun _ _ _ h => h) (Or.inl ⟨by rfl, ?_⟩) hHeld ?_
                    rotate_left
                    · (intro wq hSw; (try dsimp only at hSw); go_simp; try (with_reducible rfl))
                    try simp only [Act.put, List.setIfInBounds_toArray, List.set_cons_zero, List.set_cons_succ]
                    refine wpAnyH_take (i := 13) (oi := { dst := some 122, op := Go.Op.load 55 (Go.Operand.tmp 121), type := 55, pos := "outright.go:76", after := #[{ on := 12, ground := Go.Ground.data }, { on := 6, ground := Go.Ground.guard }], guard := some (6, true) }) (v := ?_) rfl (by kernel_rfl) (by kernel_rfl) (by kernel_rfl) (fun _ _ _ h => h) (Or.inl ⟨by rfl, ?_⟩) hHeld ?_
                    rotate_left
                    · (intro wq hSw; (try dsimp only at hSw); go_simp; try (with_reducible rfl))
                    try simp only [Act.put, List.setIfInBounds_toArray, List.set_cons_zero, List.set_cons_succ]
                    refine wpAnyH_ready (rs := [14]) (by kernel_rfl) (by simp) ?_
                    refine (AllReadyH.cons (o := { dst := some 123, op := Go.Op.call { callee := Go.Callee.value (Go.Operand.func 63), args := #[Go.Operand.tmp 117, Go.Operand.tmp 122], argTypes := #[58, 55] }, type := 4, pos := "outright.go:76", after := #[{ on := 8, ground := Go.Ground.data }, { on := 13, ground := Go.Ground.data }, { on := 6, ground := Go.Ground.chain }, { on := 6, ground := Go.Ground.guard }], guard := some (6, true) }) rfl (fun K hK => ?_) AllReadyH.nil)
                    go_simp
                    refine (in_any la lc j.lo t.no _ (HA.out.2.2.1.2.below (HSR.out.2.b.trans (hHeld.1.mono HSR.out.2.b.size))) hlen2).mono ?_
                    rintro e w6 ⟨rfl, hw6⟩
                    have hw6' := hw6.symm
                    clear hw6
                    subst hw6'
                    rw [HTI]
                    try dsimp only
                    refine hK.out _ _ ?_ (fun hHeld => ?_)
                    · exact HST.out _ HB7.out
                    clear hK K
                    try simp only [Act.put, List.setIfInBounds_toArray, List.set_cons_zero, List.set_cons_succ]
                    refine wpAnyH_take (i := 15) (oi := { dst := some 124, op := Go.Op.unOp Go.UnOp.not 4 (Go.Operand.tmp 123), type := 4, pos := "outright.go:76", after := #[{ on := 14, ground := Go.Ground.data }, { on := 6, ground := Go.Ground.guard }], guard := some (6, true) }) (v := ?_) rfl (by kernel_rfl) (by kernel_rfl) (by kernel_rfl) (fun _ _ _ h => h) (Or.inl ⟨by rfl, ?_⟩) hHeld ?_
                    rotate_left
                    · (intro wq hSw; (try dsimp only at hSw); go_simp; try (with_reducible rfl))
                    try simp only [Act.put, List.setIfInBounds_toArray, List.set_cons_zero, List.set_cons_succ]
                    refine wpAnyH_take (i := 16) (oi := { dst := some 125, op := Go.Op.pick (Go.Operand.tmp 115) (Go.Operand.tmp 124) (Go.Operand.const (Go.Value.bool false)), type := 4, pos := "outright.go:76", after := #[{ on := 6, ground := Go.Ground.data }, { on := 15, ground := Go.Ground.data }], guard := none }) (v := ?_) rfl (by kernel_rfl) (by kernel_rfl) (by kernel_rfl) (fun _ _ _ h => h) (Or.inl ⟨by rfl, ?_⟩) hHeld ?_
                    rotate_left
                    · (intro wq hSw; (try dsimp only at hSw); go_simp; try (with_reducible rfl))
                    try simp only [Act.put, List.setIfInBounds_toArray, List.set_cons_zero, List.set_cons_succ]
                    refine wpAnyH_take (i := 17) (oi := { dst := some 126, op := Go.Op.move (Go.Operand.tmp 125), type := 4, pos := "outright.go:76", after := #[{ on := 16, ground := Go.Ground.data }, { on := 14, ground := Go.Ground.chain }], guard := none }) (v := ?_) rfl (by kernel_rfl) (by kernel_rfl) (by kernel_rfl) (fun _ _ _ h => h) (Or.inl ⟨by rfl, ?_⟩) hHeld ?_
                    rotate_left
                    · (intro wq hSw; (try dsimp only at hSw); go_simp; try (with_reducible rfl))
                    try simp only [Act.put, List.setIfInBounds_toArray, List.set_cons_zero, List.set_cons_succ]
                    refine wpAnyH_take (i := 18) (oi := { dst := some 127, op := Go.Op.fieldAddr 62 (Go.Operand.tmp 5) 3, type := 0, pos := "outright.go:76", after := #[{ on := 17, ground := Go.Ground.guard }], guard := some (17, true) }) (v := ?_) rfl (by kernel_rfl) (by kernel_rfl) (by kernel_rfl) (fun _ _ _ h => h) (Or.inl ⟨by rfl, ?_⟩) hHeld ?_
                    rotate_left
                    · (intro wq hSw; (try dsimp only at hSw); go_simp; try (with_reducible rfl))
                    try simp only [Act.put, List.setIfInBounds_toArray, List.set_cons_zero, List.set_cons_succ]
                    refine wpAnyH_take (i := 19) (oi := { dst := some 128, op := Go.Op.load 9 (Go.Operand.tmp 127), type := 9, pos := "outright.go:76", after := #[{ on := 18, ground := Go.Ground.data }, { on := 17, ground := Go.Ground.guard }], guard := some (17, true) }) (v := ?_) rfl (by kernel_rfl) (by kernel_rfl) (by kernel_rfl) (fun _ _ _ h => h) (Or.inl ⟨by rfl, ?_⟩) hHeld ?_
                    rotate_left
                    · (intro wq hSw; (try dsimp only at hSw); go_simp; try (with_reducible rfl))
                    try simp only [Act.put, List.setIfInBounds_toArray, List.set_cons_zero, List.set_cons_succ]
                    refine wpAnyH_take (i := 20) (oi := { dst := some 129, op := Go.Op.binOp Go.BinOp.eql 9 (Go.Operand.tmp 128) (Go.Operand.const (Go.Value.string { data := #[] })) 9, type := 4, pos := "outright.go:76", after := #[{ on := 19, ground := Go.Ground.data }, { on := 17, ground := Go.Ground.guard }], guard := some (17, true) }) (v := .bool false) rfl (by kernel_rfl) (by kernel_rfl) (by kernel_rfl) (fun _ _ _ h => h) (Or.inl ⟨by rfl, ?_⟩) hHeld ?_
                    · (intro wq hSw; (try dsimp only at hSw); go_simp; try exact hcn)
                    try simp only [Act.put, List.setIfInBounds_toArray, List.set_cons_zero, List.set_cons_succ]
                    refine wpAnyH_take (i := 21) (oi := { dst := some 130, op := Go.Op.move (Go.Operand.tmp 129), type := 4, pos := "outright.go:76", after := #[{ on := 20, ground := Go.Ground.data }, { on := 17, ground := Go.Ground.chain }, { on := 17, ground := Go.Ground.guard }], guard := some (17, true) }) (v := ?_) rfl (by kernel_rfl) (by kernel_rfl) (by kernel_rfl) (fun _ _ _ h => h) (Or.inl ⟨by rfl, ?_⟩) hHeld ?_
                    rotate_left
                    · (intro wq hSw; (try dsimp only at hSw); go_simp; try (with_reducible rfl))
                    try simp only [Act.put, List.setIfInBounds_toArray, List.set_cons_zero, List.set_cons_succ]
                    refine wpAnyH_take (i := 22) (oi := { dst := some 131, op := Go.Op.move (Go.Operand.tmp 9), type := 58, pos := "outright.go:76", after := #[{ on := 21, ground := Go.Ground.guard }], guard := some (21, false) }) (v := ?_) rfl (by kernel_rfl) (by kernel_rfl) (by kernel_rfl) (fun _ _ _ h => h) (Or.inl ⟨by rfl, ?_⟩) hHeld ?_
                    rotate_left
                    · (intro wq hSw; (try dsimp only at hSw); go_simp; try (with_reducible rfl))
                    try simp only [Act.put, List.setIfInBounds_toArray, List.set_cons_zero, List.set_cons_succ]
                    refine wpAnyH_take (i := 23) (oi := { dst := some 132, op := Go.Op.move (Go.Operand.tmp 11), type := 3, pos := "outright.go:76", after := #[{ on := 21, ground := Go.Ground.guard }], guard := some (21, false) }) (v := ?_) rfl (by kernel_rfl) (by kernel_rfl) (by kernel_rfl) (fun _ _ _ h => h) (Or.inl ⟨by rfl, ?_⟩) hHeld ?_
                    rotate_left
                    · (intro wq hSw; (try dsimp only at hSw); go_simp; try (with_reducible rfl))
                    try simp only [Act.put, List.setIfInBounds_toArray, List.set_cons_zero, List.set_cons_succ]
                    refine wpAnyH_take (i := 24) (oi := { dst := some 133, op := Go.Op.indexAddr 58 (Go.Operand.tmp 131) (Go.Operand.tmp 132), type := 0, pos := "outright.go:76", after := #[{ on := 22, ground := Go.Ground.data }, { on := 23, ground := Go.Ground.data }, { on := 21, ground := Go.Ground.guard }], guard := some (21, false) }) (v := ?_) rfl (by kernel_rfl) (by kernel_rfl) (by kernel_rfl) (fun _ _ _ h => h) (Or.inl ⟨by rfl, ?_⟩) hHeld ?_
                    rotate_left
                    · (intro wq hSw; (try dsimp only at hSw); go_simp; try (with_reducible rfl))
                    try simp only [Act.put, List.setIfInBounds_toArray, List.set_cons_zero, List.set_cons_succ]
                    refine wpAnyH_take (i := 25) (oi := { dst := some 134, op := Go.Op.fieldAddr 76 (Go.Operand.tmp 133) 4, type := 0, pos := "outright.go:76", after := #[{ on := 24, ground := Go.Ground.data }, { on := 21, ground := Go.Ground.guard }], guard := some (21, false) }) (v := ?_) rfl (by kernel_rfl) (by kernel_rfl) (by kernel_rfl) (fun _ _ _ h => h) (Or.inl ⟨by rfl, ?_⟩) hHeld ?_
                    rotate_left
                    · (intro wq hSw; (try dsimp only at hSw); go_simp; try (with_reducible rfl))
                    try simp only [Act.put, List.setIfInBounds_toArray, List.set_cons_zero, List.set_cons_succ]
                    refine wpAnyH_take (i := 26) (oi := { dst := some 135, op := Go.Op.load 9 (Go.Operand.tmp 134), type := 9, pos := "outright.go:76", after := #[{ on := 25, ground := Go.Ground.data }, { on := 21, ground := Go.Ground.guard }], guard := some (21, false) }) (v := ?_) rfl (by kernel_rfl) (by kernel_rfl) (by kernel_rfl) (fun _ _ _ h => h) (Or.inl ⟨by rfl, ?_⟩) hHeld ?_
                    rotate_left
                    · (intro wq hSw; (try dsimp only at hSw); go_simp; try (with_reducible rfl))
                    try simp only [Act.put, List.setIfInBounds_toArray, List.set_cons_zero, List.set_cons_succ]
                    refine wpAnyH_take (i := 27) (oi := { dst := some 136, op := Go.Op.fieldAddr 62 (Go.Operand.tmp 5) 3, type := 0, pos := "outright.go:76", after := #[{ on := 21, ground := Go.Ground.guard }], guard := some (21, false) }) (v := ?_) rfl (by kernel_rfl) (by kernel_rfl) (by kernel_rfl) (fun _ _ _ h => h) (Or.inl ⟨by rfl, ?_⟩) hHeld ?_
                    rotate_left
                    · (intro wq hSw; (try dsimp only at hSw); go_simp; try (with_reducible rfl))
                    try simp only [Act.put, List.setIfInBounds_toArray, List.set_cons_zero, List.set_cons_succ]
                    refine wpAnyH_take (i := 28) (oi := { dst := some 137, op := Go.Op.load 9 (Go.Operand.tmp 136), type := 9, pos := "outright.go:76", after := #[{ on := 27, ground := Go.Ground.data }, { on := 21, ground := Go.Ground.guard }], guard := some (21, false) }) (v := ?_) rfl (by kernel_rfl) (by kernel_rfl) (by kernel_rfl) (fun _ _ _ h => h) (Or.inl ⟨by rfl, ?_⟩) hHeld ?_
                    rotate_left
                    · (intro wq hSw; (try dsimp only at hSw); go_simp; try (with_reducible rfl))
                    try simp only [Act.put, List.setIfInBounds_toArray, List.set_cons_zero, List.set_cons_succ]
                    refine wpAnyH_take (i := 29) (oi := { dst := some 138, op := Go.Op.binOp Go.BinOp.lss 9 (Go.Operand.tmp 135) (Go.Operand.tmp 137) 9, type := 4, pos := "outright.go:76", after := #[{ on := 26, ground := Go.Ground.data }, { on := 28, ground := Go.Ground.data }, { on := 21, ground := Go.Ground.guard }], guard := some (21, false) }) (v := ?_) rfl (by kernel_rfl) (by kernel_rfl) (by kernel_rfl) (fun _ _ _ h => h) (Or.inl ⟨by rfl, ?_⟩) hHeld ?_
                    rotate_left
                    · (intro wq hSw; (try dsimp only at hSw); go_simp; try (with_reducible rfl))
                    try simp only [Act.put, List.setIfInBounds_toArray, List.set_cons_zero, List.set_cons_succ]
                    refine wpAnyH_take (i := 30) (oi := { dst := some 139, op := Go.Op.pick (Go.Operand.tmp 130) (Go.Operand.const (Go.Value.bool true)) (Go.Operand.tmp 138), type := 4, pos := "outright.go:76", after := #[{ on := 21, ground := Go.Ground.data }, { on := 29, ground := Go.Ground.data }, { on := 17, ground := Go.Ground.guard }], guard := some (17, true) }) (v := ?_) rfl (by kernel_rfl) (by kernel_rfl) (by kernel_rfl) (fun _ _ _ h => h) (Or.inl ⟨by rfl, ?_⟩) hHeld ?_
                    rotate_left
                    · (intro wq hSw; (try dsimp only at hSw); go_simp; try (with_reducible rfl))
                    try simp only [Act.put, List.setIfInBounds_toArray, List.set_cons_zero, List.set_cons_succ]
                    refine wpAnyH_take (i := 31) (oi := { dst := some 140, op := Go.Op.pick (Go.Operand.tmp 126) (Go.Operand.tmp 139) (Go.Operand.const (Go.Value.bool false)), type := 4, pos := "outright.go:76", after := #[{ on := 17, ground := Go.Ground.data }, { on := 30, ground := Go.Ground.data }], guard := none }) (v := ?_) rfl (by kernel_rfl) (by kernel_rfl) (by kernel_rfl) (fun _ _ _ h => h) (Or.inl ⟨by rfl, ?_⟩) hHeld ?_
                    rotate_left
                    · (intro wq hSw; (try dsimp only at hSw); go_simp; try (with_reducible rfl))
                    try simp only [Act.put, List.setIfInBounds_toArray, List.set_cons_zero, List.set_cons_succ]
                    refine wpAnyH_done (by kernel_rfl) ?_ _
                    go_wp2_with fail
                    go_meet
                    case rel => exact ⟨by first | rfl | simp, HB7⟩

              case rest =>
                obtain ⟨rfl, HBX⟩ := hcut
                rename World => Wx
                clear HST y0 y1 y2 y3 y4 y5
                go_wp2_with fail
                go_roundw
                case rel => exact ⟨k + 1, by omega, by go_num, HBR.out.trans (HBX.out.mono HBR.out.size)⟩
                case measure => simp [intOf]; omega
            · have hl' : ¬ (k : Int) < (N.length : Int) := by omega
              have HBW : Hid (RowKit.Below w.heap.size w wr) := HSR.out.2.b
              have HHT := HF.out.2.2
              clear HF HN H5
              by_cases hi0 : i = 0
              · obtain ⟨p1, p2, p3⟩ := HA.out.2.2.2.1.zer hi0
                have HST : Hid (∀ X, RowKit.Below wr.heap.size wr X → RowKit.Below wr.heap.size wr X ∧ X.cell? ⟨w.heap.size + 1, 1, none⟩ = some (.slice (some ⟨ub, uo, none⟩) j.up.length uc) ∧ X.cell? ⟨w.heap.size + 1, 3, none⟩ = some (.string ⟨#[]⟩) ∧ X.cell? ⟨w.heap.size + 1, 4, none⟩ = some (.bool false)) := fun X hX => ⟨hX, (hX.cell (p := ⟨w.heap.size + 1, 1, none⟩) HSR.out.2.jz.1).trans j1, (hX.cell (p := ⟨w.heap.size + 1, 3, none⟩) HSR.out.2.jz.1).trans (by rw [j3, p2]), (hX.cell (p := ⟨w.heap.size + 1, 4, none⟩) HSR.out.2.jz.1).trans (by rw [j4, p3])⟩
                have HTB : Hid (∀ X, RowKit.Below wr.heap.size wr X → Calls Tryz.prog 16 #[.pointer (some ⟨vb, 0, none⟩), .int .i64 0] X fun e w' => ∃ a cc, e = .returned (.slice a j.up.length cc) ∧ RowKit.Below wr.heap.size wr w') := fun X hX => (tables_any vb V 0 X ((HA.out.1.below HSR.out.2.b).below hX)).mono fun e w' ⟨s, he, ⟨G, hs, hG, hrow⟩, hb2⟩ => by
                  rw [he, hs, p1]
                  exact ⟨_, _, rfl, hX.trans (hb2.mono hX.size)⟩
                have j0' : wr.cell? ⟨w.heap.size + 1, 0, none⟩ = some (.int .i64 0) := by rw [j0, hi0]; rfl
                have i0 : (i : Int) = 0 := by omega
                rw [i0] at j0
                clear HSR j0' j1 j2 j3 j4 hlen1 hlen2 hup p1 p2 p3 hk
                go_wp2_with fail
                go_region_held3 (fun X => RowKit.Below wr.heap.size wr X ∧ X.cell? ⟨w.heap.size + 1, 1, none⟩ = some (.slice (some ⟨ub, uo, none⟩) j.up.length uc) ∧ X.cell? ⟨w.heap.size + 1, 3, none⟩ = some (.string ⟨#[]⟩) ∧ X.cell? ⟨w.heap.size + 1, 4, none⟩ = some (.bool false)) (first | assumption | exact HST.out _ (Below.refl _ _).drew | exact keepSF HST.out (by assumption) (by assumption))
                  (first
                  | (go_at_call 16; go_loud (refine (HTB.out _ (by first | exact (Below.refl _ _).drew | exact (And.left (by assumption)))).mono ?_; rintro e w9 ⟨a9, c9, rfl, hb9⟩; have HB9 := hidV hb9; have hS9 := HST.out _ hb9; clear hb9)))
                all_goals (
                  go_wp2_with fail
                  go_ret
                  exact ⟨by simp, HBW.out.trans (HB9.out.mono HBW.out.size)⟩)
              · obtain ⟨p1, p2, p3, p4⟩ := HA.out.2.2.2.1.pos hi0
                have i0 : ¬ (i : Int) = 0 := by omega
                have c8 : wr.cell? ⟨w.heap.size, 8, none⟩ = some (.int .i64 (V.length : Int)) := HSR.out.2.cf.cell 8 (by rw [← HA.out.2.1.lv]; rfl)
                have c12 : wr.cell? ⟨w.heap.size, 12, none⟩ = some (.int .i64 (c 12)) := HSR.out.2.cf.cell 12 rfl
                have h4 := HSR.out.2.hz.2.1 4 _ rfl
                have h5 := HSR.out.2.hz.2.1 5 _ rfl
                rw [p1] at j4
                have w3 : IntKind.i64.wrap ((i : Int) + 2) = (i : Int) + 2 := IntWalk.i64_in _ (by omega)
                have hfa := HA.out.2.1.fa.1
                have p3i : (j.up.length : Int) = 1 := by omega
                have l1 := leqS
                have l2 := gtrS
                clear HSR hk
                have HC : j.cut.toList = [] ∨ (¬ j.cut.toList = [] ∧ ltS hT.le j.cut = true ∧ ltS hT.gr j.cut = false ∧ (j.lo.length : Int) = c 12) := by
                  rcases p2 with e | ⟨e1, e2, e3⟩
                  · left; rw [e, ByteArray.toList_eq]
                  · right
                    rw [HHT] at e1 e2
                    refine ⟨fun e => ?_, e1, e2, e3⟩
                    rw [ByteArray.toList_eq] at e
                    have : j.cut = ⟨#[]⟩ := ba_ext (by rw [e])
                    rw [this] at e1
                    exact absurd e1 (by rw [ltS_nilR]; simp)
                clear p1 p2
                have HCU := hidV HC
                clear HC
                rcases Nat.eq_zero_or_pos j.lo.length with g1 | g1
                · have g1i : (j.lo.length : Int) = 0 := by omega
                  have d1 : decide (j.lo.length = 0) = true := by simp [g1]
                  rw [d1] at j4
                  by_cases g2 : i + 2 < V.length
                  · have g2i : (i : Int) + 2 < (V.length : Int) := by omega
                    have d2 : decide (i + 2 < V.length) = true := by simp [g2]
                    rw [d2] at j4
                    clear d1 d2
                    rcases HCU.out with g3 | ⟨g3, g4, g5, g6⟩
                    · go_wp2_with fail
                      go_ret
                      exact ⟨by first | (simp [p3i]; done) | (simp [p3i]; first | exact p4 | omega), HBW.out⟩
                    · exfalso; omega
                  · have g2i : ¬ (i : Int) + 2 < (V.length : Int) := by omega
                    have d2 : decide (i + 2 < V.length) = false := by simp [g2]
                    rw [d2] at j4
                    clear d1 d2
                    rcases HCU.out with g3 | ⟨g3, g4, g5, g6⟩
                    · go_wp2_with fail
                      go_ret
                      exact ⟨by first | (simp [p3i]; done) | (simp [p3i]; first | exact p4 | omega), HBW.out⟩
                    · exfalso; omega
                · have g1i : ¬ (j.lo.length : Int) = 0 := by omega
                  have g1l : ¬ j.lo = [] := fun e => by rw [e] at g1; exact absurd g1 (by decide)
                  have g1n : ¬ j.lo.length = 0 := by omega
                  have d1 : decide (j.lo.length = 0) = false := decide_eq_false (by omega)
                  rw [d1] at j4
                  clear d1
                  rcases HCU.out with g3 | ⟨g3, g4, g5, g6⟩
                  · go_wp2_with fail
                    go_ret
                    exact ⟨by first | (simp [p3i]; done) | (simp [p3i]; first | exact p4 | omega), HBW.out⟩
                  · rw [← g6] at c12
                    clear g6
                    go_wp2_with fail
                    go_ret
                    exact ⟨by simp [p3i], HBW.out⟩
end Vr
end Go.Proofs.YtaejjpbpnedblaaGreat
