import Derived.Test.YtaejjpbpnedblaaGreatWg
import Derived.OrdersHeld
import Derived.Deep.CutRange
import Derived.Deep.CutBlock
import Derived.Deep.DeepCutAuto
import Derived.Deep.RegionHeld3
import Derived.BigQuiet
import Derived.Test.YtaejjpbpnedblaaGreatFd
import Derived.Test.YtaejjpbpnedblaaGreatFi
namespace Go.Proofs.YtaejjpbpnedblaaGreat
namespace Vr
open Go.Shelf Go.RowKit Go.Lib Go.Sort Go.Maps Go.ChangeMaps Go.MapKept Laws Irw Crw
set_option linter.unusedVariables false
set_option linter.unusedSimpArgs false
set_option maxRecDepth 20000
/-! the document's picking -/
set_option maxHeartbeats 1000000 in
theorem rweight_any (a : Option Addr) (c : Nat) (l : List Tb) (w : World) (h : Ls kTb w (a, l.length, c) l) (hlen : l.length ≤ 1000000) (hw : WeOk l) : Calls Tryz.prog 71 #[.slice a l.length c] w fun e w' => e = .returned (.int .i64 (sumW l)) ∧ w' = w := by
  have HL : Hid (Ls kTb w (a, l.length, c) l ∧ WeOk l) := ⟨h, hw⟩
  clear h hw
  go_enter Tryz.func71, Tryz.ntmps71
  go_wp2
  go_loopw [3, 4] (fun b i wr => ∃ k : Nat, k ≤ l.length ∧ b = .int .i64 (sumW (l.take k)) ∧ i = .int .i64 (k : Int) ∧ wr = w) (fun _ i _ => l.length - (intOf i).toNat)
  case atStart => exact ⟨0, by omega, rfl, rfl, by first | trivial | rfl⟩
  case round =>
    obtain ⟨k, hk, rfl, rfl, rfl⟩ := hrel
    rename World => wr
    by_cases hlt : k < l.length
    · obtain ⟨b, off, rfl, hb, t, ht, c0, c1, c2, c3, c4, c5⟩ := HL.out.1.tb hlt
      have q1 : (k : Int) < (l.length : Int) := by omega
      have e1 := sumW_take ht
      have b1 := sumW_bound (l := l.take k) fun x hx => HL.out.2 x (List.mem_of_mem_take hx)
      have b2 := HL.out.2 t (List.mem_of_getElem? ht)
      have b3 : (l.take k).length ≤ 1000000 := by simp; omega
      have wr1 : IntKind.i64.wrap (sumW (l.take k) + t.we) = sumW (l.take k) + t.we := IntWalk.i64_in _ (by omega)
      clear ht
      go_wp2
      go_roundw
      case rel =>
        exact ⟨k + 1, by omega, by rw [e1], by go_num, by first | trivial | rfl⟩
      case measure => simp [intOf]; omega
    · have q1 : ¬ (k : Int) < (l.length : Int) := by omega
      have HK : Hid (k = l.length) := show k = l.length by omega
      go_wp2
      go_ret
      exact ⟨by simp [HK.out], by first | trivial | rfl⟩
set_option maxHeartbeats 4000000 in
theorem rover_any (a : Option Addr) (c : Nat) (l : List Tb) (f t : ByteArray) (w : World) (h : Ls kTb w (a, l.length, c) l) (hlen : l.length ≤ 1000000) : Calls Tryz.prog 72 #[.slice a l.length c, .string f, .string t] w fun e w' => OwIs kTb w (l.filter (over f t)) e w' := by
  obtain ⟨iz, hi, hz0, hz1, hz2⟩ := info_parts infoTb
  have HL : Hid (Ls kTb w (a, l.length, c) l) := h
  have hge := geqS
  have hle := leqS
  clear h
  go_enter Tryz.func72, Tryz.ntmps72
  go_wp2
  go_loopw [7, 8] (fun o i wr => ∃ (k : Nat) (s : Sv) (T : Nat → Nat), k ≤ l.length ∧ o = .slice s.1 s.2.1 s.2.2 ∧ i = .int .i64 (k : Int) ∧ Hid (Old w T wr ∧ OwnK kTb 1 T wr (svV s) ((l.take k).filter (over f t)))) (fun _ i _ => l.length - (intOf i).toNat)
  case atStart => exact ⟨0, nS, fun _ => 0, by omega, rfl, rfl, Old.first w, OwnK.empty _ _ _⟩
  case round =>
    obtain ⟨k, ⟨ra, rn, rc⟩, T, hk, rfl, rfl, HX⟩ := hrel
    simp only at *
    rename World => wr
    by_cases hlt : k < l.length
    · obtain ⟨b, off, rfl, hb, x, hx, c0, c1, c2, c3, c4, c5⟩ := (HL.out.below HX.out.1.below).tb hlt
      have q1 : (k : Int) < (l.length : Int) := by omega
      have hsl : ((l.take k).filter (over f t)).length ≤ 1000000 := by
        have := List.length_filter_le (over f t) (l.take k)
        rw [List.length_take] at this
        omega
      have HF : Hid ((l.take (k + 1)).filter (over f t) = (l.take k).filter (over f t) ++ (if over f t x then [x] else [])) := by
        show _ = _
        rw [List.take_add_one, hx, List.filter_append]
        cases ho : over f t x <;> simp [ho]
      clear hx
      cases o1 : ltS x.gr f with
      | true =>
        have ho : over f t x = false := by unfold over; rw [o1]; rfl
        rw [ho] at HF
        clear ho
        go_wp2
        go_roundw
        case rel =>
          refine ⟨k + 1, (ra, rn, rc), T, by omega, rfl, by go_num, HX.out.1, ?_⟩
          rw [HF.out]
          simpa using HX.out.2
        case measure => simp [intOf]; omega
      | false =>
        cases o2 : ltS t x.le with
        | true =>
          have ho : over f t x = false := by unfold over; rw [o1, o2]; rfl
          rw [ho] at HF
          clear ho
          go_wp2
          go_roundw
          case rel =>
            refine ⟨k + 1, (ra, rn, rc), T, by omega, rfl, by go_num, HX.out.1, ?_⟩
            rw [HF.out]
            simpa using HX.out.2
          case measure => simp [intOf]; omega
        | false =>
          have ho : over f t x = true := by unfold over; rw [o1, o2]; rfl
          rw [ho] at HF
          clear ho
          go_wp2_with (at_builtin; go_loud (refine wpList_appK kTb _ (by rfl) (.tmp 31) (.tmp 36) 58 (by rfl) iz Tryz.underlying58 hi hz0 hz1 hz2 1 T (.slice ra rn rc) ((l.take k).filter (over f t)) (by rfl) (HX.out.2.below ((Below.refl _ _).alloc (Nat.le_refl _) _)) (some ⟨wr.heap.size, 0, none⟩) 1 1 [x] (by rfl) rfl (by simp) (isK_new _ _) (by simp; omega) ?_; intro a' c' T' w3 ho3 hg3; have HY : Hid (OwnK kTb 1 T' w3 (.slice a' (((l.take k).filter (over f t)).length + 1) c') ((l.take k).filter (over f t) ++ [x]) ∧ Goes (· = 1) T wr T' w3) := ⟨ho3, (Goes.below (t := (· = 1)) ((Below.refl _ _).alloc (Nat.le_refl _) _)).trans hg3⟩; clear ho3 hg3; simp only [List.length_singleton]))
          go_roundw
          case rel =>
            refine ⟨k + 1, (a', _, c'), T', by omega, rfl, by go_num, HX.out.1.goes HY.out.2 (by decide), ?_⟩
            rw [HF.out, if_pos rfl]
            exact HY.out.1
          case measure => simp [intOf]; omega
    · have q1 : ¬ (k : Int) < (l.length : Int) := by omega
      have HK : Hid ((l.take k).filter (over f t) = l.filter (over f t)) := by show _ = _; rw [List.take_of_length_le (by omega)]
      go_wp2
      go_ret
      exact ⟨(ra, rn, rc), T, rfl, by rw [← HK.out]; exact HX.out.2, HX.out.1⟩
end Vr
end Go.Proofs.YtaejjpbpnedblaaGreat
namespace Go.Proofs.YtaejjpbpnedblaaGreat
namespace Vr
open Go.Shelf Go.RowKit Go.Lib Go.Sort Go.Maps Go.ChangeMaps Go.MapKept Laws Irw Crw
set_option linter.unusedVariables false
set_option linter.unusedSimpArgs false
set_option maxRecDepth 20000
/-- a level of a list of levels -/
theorem LsAt.get {w : World} {la : Option Addr} {n lc : Nat} {V : Lv} (h : LsAt w (la, n, lc) V) {i : Nat} (hi : i < V.length) : ∃ b off ua uc, la = some ⟨b, off, none⟩ ∧ b < w.heap.size ∧ w.cell? ⟨b, off + i, none⟩ = some (.slice ua (lev V (i : Int)).length uc) ∧ Ls kTb w (ua, (lev V (i : Int)).length, uc) (lev V (i : Int)) := by
  obtain ⟨h1, vs, h2, h3, h4⟩ := h
  obtain ⟨b, off, e, hr⟩ := h3.at_ (by omega)
  have hv : vs[i]? = some (vs[i]'(by omega)) := List.getElem?_eq_getElem (by omega)
  have hc := hr.2 i _ hv 0 _ rfl
  have hL := h4 i _ _ hv (List.getElem?_eq_getElem hi)
  obtain ⟨⟨ua, un, uc⟩, hx⟩ : ∃ x, vs[i]'(by omega) = x := ⟨_, rfl⟩
  rw [hx] at hc hL
  rw [show off + i * kS.size + 0 = off + i by show off + i * 1 + 0 = _; omega] at hc
  have hL2 : Ls kTb w (ua, un, uc) (lev V (i : Int)) := by rw [lev_in (List.getElem?_eq_getElem hi)]; exact hL
  have e2 : un = (lev V (i : Int)).length := hL2.2.1
  subst e2
  exact ⟨b, off, ua, uc, e, hr.1, hc, hL2⟩
theorem scs_get {c : Cf} {V : Lv} {k : Nat} (h : k < V.length - 1) : (scs c V)[k]? = some (scr c V k) := by
  unfold scs
  rw [List.getElem?_map, List.getElem?_range (by omega)]
  rfl
set_option maxHeartbeats 4000000 in
theorem rscores_any (c : Cf) (V : Lv) (la : Option Addr) (lc : Nat) (w : World) (h : LsAt w (la, V.length, lc) V) (hf : Fits V) (hw : WeV V) (hc : Cr c V.length) : Calls Tryz.prog 32 #[.agg (cfgA c), .slice la V.length lc] w fun e w' => OwIs kI w (scs c V) e w' := by
  obtain ⟨iz, hi, hz0, hz1, hz2⟩ := info_parts infoI
  have hn3 := hc.n3
  have hn5 := hc.n5
  obtain ⟨W, hW⟩ : ∃ X, w.alloc (Obj.cells (cfgA c) 23) = X := ⟨_, rfl⟩
  have HW : Hid (RowKit.Below w.heap.size w W ∧ Lc W w.heap.size c ∧ w.heap.size < W.heap.size) := by
    subst hW
    exact ⟨(Below.refl _ _).alloc (Nat.le_refl _) _, lc_new w c 23, by simp⟩
  have HV := hidV (And.intro h (And.intro hf (And.intro hw hc)))
  have htr := hc.tr
  have hlen0 := hf.len 0
  have l5 := HW.out.2.1.cell 5 rfl
  have l9 := HW.out.2.1.cell 9 rfl
  obtain ⟨b, off, ua, uc, rfl, hb, hc0, hL0⟩ := (HV.out.1.below HW.out.1).get (i := 0) (by omega)
  rw [Nat.add_zero] at hc0
  have hc0' : W.cell? ⟨b, off, none⟩ = some (.slice ua (lev V 0).length uc) := hc0
  have hV0 : (0 : Int) < (V.length : Int) := by omega
  have hs0 : scr c V 0 = 1000 * ((lev V 0).length : Int) / c 5 := by unfold scr; rw [if_pos rfl]
  have q2 : IntKind.i64.wrap (1000 * ((lev V 0).length : Int)) = 1000 * ((lev V 0).length : Int) := IntWalk.i64_in _ (by omega)
  have q3 : (1000 * ((lev V 0).length : Int)).tdiv (c 5) = scr c V 0 := by rw [hs0]; exact Int.tdiv_eq_ediv_of_nonneg (by omega)
  have q5 : 1000 * ((lev V 0).length : Int) / c 5 ≤ 1000 * ((lev V 0).length : Int) := Int.ediv_le_self _ (by omega)
  have q6 : 0 ≤ 1000 * ((lev V 0).length : Int) / c 5 := Int.ediv_nonneg (by omega) (by omega)
  have q4 : IntKind.i64.wrap (scr c V 0) = scr c V 0 := IntWalk.i64_in _ (by omega)
  have q7 : c 5 ≠ 0 := by omega
  have H0 : Hid ((scs c V).take 1 = [scr c V 0]) := by
    show _ = _
    rw [List.take_add_one, scs_get (by omega)]
    rfl
  have e0 : lim c 0 = c 9 := by simp [lim]
  have HE0 := hidV e0
  clear h hf hw hc hc0 hL0 hs0 q5 q6 e0
  go_enter Tryz.func32, Tryz.ntmps32
  go_upto_region 1 with fail
  (try rw [hW])
  clear hW
  go_cut [5] (fun v wx => v = .slice (some ⟨W.heap.size, 0, none⟩) 1 1 ∧ Hid (OwnK kI 1 (Irw.upd (fun _ => 0) W.heap.size 1) wx (.slice (some ⟨W.heap.size, 0, none⟩) 1 1) [scr c V 0] ∧ Old W (Irw.upd (fun _ => 0) W.heap.size 1) wx))
  case first =>
    go_region
    all_goals (
      (try go_wp2_with fail)
      go_meet
      case rel => exact ⟨by first | rfl | simp, ⟨(own_one W (scr c V 0)).1.below (Below.refl _ _).drew, ⟨(own_one W (scr c V 0)).2.below.drew, fun b hb => (own_one W (scr c V 0)).2.zero b hb⟩⟩⟩)
  case rest =>
    obtain ⟨rfl, HO⟩ := hcut
    rename World => w1
    have l9 := (HW.out.2.1.keep HW.out.2.2 HO.out.2.below).cell 9 rfl
    clear l5 hc0' q2 q3 q4 q7 hV0 htr hlen0
    go_wp2_with fail
    go_loopw [5, 6, 7] (fun o m i wr => ∃ (k : Nat) (s : Sv) (T : Nat → Nat), 1 ≤ k ∧ k ≤ V.length - 1 ∧ o = .slice s.1 s.2.1 s.2.2 ∧ m = .int .i64 (lim c (k - 1)) ∧ i = .int .i64 (k : Int) ∧ Hid (Old W T wr ∧ OwnK kI 1 T wr (svV s) ((scs c V).take k))) (fun _ _ i _ => V.length - (intOf i).toNat)
    case atStart => exact ⟨1, (some ⟨W.heap.size, 0, none⟩, 1, 1), _, by omega, by omega, rfl, by rw [HE0.out], rfl, HO.out.2, by rw [H0.out]; exact HO.out.1⟩
    case round =>
      obtain ⟨k, ⟨ra, rn, rc⟩, T, hk1, hk, rfl, rfl, rfl, HX⟩ := hrel
      simp only at *
      rename World => wr
      have hLr := HW.out.2.1.keep HW.out.2.2 HX.out.1.below
      have l8 : wr.cell? ⟨w.heap.size, 8, none⟩ = some (.int .i64 (V.length : Int)) := hLr.cell 8 (by rw [← HV.out.2.2.2.lv]; rfl)
      have l10 := hLr.cell 10 rfl
      have w1 : IntKind.i64.wrap ((V.length : Int) - 1) = (V.length : Int) - 1 := IntWalk.i64_in _ (by omega)
      by_cases hlt : k < V.length - 1
      · have q1 : (k : Int) < (V.length : Int) - 1 := by omega
        have qV : (k : Int) < (V.length : Int) := by omega
        have hbr : Hid (RowKit.Below w.heap.size w wr) := HW.out.1.trans (HX.out.1.below.mono HW.out.1.size)
        obtain ⟨b2, off2, ua2, uc2, e2, hb2, hck, hLk⟩ := (HV.out.1.below hbr.out).get (i := k) (by omega)
        simp only [Option.some.injEq, Addr.mk.injEq] at e2
        obtain ⟨rfl, rfl, _⟩ := e2
        have hlenk := HV.out.2.1.len (k : Int)
        have hsw := sumW_bound (HV.out.2.2.1.lev (k : Int))
        have hlb := lim_bound HV.out.2.2.2 (k - 1) (by omega)
        have hlb2 := lim_bound HV.out.2.2.2 k (by omega)
        have hls : lim c k = lim c (k - 1) * c 10 := by
          have := lim_succ c (k - 1)
          rwa [show k - 1 + 1 = k by omega] at this
        have HRW : Hid (Calls Tryz.prog 71 #[.slice ua2 (lev V (k : Int)).length uc2] wr fun e w' => e = .returned (.int .i64 (sumW (lev V (k : Int)))) ∧ w' = wr) := rweight_any ua2 uc2 _ wr hLk (by omega) (HV.out.2.2.1.lev _)
        obtain ⟨sw, hsw'⟩ : ∃ sw, sumW (lev V (k : Int)) = sw := ⟨_, rfl⟩
        obtain ⟨lm, hlm⟩ : ∃ lm, lim c (k - 1) = lm := ⟨_, rfl⟩
        rw [hsw'] at HRW hsw
        rw [hlm] at hlb hls
        have hsk : scr c V k = 1000 * sw / lm := by unfold scr; rw [if_neg (by omega), hsw', hlm]
        have q2 : IntKind.i64.wrap (1000 * sw) = 1000 * sw := IntWalk.i64_in _ (by omega)
        have q3 : (1000 * sw).tdiv lm = scr c V k := by rw [hsk]; exact Int.tdiv_eq_ediv_of_nonneg (by omega)
        have q5 : 1000 * sw / lm ≤ 1000 * sw := Int.ediv_le_self _ (by omega)
        have q6 : 0 ≤ 1000 * sw / lm := Int.ediv_nonneg (by omega) (by omega)
        have q4 : IntKind.i64.wrap (scr c V k) = scr c V k := IntWalk.i64_in _ (by omega)
        have q7 : lm ≠ 0 := by omega
        have q8 : IntKind.i64.wrap (lm * c 10) = lim c k := by rw [← hls]; exact IntWalk.i64_in _ (by omega)
        have hsl : ((scs c V).take k).length = k := by rw [List.length_take, scs_len]; omega
        have HF : Hid ((scs c V).take (k + 1) = (scs c V).take k ++ [scr c V k]) := by
          show _ = _
          rw [List.take_add_one, scs_get hlt]; rfl
        clear hLk hlenk hsw hlb hlb2 hls hsw' hsk q5 q6 hsl
        try rw [hlm]
        clear hlm
        have hsl : ((scs c V).take k).length ≤ 10 := by rw [List.length_take, scs_len]; omega
        go_wp2_with (first
          | (go_at_call 71; go_loud (refine HRW.out.mono ?_; rintro e w2 ⟨rfl, hw2⟩; have hw2' := hw2.symm; clear hw2; subst hw2'))
          | (at_builtin; go_loud (refine wpList_appK kI _ (by rfl) (.tmp 26) (.tmp 35) 35 (by rfl) iz Tryz.underlying35 hi hz0 hz1 hz2 1 T (.slice ra rn rc) ((scs c V).take k) (by rfl) (HX.out.2.below ((Below.refl _ _).alloc (Nat.le_refl _) _)) (some ⟨wr.heap.size, 0, none⟩) 1 1 [scr c V k] (by rfl) rfl (by simp) (isK_int _ _) (by simp; omega) ?_; intro a' c' T' w3 ho3 hg3; have HY : Hid (OwnK kI 1 T' w3 (.slice a' (((scs c V).take k).length + 1) c') ((scs c V).take k ++ [scr c V k]) ∧ Goes (· = 1) T wr T' w3) := ⟨ho3, (Goes.below (t := (· = 1)) ((Below.refl _ _).alloc (Nat.le_refl _) _)).trans hg3⟩; have HO3 := hidV (HX.out.1.goes HY.out.2 (by decide)); have m10 := (HW.out.2.1.keep HW.out.2.2 HO3.out.below).cell 10 rfl; clear ho3 hg3; simp only [List.length_singleton])))
        go_roundw
        case rel =>
          refine ⟨k + 1, (a', _, c'), T', by omega, by omega, rfl, by first | rfl | (rw [Nat.add_sub_cancel]), by go_num, HO3.out, ?_⟩
          have h3 := HY.out.1
          rw [HF.out]
          rw [List.length_take] at h3
          exact h3
        case measure => simp [intOf]; omega
      · have q1 : ¬ (k : Int) < (V.length : Int) - 1 := by omega
        have HK : Hid ((scs c V).take k = scs c V) := by show _ = _; exact List.take_of_length_le (by rw [scs_len]; omega)
        go_wp2
        go_ret
        exact ⟨(ra, rn, rc), T, rfl, by rw [← HK.out]; exact HX.out.2, old_back HW.out.1 HX.out.1⟩
end Vr
end Go.Proofs.YtaejjpbpnedblaaGreat
namespace Go.Proofs.YtaejjpbpnedblaaGreat
namespace Vr
open Go.Shelf Go.RowKit Go.Lib Go.Sort Go.Maps Go.ChangeMaps Go.MapKept Laws Irw Crw
set_option linter.unusedVariables false
set_option linter.unusedSimpArgs false
set_option maxRecDepth 20000
/-- within the document's Inputs: its job in a box -/
structure RiS (w : World) (c : Cf) (j : Jb) (us ls : Sv) (W : World) : Prop where
  b : RowKit.Below w.heap.size w W
  cf : Lc W w.heap.size c
  r : Zb W (w.heap.size + 1) (jbC 0 nS nS ⟨#[]⟩ false)
  z : Zb W (w.heap.size + 2) (jbC j.lv us ls j.cut j.mv)
  ja : JAt W us ls j
  fu : ∀ b off, us.1 = some ⟨b, off, none⟩ → w.heap.size + 3 ≤ b
  fl : ∀ b off, ls.1 = some ⟨b, off, none⟩ → w.heap.size + 3 ≤ b
theorem RiS.sz {w : World} {c : Cf} {j : Jb} {us ls : Sv} {W : World} (h : RiS w c j us ls W) : w.heap.size + 3 ≤ W.heap.size := by have := h.z.1; omega
theorem RiS.below {w : World} {c : Cf} {j : Jb} {us ls : Sv} {W W' : World} (h : RiS w c j us ls W) (hb : RowKit.Below W.heap.size W W') : RiS w c j us ls W' :=
  ⟨h.b.trans (hb.mono h.b.size), h.cf.keep (by have := h.sz; omega) hb, h.r.below hb, h.z.below hb, h.ja.below hb, h.fu, h.fl⟩
theorem JAt.other {w w' : World} {us ls : Sv} {j : Jb} (h : JAt w us ls j) {B : Nat} (hk : ∀ b, b ≠ B → w'.heap[b]? = w.heap[b]?) (hs : w.heap.size ≤ w'.heap.size) (hu : ∀ b off, us.1 = some ⟨b, off, none⟩ → b ≠ B) (hl : ∀ b off, ls.1 = some ⟨b, off, none⟩ → b ≠ B) : JAt w' us ls j :=
  ⟨h.1.keep (fun b off e _ => hk b (hu b off e)) hs, h.2.keep (fun b off e _ => hk b (hl b off e)) hs⟩
theorem RiS.set {w : World} {c : Cf} {j j' : Jb} {us ls us' ls' : Sv} {W : World} (h : RiS w c j us ls W) (k : Nat) (v : Value) (hz : (jbC j.lv us ls j.cut j.mv).set k v = jbC j'.lv us' ls' j'.cut j'.mv) (ja : JAt W us' ls' j') (fu : ∀ b off, us'.1 = some ⟨b, off, none⟩ → w.heap.size + 3 ≤ b) (fl : ∀ b off, ls'.1 = some ⟨b, off, none⟩ → w.heap.size + 3 ≤ b) : RiS w c j' us' ls' (W.setCell ⟨w.heap.size + 2, k, none⟩ v) := by
  have hk : ∀ b, b ≠ w.heap.size + 2 → (W.setCell ⟨w.heap.size + 2, k, none⟩ v).heap[b]? = W.heap[b]? := fun b hb => Below.heap_setCell W _ v b (fun e => hb e)
  refine ⟨h.b.setCell (p := ⟨w.heap.size + 2, k, none⟩) (by show w.heap.size ≤ w.heap.size + 2; omega) v, ?_, h.r.other (w' := W) k v (by omega), ?_, ja.other (B := w.heap.size + 2) hk (by simp) (fun b off e => by have := fu b off e; omega) (fun b off e => by have := fl b off e; omega), fu, fl⟩
  · intro q u hq
    exact (World.cell?_of_block (a := ⟨w.heap.size, 0 + q, none⟩) (hk _ (by show w.heap.size ≠ _; omega))).trans (h.cf q u hq)
  · rw [← hz]
    exact h.z.set k v
theorem RiS.fin {w : World} {c : Cf} {j : Jb} {us ls : Sv} {W : World} (h : RiS w c j us ls W) : Zb (sets W (w.heap.size + 1) 0 (jbC j.lv us ls j.cut j.mv)) (w.heap.size + 1) (jbC j.lv us ls j.cut j.mv) ∧ JAt (sets W (w.heap.size + 1) 0 (jbC j.lv us ls j.cut j.mv)) us ls j ∧ RowKit.Below w.heap.size w (sets W (w.heap.size + 1) 0 (jbC j.lv us ls j.cut j.mv)) :=
  ⟨h.r.sets (by simp [jbC]), h.ja.other (B := w.heap.size + 1) (fun b hb => sets_block W _ b hb _ 0) (by rw [sets_size]; exact Nat.le_refl _) (fun b off e => by have := h.fu b off e; omega) (fun b off e => by have := h.fl b off e; omega), sets_below _ (by omega) _ 0 h.b⟩
theorem Goes.bel {T T' : Nat → Nat} {w w' : World} {t : Nat} (h : Goes (· = t) T w T' w') (hz : ∀ b, b < w.heap.size → T b ≠ t) : RowKit.Below w.heap.size w w' := ⟨h.os, h.tape, h.output, h.size, fun b hb => h.block b hb (hz b hb)⟩
theorem OwnK.fresh {α : Type} {K : Knd α} {T T' : Nat → Nat} {w w' : World} {t : Nat} {s : Sv} {l : List α} (h : OwnK K t T' w' (svV s) l) (hg : Goes (· = t) T w T' w') (hz : ∀ b, T b ≠ t) : ∀ b off, s.1 = some ⟨b, off, none⟩ → w.heap.size ≤ b := fun b off e => by
  have h1 := ((OwnK.sk h).2.2.2.2.2 b off e).1
  rcases Nat.lt_or_ge b w.heap.size with hb | hb
  · have := hg.tag b hb (hz b)
    exact absurd (this.symm.trans h1) (hz b)
  · exact hb
theorem OwIs.fresh {α : Type} {K : Knd α} {T : Nat → Nat} {w w' : World} {s : Sv} {l : List α} (h : OwnK K 1 T w' (svV s) l) (ho : Old w T w') : ∀ b off, s.1 = some ⟨b, off, none⟩ → w.heap.size ≤ b := fun b off e => by
  have h1 := ((OwnK.sk h).2.2.2.2.2 b off e).1
  rcases Nat.lt_or_ge b w.heap.size with hb | hb
  · have := ho.zero b (.inl hb)
    omega
  · exact hb
theorem beh_at {l : List Tb} {p : ByteArray} {k : Nat} {t : Tb} (hk : l[k]? = some t) (h1 : ltS p t.le = true) (h0 : ∀ (j : Nat) x, j < k → l[j]? = some x → ltS p x.le = false) : beh l p = k := by
  unfold beh
  have : (l.findIdx? fun t => ltS p t.le) = some k := by
    rw [List.findIdx?_eq_some_iff_getElem]
    obtain ⟨hl, e⟩ := List.getElem?_eq_some_iff.1 hk
    refine ⟨hl, by rw [e]; exact h1, fun j hj => ?_⟩
    have := h0 j _ hj (List.getElem?_eq_getElem (by omega))
    rw [this]
    decide
  rw [this]
  rfl
theorem beh_end {l : List Tb} {p : ByteArray} (h0 : ∀ (j : Nat) x, l[j]? = some x → ltS p x.le = false) : beh l p = 0 := by
  unfold beh
  have : (l.findIdx? fun t => ltS p t.le) = none := by
    rw [List.findIdx?_eq_none_iff]
    intro x hx
    obtain ⟨j, hj⟩ := List.getElem?_of_mem hx
    exact h0 j x hj
  rw [this]
  rfl
/-- what Inputs tells, of any level -/
def InV (f : Nat) (V : Lv) (ps : List ByteArray) (at_ : Int) : Jb × Bool := if 0 ≤ at_ ∧ at_ + 1 < V.length ∧ 0 < (lev V at_).length then (jobL f V ps at_.toNat, true) else (noJ, false)
set_option maxHeartbeats 2000000 in
theorem rinputs0_any (c : Cf) (V : Lv) (la : Option Addr) (lc : Nat) (pv : Value) (at_ : Int) (w : World) (h : LsAt w (la, V.length, lc) V) (hc : Cr c V.length) (hno : ¬ (0 ≤ at_ ∧ at_ + 1 < V.length ∧ 0 < (lev V at_).length)) :
    Calls Tryz.prog 34 #[.agg (cfgA c), .slice la V.length lc, pv, .int .i64 at_] w fun e w' => e = .returned (.tuple #[jbV 0 nS nS ⟨#[]⟩ false, .bool false]) ∧ RowKit.Below w.heap.size w w' := by
  have hn5 := hc.n5
  have hn3 := hc.n3
  obtain ⟨W, hW⟩ : ∃ X, (w.alloc (Obj.cells (cfgA c) 23)).alloc (Obj.cells #[.int .i64 0, .slice none 0 0, .slice none 0 0, .string ⟨#[]⟩, .bool false] 62) = X := ⟨_, rfl⟩
  have HW : Hid (RowKit.Below w.heap.size w W ∧ Lc W w.heap.size c ∧ Zb W (w.heap.size + 1) (jbC 0 nS nS ⟨#[]⟩ false) ∧ w.heap.size + 1 < W.heap.size) := by
    subst hW
    exact ⟨((Below.refl _ _).alloc (Nat.le_refl _) _).alloc (by simp) _, (lc_new w c 23).keep (by simp) ((Below.refl _ _).alloc (Nat.le_refl _) _), Zb.new2 w _ _ _, by simp⟩
  have r0 := HW.out.2.2.1.2.1 0 _ rfl
  have r1 := HW.out.2.2.1.2.1 1 _ rfl
  have r2 := HW.out.2.2.1.2.1 2 _ rfl
  have r3 := HW.out.2.2.1.2.1 3 _ rfl
  have r4 := HW.out.2.2.1.2.1 4 _ rfl
  have s0 := HW.out.2.2.1.2.2
  have l8 : W.cell? ⟨w.heap.size, 8, none⟩ = some (.int .i64 (V.length : Int)) := HW.out.2.1.cell 8 (by rw [← hc.lv]; rfl)
  have w1 : IntKind.i64.wrap ((V.length : Int) - 1) = (V.length : Int) - 1 := IntWalk.i64_in _ (by omega)
  have hz : Zb (sets W (w.heap.size + 1) 0 (jbC 0 nS nS ⟨#[]⟩ false)) (w.heap.size + 1) (jbC 0 nS nS ⟨#[]⟩ false) := HW.out.2.2.1.sets (by simp [jbC])
  have hbb := sets_below (w0 := w) (w := W) (w.heap.size + 1) (by omega) (jbC 0 nS nS ⟨#[]⟩ false) 0 HW.out.1
  have HE := hidV (And.intro hz hbb)
  have HL := hidV h
  have HC := hidV hc
  have HNO := hidV hno
  clear h hc hno hz hbb
  go_enter Tryz.func34, Tryz.ntmps34
  go_upto_region 1 with fail
  (try rw [hW])
  clear hW
  by_cases h1 : at_ < 0
  · go_wp2
    exact bodyPost_ret (res_jb2 rfl _ _ (w.heap.size + 1) 0 nS nS ⟨#[]⟩ false rfl HE.out.1) rfl ⟨rfl, HE.out.2⟩
  · by_cases h2 : at_ ≥ (V.length : Int) - 1
    · go_wp2
      exact bodyPost_ret (res_jb2 rfl _ _ (w.heap.size + 1) 0 nS nS ⟨#[]⟩ false rfl HE.out.1) rfl ⟨rfl, HE.out.2⟩
    · obtain ⟨i, rfl⟩ : ∃ i : Nat, at_ = i := ⟨at_.toNat, by omega⟩
      have hi : i < V.length := by omega
      have hiV : (i : Int) < (V.length : Int) := by omega
      obtain ⟨b, off, ua, uc, rfl, hb, hci, hLi⟩ := (HL.out.below HW.out.1).get hi
      have hl0 : (lev V (i : Int)).length = 0 := by
        have := HNO.out
        omega
      rw [hl0] at hci
      go_wp2
      exact bodyPost_ret (res_jb2 rfl _ _ (w.heap.size + 1) 0 nS nS ⟨#[]⟩ false rfl HE.out.1) rfl ⟨rfl, HE.out.2⟩
end Vr
end Go.Proofs.YtaejjpbpnedblaaGreat
namespace Go.Proofs.YtaejjpbpnedblaaGreat
namespace Vr
open Go.Shelf Go.RowKit Go.Lib Go.Sort Go.Maps Go.ChangeMaps Go.MapKept Laws Irw Crw
set_option linter.unusedVariables false
set_option linter.unusedSimpArgs false
set_option maxRecDepth 20000
set_option maxHeartbeats 4000000 in
theorem rinputsZ_any (c : Cf) (V : Lv) (la : Option Addr) (lc : Nat) (pv : Value) (w : World) (h : LsAt w (la, V.length, lc) V) (hf : Fits V) (hc : Cr c V.length) (hpos : 0 < (lev V 0).length) :
    Calls Tryz.prog 34 #[.agg (cfgA c), .slice la V.length lc, pv, .int .i64 0] w fun e w' => JnIs w (whl V (lev V 0)) true e w' := by
  obtain ⟨iz, hi, hz0, hz1, hz2⟩ := info_parts infoTb
  have hpp : True := trivial
  have hps : True := trivial
  have hn5 := hc.n5
  have hn3 := hc.n3
  obtain ⟨W, hW⟩ : ∃ X, (w.alloc (Obj.cells (cfgA c) 23)).alloc (Obj.cells #[.int .i64 0, .slice none 0 0, .slice none 0 0, .string ⟨#[]⟩, .bool false] 62) = X := ⟨_, rfl⟩
  have HW : Hid (RowKit.Below w.heap.size w W ∧ Lc W w.heap.size c ∧ Zb W (w.heap.size + 1) (jbC 0 nS nS ⟨#[]⟩ false) ∧ W.heap.size = w.heap.size + 2) := by
    subst hW
    exact ⟨((Below.refl _ _).alloc (Nat.le_refl _) _).alloc (by simp) _, (lc_new w c 23).keep (by simp) ((Below.refl _ _).alloc (Nat.le_refl _) _), Zb.new2 w _ _ _, by simp⟩
  have l8 : W.cell? ⟨w.heap.size, 8, none⟩ = some (.int .i64 (V.length : Int)) := HW.out.2.1.cell 8 (by rw [← hc.lv]; rfl)
  have w1 : IntKind.i64.wrap ((V.length : Int) - 1) = (V.length : Int) - 1 := IntWalk.i64_in _ (by omega)
  have hiV : (0 : Int) < (V.length : Int) := by omega
  have hiG : ¬ (0 : Int) ≥ (V.length : Int) - 1 := by omega
  obtain ⟨b, off, ua, uc, rfl, hb, hci, hLi⟩ := (h.below HW.out.1).get (i := 0) (by omega)
  have hli := hf.len 0
  have HA := hidV (And.intro h (And.intro hf (And.intro hc (And.intro hLi (And.intro hpp hps)))))
  obtain ⟨l, hl⟩ : ∃ l, lev V 0 = l := ⟨_, rfl⟩
  rw [Nat.add_zero] at hci
  change W.cell? ⟨b, off, none⟩ = some (.slice ua (lev V 0).length uc) at hci
  change Ls kTb W (ua, (lev V 0).length, uc) (lev V 0) at hLi
  rw [hl] at hci hli hpos
  have HLL : Hid (lev V 0 = l ∧ Ls kTb W (ua, l.length, uc) l) := ⟨hl, by rw [← hl]; exact hLi⟩
  have hl0 : ¬ (l.length : Int) = 0 := by omega
  have hl1 : ¬ l.length = 0 := by omega
  clear h hf hc hLi hl hpp hps
  go_enter Tryz.func34, Tryz.ntmps34
  go_upto_region 1 with fail
  (try rw [hW])
  clear hW
  go_upto_region 5 with fail
  obtain ⟨X, hX⟩ : ∃ X, W.alloc (Obj.cells #[.int .i64 0, .slice none 0 0, .slice none 0 0, .string ⟨#[]⟩, .bool false] 62) = X := ⟨_, rfl⟩
  have HX : Hid (RiS w c ⟨0, [], [], ⟨#[]⟩, false⟩ nS nS X ∧ RowKit.Below W.heap.size W X) := by
    subst hX
    have hb1 : RowKit.Below W.heap.size W (W.alloc (Obj.cells #[.int .i64 0, .slice none 0 0, .slice none 0 0, .string ⟨#[]⟩, .bool false] 62)) := (Below.refl _ _).alloc (Nat.le_refl _) _
    have hz := Zb.new W #[.int .i64 0, .slice none 0 0, .slice none 0 0, .string ⟨#[]⟩, .bool false] 62
    rw [HW.out.2.2.2] at hz
    exact ⟨⟨HW.out.1.trans (hb1.mono HW.out.1.size), HW.out.2.1.keep (by rw [HW.out.2.2.2]; omega) hb1, HW.out.2.2.1.below hb1, hz, ⟨Ls.nil _, Ls.nil _⟩, fun b off e => (by cases e), fun b off e => (by cases e)⟩, hb1⟩
  rw [hX, HW.out.2.2.2]
  clear hX l8 hci hiG
  obtain ⟨tb, to_, rfl, htb, t, ht, y0, y1, y2, y3, y4, y5⟩ := (HLL.out.2.below HX.out.2).tb hpos
  have q0 : (0 : Int) < (l.length : Int) := by omega
  have e0 : l.getD 0 noT = t := by rw [List.getD, ht]; rfl
  obtain ⟨xl, hxl⟩ : ∃ x, t.le = x := ⟨_, rfl⟩
  obtain ⟨xg, hxg⟩ : ∃ x, t.gr = x := ⟨_, rfl⟩
  have HE : Hid (hLe l = l.foldl (fun a t => minS a t.le) xl ∧ hGr l = l.foldl (fun a t => maxS a t.gr) xg) := by
    constructor
    · unfold hLe; rw [e0, hxl]
    · unfold hGr; rw [e0, hxg]
  rw [hxl] at y4
  rw [hxg] at y5
  rw [Nat.zero_mul] at y0 y1 y2 y3 y4 y5
  clear ht e0 hxl hxg
  go_wp2
  go_quiet (fail)
  go_wp2
  go_loopw [12, 13, 14] (fun x y i wr => ∃ k : Nat, k ≤ l.length ∧ x = .string ((l.take k).foldl (fun a t => minS a t.le) xl) ∧ y = .string ((l.take k).foldl (fun a t => maxS a t.gr) xg) ∧ i = .int .i64 (k : Int) ∧ Hid (RowKit.Below X.heap.size X wr)) (fun _ _ i _ => l.length - (intOf i).toNat)
  case atStart => exact ⟨0, Nat.zero_le _, rfl, rfl, rfl, bl_dn (Below.refl _ _) _⟩
  case round =>
    clear y0 y1 y2 y3 y4 y5
    obtain ⟨k, hk, rfl, rfl, rfl, HB⟩ := hrel
    rename World => wr
    obtain ⟨fx, hfx⟩ : ∃ z, (l.take k).foldl (fun a t => minS a t.le) xl = z := ⟨_, rfl⟩
    obtain ⟨fy, hfy⟩ : ∃ z, (l.take k).foldl (fun a t => maxS a t.gr) xg = z := ⟨_, rfl⟩
    rw [hfx, hfy]
    by_cases hlt : k < l.length
    · obtain ⟨b', off', e', hb', u, hu, z0, z1, z2, z3, z4, z5⟩ := ((HLL.out.2.below HX.out.2).below HB.out).tb hlt
      cases e'
      have q1 : (k : Int) < (l.length : Int) := by omega
      have HF : Hid ((l.take (k + 1)).foldl (fun a t => minS a t.le) xl = minS fx u.le ∧ (l.take (k + 1)).foldl (fun a t => maxS a t.gr) xg = maxS fy u.gr) := by
        rw [List.take_add_one, hu]
        refine ⟨?_, ?_⟩ <;> simp only [Option.toList_some, List.foldl_append, List.foldl_cons, List.foldl_nil, hfx, hfy]
      have l1 := run_minS
      have l2 := run_maxS
      clear hfx hfy hu
      go_wp2
      go_region
      all_goals
        go_wp2
        go_roundw
        case rel => exact ⟨k + 1, by omega, by rw [HF.out.1], by rw [HF.out.2], by go_num, HB.out.drew⟩
        case measure => simp [intOf]; omega
    · have q1 : ¬ (k : Int) < (l.length : Int) := by omega
      have HK : Hid (hLe l = fx ∧ hGr l = fy) := by
        have : k = l.length := by omega
        subst this
        rw [List.take_length] at hfx hfy
        exact ⟨HE.out.1.trans hfx, HE.out.2.trans hfy⟩
      clear hfx hfy
      have HR := hidV (HX.out.1.below HB.out)
      have a1 := HR.out.z.2.1 1 _ rfl
      have hLr := hidV ((HLL.out.2.below HX.out.2).below HB.out)
      go_upto_region 12 with (at_builtin; go_loud (refine wpList_appK kTb _ (by rfl) (.tmp 72) (.tmp 73) 58 (by rfl) iz Tryz.underlying58 hi hz0 hz1 hz2 1 (fun _ => 0) (.slice none 0 0) [] (by rfl) (OwnK.empty _ _ _) (some ⟨tb, to_, none⟩) l.length uc l (by rfl) rfl (by simp) hLr.out.1 (by simp; omega) ?_; intro a' c' T' w3 ho3 hg3; have HY : Hid (OwnK kTb 1 T' w3 (.slice a' l.length c') l ∧ Goes (· = 1) (fun _ => 0) wr T' w3) := ⟨by simpa using ho3, hg3⟩; have HR3 := hidV (HR.out.below (Goes.bel HY.out.2 (fun _ _ => by decide))); have a1' := HR3.out.z.2.1 1 _ rfl; have f1' := HR3.out.z.2.2 1; clear ho3 hg3; simp only [List.length_nil, Nat.zero_add]))
      clear a1
      obtain ⟨X2, hX2⟩ : ∃ X2, w3.setCell ⟨w.heap.size + 2, 1, none⟩ (.slice a' l.length c') = X2 := ⟨_, rfl⟩
      have HR4 : Hid (RiS w c ⟨0, l, [], ⟨#[]⟩, false⟩ (a', l.length, c') nS X2) := by
        subst hX2
        have hls : Ls kTb w3 (a', l.length, c') l := Ls.own HY.out.1
        have hfr := OwnK.fresh (s := (a', l.length, c')) HY.out.1 HY.out.2 (fun _ => by decide)
        have hsz := HR.out.sz
        exact HR3.out.set 1 _ rfl ⟨hls, Ls.nil _⟩ (fun b off e => by have := hfr b off e; omega) (fun b off e => (by cases e))
      rw [hX2]
      clear hX2 HY HR3 a1' f1' HR hLr HB hb
      obtain ⟨b1, off1, va, vc, e1, hb1, hc1, hL1⟩ := (HA.out.1.below HR4.out.b).get (i := 1) (by omega)
      simp only [Option.some.injEq, Addr.mk.injEq] at e1
      obtain ⟨rfl, rfl, _⟩ := e1
      have hl1' := HA.out.2.1.len ((1 : Nat) : Int)
      obtain ⟨L1, hL1e⟩ : ∃ L, lev V ((1 : Nat) : Int) = L := ⟨_, rfl⟩
      have hL1f : lev V 1 = L1 := hL1e
      rw [hL1e] at hc1 hL1 hl1'
      have h1V : (1 : Int) < (V.length : Int) := by omega
      have HOV : Hid (Calls Tryz.prog 72 #[.slice va L1.length vc, .string fx, .string fy] X2 fun e w' => OwIs kTb X2 (L1.filter (over fx fy)) e w') := rover_any va vc L1 fx fy X2 hL1 hl1'
      obtain ⟨lo, hlo⟩ : ∃ lo, L1.filter (over fx fy) = lo := ⟨_, rfl⟩
      rw [hlo] at HOV
      have HJ : Hid (whl V (lev V 0) = ⟨0, l, lo, ⟨#[]⟩, false⟩) := by
        show _ = _
        have hl0' : lev V 0 = l := HLL.out.1
        unfold whl
        rw [hl0', hL1f, HK.out.1, HK.out.2, hlo]
      clear hL1 hl1' hL1e hL1f hlo hb1 hli
      go_upto_region 13 with (go_at_call 72; go_loud (refine HOV.out.mono ?_; rintro e w4 ⟨⟨sa, sn, sc⟩, T, rfl, ho, hold⟩; have HO := hidV (And.intro ho hold); have HR5 := hidV (HR4.out.below hold.below); have a2 := HR5.out.z.2.1 2 _ rfl; have f2 := HR5.out.z.2.2 2; clear ho hold; simp only [svV]))
      obtain ⟨X3, hX3⟩ : ∃ X3, w4.setCell ⟨w.heap.size + 2, 2, none⟩ (.slice sa sn sc) = X3 := ⟨_, rfl⟩
      have HR6 : Hid (RiS w c ⟨0, l, lo, ⟨#[]⟩, false⟩ (a', l.length, c') (sa, sn, sc) X3) := by
        subst hX3
        have hls : Ls kTb w4 (sa, sn, sc) lo := Ls.own HO.out.1
        have hfr := OwIs.fresh HO.out.1 HO.out.2
        have hsz := HR4.out.sz
        exact HR5.out.set 2 _ rfl ⟨HR5.out.ja.1, hls⟩ HR5.out.fu (fun b off e => by have := hfr b off e; omega)
      rw [hX3]
      clear hX3 HO HR5 a2 f2 HR4 HOV
      have z0 := HR6.out.z.2.1 0 _ rfl
      have z1 := HR6.out.z.2.1 1 _ rfl
      have z2 := HR6.out.z.2.1 2 _ rfl
      have z3 := HR6.out.z.2.1 3 _ rfl
      have z4 := HR6.out.z.2.1 4 _ rfl
      have r0 := HR6.out.r.2.1 0 _ rfl
      have r1 := HR6.out.r.2.1 1 _ rfl
      have r2 := HR6.out.r.2.1 2 _ rfl
      have r3 := HR6.out.r.2.1 3 _ rfl
      have r4 := HR6.out.r.2.1 4 _ rfl
      have s0 := HR6.out.r.2.2
      simp only at z1 z2 r1 r2
      go_wp2
      refine bodyPost_ret (res_jb2 rfl _ _ (w.heap.size + 1) 0 (a', l.length, c') (sa, sn, sc) ⟨#[]⟩ false rfl HR6.out.fin.1) rfl ?_
      rw [HJ.out]
      exact ⟨_, _, rfl, HR6.out.fin.2.1, HR6.out.fin.2.2, fun b off e => by have := HR6.out.fu b off e; omega, fun b off e => by have := HR6.out.fl b off e; omega⟩
end Vr
end Go.Proofs.YtaejjpbpnedblaaGreat
