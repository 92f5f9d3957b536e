import Derived.Test.YtaejjpbpnedblaaGreatXe
import Derived.Test.YtaejjpbpnedblaaGreatXi
namespace Go.Proofs.YtaejjpbpnedblaaGreat
namespace Vr
open Go.Shelf Go.RowKit Go.Lib Go.Sort Go.Maps Go.ChangeMaps Go.MapKept Laws Irw Crw
set_option linter.unusedVariables false
set_option linter.unusedSimpArgs false
set_option maxRecDepth 20000
def exP : List ByteArray := [⟨#[]⟩, ⟨#[99]⟩]
def exJ1 : Jb := ⟨1, [exT 4 2000 101 112], [exT 6 3000 100 102, exT 7 3000 103 105], ⟨#[107]⟩, false⟩
def exJ2 : Jb := ⟨2, [exT 6 3000 100 102], [exT 11 90000 97 122], ⟨#[]⟩, false⟩
def exJ0 : Jb := ⟨0, [exT 9 500 98 100, exT 12 500 99 107], [exT 3 2000 97 99, exT 4 2000 101 112], ⟨#[]⟩, false⟩
theorem exJ1_eq : inp 2 exV.length exV 1 (exT 4 2000 101 112) = exJ1 := rfl
theorem exJ2_eq : inp 2 exV.length exV 2 (exT 6 3000 100 102) = exJ2 := rfl
theorem exJ0_eq : whl exV [exT 9 500 98 100, exT 12 500 99 107] = exJ0 := rfl
theorem in1_ex (vb : Nat) (pa : Option Addr) (pc : Nat) (W : World) (h : VAt W vb exV) (hp : Ls kT W (pa, 2, pc) exP) :
    Calls Tryz.prog 18 #[.agg (cfgA exC), .pointer (some ⟨vb, 0, none⟩), .slice pa 2 pc, .int .i64 1] W fun e w' => JnIs W exJ1 true e w' := by
  have := inputsI_any exC vb exV pa pc exP 1 2 [exT 3 2000 97 99, exT 4 2000 101 112, exT 5 1000 113 122] (exT 4 2000 101 112) W h exC_r exV_no hp (by decide) rfl (by decide) (by decide) rfl (by decide) rfl
  rw [exJ1_eq] at this
  exact this
theorem in2_ex (vb : Nat) (pa : Option Addr) (pc : Nat) (W : World) (h : VAt W vb exV) (hp : Ls kT W (pa, 2, pc) exP) :
    Calls Tryz.prog 18 #[.agg (cfgA exC), .pointer (some ⟨vb, 0, none⟩), .slice pa 2 pc, .int .i64 2] W fun e w' => JnIs W exJ2 true e w' := by
  have := inputsI_any exC vb exV pa pc exP 2 2 [exT 6 3000 100 102, exT 7 3000 103 105, exT 8 2000 107 108, exT 10 1000 120 122] (exT 6 3000 100 102) W h exC_r exV_no hp (by decide) rfl (by decide) (by decide) rfl (by decide) rfl
  rw [exJ2_eq] at this
  exact this
theorem in0_ex (vb : Nat) (pv : Value) (W : World) (h : VAt W vb exV) :
    Calls Tryz.prog 18 #[.agg (cfgA exC), .pointer (some ⟨vb, 0, none⟩), pv, .int .i64 0] W fun e w' => JnIs W exJ0 true e w' := by
  have := inputs0_any exC vb exV pv [exT 9 500 98 100, exT 12 500 99 107] W h exC_r rfl (by decide)
  rw [exJ0_eq] at this
  exact this
def exJs : List Jb := [exJ1, exJ2, exJ0]
theorem exJs_take (k : Nat) {J : Jb} (h : exJs[k]? = some J) : exJs.take (k + 1) = exJs.take k ++ [J] := by rw [List.take_add_one, h]; rfl
/-- where a list lies: no own block of the jobs' list -/
def Tg (m : Nat) (T : Nat → Nat) (w : World) (s : Sv) (l : List Tb) : Prop := ∀ b off, s.1 = some ⟨b, off, none⟩ → l ≠ [] → m ≤ b ∧ b < w.heap.size ∧ T b = 0
def JT (m : Nat) (T : Nat → Nat) (w : World) (y : Jx) : Prop := JAt w y.us y.ls y.j ∧ Tg m T w y.us y.j.up ∧ Tg m T w y.ls y.j.lo
theorem Tg.goes {m : Nat} {T T' : Nat → Nat} {w w' : World} {s : Sv} {l : List Tb} (h : Tg m T w s l) (hg : Goes (· = 1) T w T' w') : Tg m T' w' s l := fun b off e hl => by
  obtain ⟨h0, h1, h2⟩ := h b off e hl
  exact ⟨h0, Nat.lt_of_lt_of_le h1 hg.size, (hg.tag b h1 (by rw [h2]; decide)).trans h2⟩
theorem Ls.goesT {m : Nat} {T T' : Nat → Nat} {w w' : World} {s : Sv} {l : List Tb} (hs : Ls kTb w s l) (h : Tg m T w s l) (hg : Goes (· = 1) T w T' w') : Ls kTb w' s l := by
  by_cases hl : l = []
  · subst hl
    exact ⟨fun hne => absurd rfl hne, hs.2⟩
  · exact hs.keep (fun b off e hb => hg.block b hb (by rw [(h b off e hl).2.2]; decide)) hg.size
theorem JT.goes {m : Nat} {T T' : Nat → Nat} {w w' : World} {y : Jx} (h : JT m T w y) (hg : Goes (· = 1) T w T' w') : JT m T' w' y := ⟨⟨h.1.1.goesT h.2.1 hg, h.1.2.goesT h.2.2 hg⟩, h.2.1.goes hg, h.2.2.goes hg⟩
theorem tg_new {m : Nat} {T : Nat → Nat} {w w' : World} {s : Sv} {l : List Tb} (hs : Ls kTb w' s l) (hf : ∀ b off, s.1 = some ⟨b, off, none⟩ → w.heap.size ≤ b) (hm : m ≤ w.heap.size) (hz : ∀ b, w.heap.size ≤ b → T b = 0) : Tg m T w' s l := fun b off e hl => by
  obtain ⟨b1, o1, e1, hr⟩ := hs.1 hl
  rw [e] at e1
  cases e1
  exact ⟨Nat.le_trans hm (hf _ _ e), hr.1, hz _ (hf _ _ e)⟩
theorem Ls.other {w : World} {s : Sv} {l : List Tb} {A : Nat} (h : Ls kTb w s l) (hA : ∀ b off, s.1 = some ⟨b, off, none⟩ → l ≠ [] → b ≠ A) (k : Nat) (v : Value) : Ls kTb (w.setCell ⟨A, k, none⟩ v) s l := by
  by_cases hl : l = []
  · subst hl
    exact ⟨fun hne => absurd rfl hne, h.2⟩
  · exact h.keep (fun b off e _ => Below.heap_setCell w _ _ b (hA b off e hl)) (by simp)
theorem isK_job (w : World) (y : Jx) : IsK kJ (w.alloc (.cells #[.int .i64 y.j.lv, .slice y.us.1 y.us.2.1 y.us.2.2, .slice y.ls.1 y.ls.2.1 y.ls.2.2, .string y.j.cut, .bool y.j.mv] 62)) (some ⟨w.heap.size, 0, none⟩) [y] := by
  have h := Zb.new w #[.int .i64 y.j.lv, .slice y.us.1 y.us.2.1 y.us.2.2, .slice y.ls.1 y.ls.2.1 y.ls.2.2, .string y.j.cut, .bool y.j.mv] 62
  refine IsK.of ⟨h.1, fun i e he j u hu => ?_⟩
  have hi : i = 0 := by
    have := (List.getElem?_eq_some_iff.1 he).1
    simp at this
    omega
  subst hi
  simp at he
  subst he
  rw [Nat.zero_mul, Nat.zero_add]
  exact h.2.1 j u hu
def lv3 : Nat → Int
  | 0 => 1
  | 1 => 2
  | _ => 0
def NxS (w1 : World) (T : Nat → Nat) (wr : World) (s : Sv) (js : List Jx) (k : Nat) : Prop := Old w1 T wr ∧ OwnK kJ 1 T wr (svV s) js ∧ js.map Jx.j = exJs.take k ∧ ∀ y ∈ js, JT w1.heap.size T wr y
def NxIs (x : Nat) (w : World) (e : Ending) (w' : World) : Prop := RowKit.Below w.heap.size w w' ∧ ((x = 9 → ∃ us ls : Sv, e = .returned (.tuple #[jbV exJ1.lv us ls exJ1.cut exJ1.mv, .int .i64 2]) ∧ JAt w' us ls exJ1) ∧ (x = 7 → e = .returned (.tuple #[jbV 0 nS nS ⟨#[]⟩ false, .int .i64 1])))
set_option maxHeartbeats 4000000 in
theorem next_ex (vb : Nat) (pa : Option Addr) (pc lb lo lc x : Nat) (w : World) (h : VAt w vb exV) (hp : Ls kT w (pa, 2, pc) exP) (hlo : w.cell? ⟨lb, lo, none⟩ = some (.int .u64 (x : Int))) (hx : x = 9 ∨ x = 7) :
    Calls Tryz.prog 36 #[.agg (cfgA exC), .pointer (some ⟨vb, 0, none⟩), .slice pa 2 pc, .slice (some ⟨lb, lo, none⟩) 1 lc] w fun e w' => NxIs x w e w' := by
  obtain ⟨iz, hi, hz0, hz1, hz2⟩ := info_parts infoJ
  obtain ⟨W, hW⟩ : ∃ X, (w.alloc (Obj.cells (cfgA exC) 23)).alloc (Obj.cells #[.int .i64 0, .slice none 0 0, .slice none 0 0, .string ⟨#[]⟩, .bool false] 62) = X := ⟨_, rfl⟩
  have HW : Hid (RowKit.Below w.heap.size w W ∧ Lc W w.heap.size exC ∧ Zb W (w.heap.size + 1) (jbC 0 nS nS ⟨#[]⟩ false)) := by
    subst hW
    exact ⟨((Below.refl _ _).alloc (Nat.le_refl _) _).alloc (by simp) _, (lc_new w exC 23).keep (by simp) ((Below.refl _ _).alloc (Nat.le_refl _) _), Zb.new2 w _ _ _⟩
  have hLW := HW.out.2.1
  have HO : Hid (Calls Tryz.prog 14 #[.agg (cfgA exC), .pointer (some ⟨vb, 0, none⟩)] W fun e w' => ∃ g cap, e = .returned (.slice (some ⟨g, 0, none⟩) 3 cap) ∧ 3 ≤ cap ∧ Zb w' g (st3 3) ∧ RowKit.Below W.heap.size W w') := order_ex vb W (h.below HW.out.1)
  have HV := hidV (And.intro h (And.intro hp hlo))
  clear h hp hlo
  go_enter Tryz.func36, Tryz.ntmps36
  go_wp2_with (first
    | ((try rw [hW]); refine wpList_cfg (by rfl) _ (by rfl) (by rfl) hLW ?_)
    | (go_at_call 14; go_loud ((try rw [hW]); refine HO.out.mono ?_; rintro e w1 ⟨g, cap, rfl, hcap, hz1', hb1⟩; have H1 : Hid (Zb w1 g (st3 3) ∧ RowKit.Below W.heap.size W w1 ∧ RowKit.Below w.heap.size w w1) := ⟨hz1', hb1, HW.out.1.trans (hb1.mono HW.out.1.size)⟩; clear hz1' hb1)))
  clear hW hLW HO
  go_loopw [11, 26] (fun o i wr => ∃ (k : Nat) (s : Sv) (T : Nat → Nat) (js : List Jx), k ≤ 3 ∧ o = .slice s.1 s.2.1 s.2.2 ∧ i = .int .i64 (k : Int) ∧ Hid (NxS w1 T wr s js k)) (fun _ i _ => 3 - (intOf i).toNat)
  case atStart => exact ⟨0, nS, fun _ => 0, [], by omega, rfl, rfl, Old.first w1, OwnK.empty _ _ _, rfl, by simp⟩
  case round =>
    obtain ⟨k, ⟨ra, rn, rc⟩, T, js, hk, rfl, rfl, HX⟩ := hrel
    simp only at *
    by_cases hlt : k < 3
    · have q1 : (k : Int) < 3 := by omega
      have HBr : Hid (RowKit.Below w.heap.size w wr) := H1.out.2.2.trans (HX.out.1.below.mono H1.out.2.2.size)
      obtain ⟨lv, J, hc, hJ, hin⟩ : ∃ (lv : Int) (J : Jb), wr.cell? ⟨g, k, none⟩ = some (.int .i64 lv) ∧ exJs[k]? = some J ∧ Calls Tryz.prog 18 #[.agg (cfgA exC), .pointer (some ⟨vb, 0, none⟩), .slice pa 2 pc, .int .i64 lv] wr fun e w' => JnIs wr J true e w' := by
        have hz := (H1.out.1.below HX.out.1.below).2.1
        have hv := HV.out.1.below HBr.out
        have hp := HV.out.2.1.below HBr.out
        have : k = 0 ∨ k = 1 ∨ k = 2 := by omega
        rcases this with rfl | rfl | rfl
        · exact ⟨1, exJ1, hz 0 _ rfl, rfl, in1_ex vb pa pc wr hv hp⟩
        · exact ⟨2, exJ2, hz 1 _ rfl, rfl, in2_ex vb pa pc wr hv hp⟩
        · exact ⟨0, exJ0, hz 2 _ rfl, rfl, in0_ex vb _ wr hv⟩
      have HIn := hidV (And.intro hin hJ)
      clear hin hJ
      have hL1 : Lc wr w.heap.size exC := (HW.out.2.1.keep (by have := HW.out.2.2.1; omega) H1.out.2.1).keep (by have := HW.out.2.2.1; have := H1.out.2.1.size; omega) HX.out.1.below
      have hsl : js.length = k := by
        have := congrArg List.length HX.out.2.2.1
        rw [List.length_map, List.length_take] at this
        rw [this]
        show min k 3 = k
        omega
      go_upto_region 9 with (first
        | (refine wpList_cfg (by rfl) _ (by rfl) (by rfl) hL1 ?_)
        | (go_at_call 18; go_loud (refine HIn.out.1.mono ?_; rintro e w2 ⟨⟨ua, un, uc⟩, ⟨va, vn, vc⟩, rfl, hj2, hb2, hfu, hfl⟩; have H2 : Hid (JT w1.heap.size T w2 ⟨J, (ua, un, uc), (va, vn, vc)⟩ ∧ RowKit.Below wr.heap.size wr w2) := ⟨⟨hj2, tg_new hj2.1 hfu HX.out.1.below.size (fun b hb => HX.out.1.zero b (.inr hb)), tg_new hj2.2 hfl HX.out.1.below.size (fun b hb => HX.out.1.zero b (.inr hb))⟩, hb2⟩; clear hj2 hb2 hfu hfl; unfold jbV; simp only)))
      obtain ⟨W3, hW3⟩ : ∃ X, w2.alloc (Obj.cells #[.int .i64 J.lv, .slice ua un uc, .slice va vn vc, .string J.cut, .bool J.mv] 62) = X := ⟨_, rfl⟩
      have H3 : Hid (Zb W3 w2.heap.size (jbC J.lv (ua, un, uc) (va, vn, vc) J.cut J.mv) ∧ RowKit.Below w2.heap.size w2 W3) := by
        subst hW3
        exact ⟨Zb.new w2 _ _, (Below.refl _ _).alloc (Nat.le_refl _) _⟩
      rw [hW3]
      clear hW3 hc hL1
      have y0 := H3.out.1.2.1 0 _ rfl
      have y1 := H3.out.1.2.1 1 _ rfl
      have y2 := H3.out.1.2.1 2 _ rfl
      have y3 := H3.out.1.2.1 3 _ rfl
      have y4 := H3.out.1.2.1 4 _ rfl
      simp only at y1 y2
      have HBA : Hid (RowKit.Below wr.heap.size wr (W3.alloc (Obj.cells #[.int .i64 J.lv, .slice ua un uc, .slice va vn vc, .string J.cut, .bool J.mv] 62))) := by
        have h1 := H2.out.2.trans (H3.out.2.mono H2.out.2.size)
        exact h1.alloc h1.size _
      have HBB : Hid (RowKit.Below w2.heap.size w2 (W3.alloc (Obj.cells #[.int .i64 J.lv, .slice ua un uc, .slice va vn vc, .string J.cut, .bool J.mv] 62))) := H3.out.2.alloc H3.out.2.size _
      go_wp2_with (at_builtin; go_loud (refine wpList_appK kJ _ (by rfl) (.tmp 39) (.tmp 41) 124 (by rfl) iz Tryz.underlying124 hi hz0 hz1 hz2 1 T (.slice ra rn rc) js (by rfl) (HX.out.2.1.below HBA.out) (some ⟨W3.heap.size, 0, none⟩) 1 1 [⟨J, (ua, un, uc), (va, vn, vc)⟩] (by rfl) rfl (by simp) (isK_job W3 ⟨J, (ua, un, uc), (va, vn, vc)⟩) (by simp; omega) ?_; intro a' c' T' w4 ho4 hg4; have HY : Hid (OwnK kJ 1 T' w4 (.slice a' (js.length + 1) c') (js ++ [⟨J, (ua, un, uc), (va, vn, vc)⟩]) ∧ Goes (· = 1) T (W3.alloc (Obj.cells #[.int .i64 J.lv, .slice ua un uc, .slice va vn vc, .string J.cut, .bool J.mv] 62)) T' w4) := ⟨ho4, hg4⟩; clear ho4 hg4; simp only [List.length_singleton]))
      go_roundw
      case rel =>
        have g1 : Goes (· = 1) T wr T' w4 := (Goes.below (t := (· = 1)) HBA.out).trans HY.out.2
        have h3 := HY.out.1
        rw [hsl] at h3
        refine ⟨k + 1, (a', k + 1, c'), T', _, by omega, rfl, by go_num, HX.out.1.goes g1 (by decide), h3, ?_, fun y hy => ?_⟩
        · rw [List.map_append, HX.out.2.2.1, exJs_take k HIn.out.2]
          rfl
        · rcases List.mem_append.1 hy with hy | hy
          · exact (HX.out.2.2.2 y hy).goes g1
          · simp only [List.mem_singleton] at hy
            subst hy
            exact H2.out.1.goes ((Goes.below (t := (· = 1)) HBB.out).trans HY.out.2)
      case measure => simp [intOf]; omega
    · have hk3 : k = 3 := by omega
      have HE : Hid (js.map Jx.j = exJs) := by
        have := HX.out.2.2.1
        rw [hk3] at this
        exact this
      have hln : js.length = 3 := by
        have := congrArg List.length HE.out
        rw [List.length_map] at this
        exact this
      obtain ⟨y1, y2, y3, rfl⟩ : ∃ y1 y2 y3, js = [y1, y2, y3] := by
        match js, hln with
        | [a, b, c], _ => exact ⟨a, b, c, rfl⟩
      have e1 : y1.j = exJ1 := (List.cons.inj HE.out).1
      have e2 : y2.j = exJ2 := (List.cons.inj (List.cons.inj HE.out).2).1
      have e3 : y3.j = exJ0 := (List.cons.inj (List.cons.inj (List.cons.inj HE.out).2).2).1
      have hls := Ls.own HX.out.2.1
      have hrn : rn = 3 := hls.2.1
      subst hrn
      have HBr : Hid (RowKit.Below w.heap.size w wr) := H1.out.2.2.trans (HX.out.1.below.mono H1.out.2.2.size)
      have HZr : Hid (Zb wr (w.heap.size + 1) (jbC 0 nS nS ⟨#[]⟩ false)) := (HW.out.2.2.below H1.out.2.1).below HX.out.1.below
      have HJs : Hid (∀ y ∈ [y1, y2, y3], JAt wr y.us y.ls y.j ∧ (∃ l : Nat, y.j.lv = l ∧ l < 4) ∧ y.j.up.length ≤ 1000000 ∧ y.j.lo.length ≤ 1000000) := fun y hy => by
        refine ⟨(HX.out.2.2.2 y hy).1, ?_⟩
        simp only [List.mem_cons, List.not_mem_nil, or_false] at hy
        rcases hy with rfl | rfl | rfl
        · rw [e1]; exact ⟨⟨1, rfl, by omega⟩, by decide, by decide⟩
        · rw [e2]; exact ⟨⟨2, rfl, by omega⟩, by decide, by decide⟩
        · rw [e3]; exact ⟨⟨0, rfl, by omega⟩, by decide, by decide⟩
      have HLo : Hid (wr.cell? ⟨lb, lo, none⟩ = some (.int .u64 (x : Int))) := (HBr.out.cell (p := ⟨lb, lo, none⟩) (World.block_lt_of_cell? w _ HV.out.2.2)).trans HV.out.2.2
      have HFF : Hid (Calls Tryz.prog 73 #[.slice ra 3 rc, .slice (some ⟨lb, lo, none⟩) 1 lc] wr fun e w' => FfIs wr (ffr x (fun _ => false) [y1, y2, y3]) e w') := firstFree_any ra rc [y1, y2, y3] lb lo lc x wr hls HJs.out (by simp) HLo.out
      have HTs : Hid (∀ y ∈ [y1, y2, y3], JT w1.heap.size T wr y) := HX.out.2.2.2
      have HA1 : Hid (w.heap.size + 1 < w1.heap.size) := Nat.lt_of_lt_of_le HW.out.2.2.1 H1.out.2.1.size
      clear HX hls hk3
      rcases hx with rfl | rfl
      · have HF : Hid (Calls Tryz.prog 73 #[.slice ra 3 rc, .slice (some ⟨lb, lo, none⟩) 1 lc] wr fun e w' => ∃ us ls : Sv, e = .returned (jbV exJ1.lv us ls exJ1.cut exJ1.mv) ∧ JAt w' us ls exJ1 ∧ RowKit.Below wr.heap.size wr w' ∧ (∀ b off, us.1 = some ⟨b, off, none⟩ → exJ1.up ≠ [] → b ≠ w.heap.size + 1) ∧ ∀ b off, ls.1 = some ⟨b, off, none⟩ → exJ1.lo ≠ [] → b ≠ w.heap.size + 1) := by
          refine HFF.out.mono ?_
          rintro e w' hff
          rw [show ffr 9 (fun _ => false) [y1, y2, y3] = some y1 from ffr_stop (l := 1) (by rw [e1]; rfl) (by rw [e1]; rfl)] at hff
          obtain ⟨he, hb⟩ := hff
          rw [e1] at he
          have h1 := HTs.out y1 (by simp)
          unfold JT at h1
          rw [e1] at h1
          exact ⟨y1.us, y1.ls, he, h1.1.below hb, hb, fun b off e hne => by have := (h1.2.1 b off e hne).1; have := HA1.out; omega, fun b off e hne => by have := (h1.2.2 b off e hne).1; have := HA1.out; omega⟩
        have HSm : Hid (∀ W us ls, Calls Tryz.prog 74 #[jbV exJ1.lv us ls exJ1.cut exJ1.mv, jbV 0 nS nS ⟨#[]⟩ false] W fun e w' => e = .returned (.bool false) ∧ RowKit.Below W.heap.size W w') := fun W us ls => same_no _ (by decide) us ls _ _ W
        clear HFF e1 e2 e3
        go_upto_region 13 with (go_at_call 73; go_loud (refine HF.out.mono ?_; rintro e w5 ⟨⟨ua, un, uc⟩, ⟨va, vn, vc⟩, rfl, hj5, hb5, hu5, hl5⟩; have H5 := hidV (And.intro hj5 hb5); have HU5 := hidV (And.intro hu5 hl5); clear hj5 hb5 hu5 hl5; unfold jbV; simp only))
        obtain ⟨W6, hW6⟩ : ∃ X, w5.alloc (Obj.cells #[.int .i64 exJ1.lv, .slice ua un uc, .slice va vn vc, .string exJ1.cut, .bool exJ1.mv] 62) = X := ⟨_, rfl⟩
        have H6 : Hid (Zb W6 w5.heap.size (jbC exJ1.lv (ua, un, uc) (va, vn, vc) exJ1.cut exJ1.mv) ∧ RowKit.Below w5.heap.size w5 W6) := by
          subst hW6
          exact ⟨Zb.new w5 _ _, (Below.refl _ _).alloc (Nat.le_refl _) _⟩
        rw [hW6]
        clear hW6
        have y0 := H6.out.1.2.1 0 _ rfl
        have y1' := H6.out.1.2.1 1 _ rfl
        have y2' := H6.out.1.2.1 2 _ rfl
        have y3' := H6.out.1.2.1 3 _ rfl
        have y4 := H6.out.1.2.1 4 _ rfl
        simp only at y1' y2'
        have HS6 := hidV (HSm.out W6 (ua, un, uc) (va, vn, vc))
        unfold jbV at HS6
        simp only [nS] at HS6
        go_upto_region 15 with (go_at_call 74; go_loud (refine HS6.out.mono ?_; rintro e w7 ⟨rfl, hb7⟩; have H7 := hidV hb7; clear hb7))
        have HZ7 : Hid (Zb w7 w5.heap.size (jbC exJ1.lv (ua, un, uc) (va, vn, vc) exJ1.cut exJ1.mv) ∧ Zb w7 (w.heap.size + 1) (jbC 0 nS nS ⟨#[]⟩ false) ∧ JAt w7 (ua, un, uc) (va, vn, vc) exJ1 ∧ RowKit.Below w.heap.size w w7 ∧ RowKit.Below wr.heap.size wr w7) := by
          have b1 := (H5.out.2.trans (H6.out.2.mono H5.out.2.size))
          have b2 := b1.trans (H7.out.mono b1.size)
          exact ⟨H6.out.1.below H7.out, HZr.out.below b2, ((H5.out.1.below H6.out.2).below H7.out), HBr.out.trans (b2.mono HBr.out.size), b2⟩
        have z0 := HZ7.out.1.2.1 0 _ rfl
        have z1 := HZ7.out.1.2.1 1 _ rfl
        have z2 := HZ7.out.1.2.1 2 _ rfl
        have z3 := HZ7.out.1.2.1 3 _ rfl
        have z4 := HZ7.out.1.2.1 4 _ rfl
        simp only at z1 z2
        have a0 := HZ7.out.2.1.2.1 0 _ rfl
        have a1 := HZ7.out.2.1.2.1 1 _ rfl
        have a2 := HZ7.out.2.1.2.1 2 _ rfl
        have a3 := HZ7.out.2.1.2.1 3 _ rfl
        have a4 := HZ7.out.2.1.2.1 4 _ rfl
        have g0 := HZ7.out.2.1.2.2 0
        have g1 := HZ7.out.2.1.2.2 1
        have g2 := HZ7.out.2.1.2.2 2
        have g3 := HZ7.out.2.1.2.2 3
        have g4 := HZ7.out.2.1.2.2 4
        go_wp2
        refine bodyPost_ret (res_jb2 rfl _ _ (w.heap.size + 1) exJ1.lv (ua, un, uc) (va, vn, vc) exJ1.cut exJ1.mv rfl (((((HZ7.out.2.1.set 0 _).set 1 _).set 2 _).set 3 _).set 4 _)) rfl ?_
        refine ⟨?_, fun _ => ⟨(ua, un, uc), (va, vn, vc), rfl, ?_, ?_⟩, fun h7 => absurd h7 (by decide)⟩
        · have hbz := HZ7.out.2.2.2.1
          have hle : w.heap.size ≤ w.heap.size + 1 := by omega
          exact ((((hbz.setCell (p := ⟨w.heap.size + 1, 0, none⟩) hle _).setCell (p := ⟨w.heap.size + 1, 1, none⟩) hle _).setCell (p := ⟨w.heap.size + 1, 2, none⟩) hle _).setCell (p := ⟨w.heap.size + 1, 3, none⟩) hle _).setCell (p := ⟨w.heap.size + 1, 4, none⟩) hle _
        · have h := HZ7.out.2.2.1.1
          have hA := HU5.out.1
          exact ((((h.other hA 0 _).other hA 1 _).other hA 2 _).other hA 3 _).other hA 4 _
        · have h := HZ7.out.2.2.1.2
          have hA := HU5.out.2
          exact ((((h.other hA 0 _).other hA 1 _).other hA 2 _).other hA 3 _).other hA 4 _
      · have HF : Hid (Calls Tryz.prog 73 #[.slice ra 3 rc, .slice (some ⟨lb, lo, none⟩) 1 lc] wr fun e w' => e = .returned (jbV 0 nS nS ⟨#[]⟩ false) ∧ RowKit.Below wr.heap.size wr w') := by
          refine HFF.out.mono ?_
          rintro e w' hff
          rw [show ffr 7 (fun _ => false) [y1, y2, y3] = none by
            rw [ffr_go (l := 1) (by rw [e1]; rfl) (by rw [e1]; rfl), ffr_go (l := 2) (by rw [e2]; rfl) (by rw [e2]; rfl), ffr_go (l := 0) (by rw [e3]; rfl) (by rw [e3]; rfl)]
            rfl] at hff
          exact hff
        clear HFF e1 e2 e3 HTs HJs
        go_upto_region 13 with (go_at_call 73; go_loud (refine HF.out.mono ?_; rintro e w5 ⟨rfl, hb5⟩; have H5 := hidV hb5; clear hb5; unfold jbV; simp only [nS]))
        obtain ⟨W6, hW6⟩ : ∃ X, w5.alloc (Obj.cells #[.int .i64 0, .slice none 0 0, .slice none 0 0, .string ⟨#[]⟩, .bool false] 62) = X := ⟨_, rfl⟩
        have H6 : Hid (Zb W6 w5.heap.size (jbC 0 nS nS ⟨#[]⟩ false) ∧ RowKit.Below w5.heap.size w5 W6) := by
          subst hW6
          exact ⟨Zb.new w5 _ _, (Below.refl _ _).alloc (Nat.le_refl _) _⟩
        rw [hW6]
        clear hW6
        have y0 := H6.out.1.2.1 0 _ rfl
        have y1' := H6.out.1.2.1 1 _ rfl
        have y2' := H6.out.1.2.1 2 _ rfl
        have y3' := H6.out.1.2.1 3 _ rfl
        have y4 := H6.out.1.2.1 4 _ rfl
        simp only [nS] at y1' y2'
        have HS6 := hidV (same_yes W6)
        unfold jbV at HS6
        simp only [nS] at HS6
        go_upto_region 14 with (go_at_call 74; go_loud (refine HS6.out.mono ?_; rintro e w7 ⟨rfl, hb7⟩; have H7 := hidV hb7; clear hb7))
        have HZ7 : Hid (Zb w7 (w.heap.size + 1) (jbC 0 nS nS ⟨#[]⟩ false) ∧ RowKit.Below w.heap.size w w7) := by
          have b1 := (H5.out.trans (H6.out.2.mono H5.out.size))
          have b2 := b1.trans (H7.out.mono b1.size)
          exact ⟨HZr.out.below b2, HBr.out.trans (b2.mono HBr.out.size)⟩
        have a0 := HZ7.out.1.2.1 0 _ rfl
        have a1 := HZ7.out.1.2.1 1 _ rfl
        have a2 := HZ7.out.1.2.1 2 _ rfl
        have a3 := HZ7.out.1.2.1 3 _ rfl
        have a4 := HZ7.out.1.2.1 4 _ rfl
        have g0 := HZ7.out.1.2.2 0
        have g1 := HZ7.out.1.2.2 1
        have g2 := HZ7.out.1.2.2 2
        have g3 := HZ7.out.1.2.2 3
        have g4 := HZ7.out.1.2.2 4
        go_wp2
        refine bodyPost_ret (res_jb2 rfl _ _ (w.heap.size + 1) 0 nS nS ⟨#[]⟩ false rfl (((((HZ7.out.1.set 0 _).set 1 _).set 2 _).set 3 _).set 4 _)) rfl ?_
        refine ⟨?_, fun h9 => absurd h9 (by decide), fun _ => rfl⟩
        have hbz := HZ7.out.2
        have hle : w.heap.size ≤ w.heap.size + 1 := by omega
        exact ((((hbz.setCell (p := ⟨w.heap.size + 1, 0, none⟩) hle _).setCell (p := ⟨w.heap.size + 1, 1, none⟩) hle _).setCell (p := ⟨w.heap.size + 1, 2, none⟩) hle _).setCell (p := ⟨w.heap.size + 1, 3, none⟩) hle _).setCell (p := ⟨w.heap.size + 1, 4, none⟩) hle _
end Vr
end Go.Proofs.YtaejjpbpnedblaaGreat
