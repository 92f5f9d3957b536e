import Derived.Test.YtaejjpbpnedblaaGreatFn
import Derived.Test.YtaejjpbpnedblaaGreatFg
import Derived.Test.YtaejjpbpnedblaaGreatXk
import Derived.Test.YtaejjpbpnedblaaGreatFd
import Derived.OrdersHeld
import Derived.Deep.CutRange
import Derived.Deep.CutBlock
import Derived.Deep.DeepCutAuto
namespace Go.Proofs.YtaejjpbpnedblaaGreat
namespace Vr
open Go.Shelf Go.RowKit Go.Lib Go.Sort Go.Maps Go.ChangeMaps Go.MapKept Laws Irw Crw
set_option linter.unusedVariables false
set_option linter.unusedSimpArgs false
set_option maxRecDepth 20000
theorem new_isk {T : Nat → Nat} {w w' : World} {s : Sv} {l : List Tb} (h : NewL w s l w') (hz : ∀ b, w.heap.size ≤ b → T b = 0) : Isk kTb T w' s l := by
  obtain ⟨G, rfl, hG, hrow⟩ := h
  obtain ⟨h1, h2, h3, h4, h5⟩ := Ls.row hrow rfl
  refine ⟨h1, h2, h3, h4, h5, fun b off e => ?_⟩
  simp only [Option.some.injEq, Addr.mk.injEq] at e
  obtain ⟨rfl, _, _⟩ := e
  exact ⟨hz _ hG, (hrow.lt _ rfl).2⟩
/-- the levels of a list of levels that is one's own -/
def Lvs (T : Nat → Nat) (w : World) (vs : List Sv) (V : Lv) : Prop := ∀ (i : Nat) v, vs[i]? = some v → Isk kTb T w v (lev V (i : Int))
theorem Lvs.goes {T T' : Nat → Nat} {w w' : World} {vs : List Sv} {V : Lv} (h : Lvs T w vs V) (hg : Goes (· = 3) T w T' w') : Lvs T' w' vs V := fun i v hv => (h i v hv).goes hg (by decide)
theorem Lvs.add {T : Nat → Nat} {w : World} {vs : List Sv} {V : Lv} {v : Sv} (h : Lvs T w vs V) {j : Nat} (hj : vs.length = j) (hv : Isk kTb T w v (lev V (j : Int))) : Lvs T w (vs ++ [v]) V := fun i u hu => by
  by_cases hi : i < vs.length
  · rw [List.getElem?_append_left hi] at hu
    exact h i u hu
  · have hl := (List.getElem?_eq_some_iff.1 hu).1
    rw [List.length_append, List.length_singleton] at hl
    have : i = vs.length := by omega
    subst this
    rw [List.getElem?_append_right (Nat.le_refl _), Nat.sub_self] at hu
    injection hu with hu
    subst hu hj
    exact hv
theorem Lvs.at_ {T : Nat → Nat} {w : World} {vs : List Sv} {V : Lv} {s : Sv} (h : Lvs T w vs V) (hl : vs.length = V.length) (ho : OwnK kS 3 T w (svV s) vs) : LsAt w s V := by
  obtain ⟨h1, h2, _⟩ := OwnK.sk ho
  refine ⟨by rw [h1, hl], vs, hl, h2, fun i v l hv hV => ?_⟩
  have := (h i v hv).ls
  rw [lev_in hV] at this
  exact this
def BwIs (w : World) (n : Nat) (e : Ending) (w' : World) : Prop := ∃ (vb : Nat) (V : Lv) (s : Sv), e = .returned (.tuple #[.pointer (some ⟨vb, 0, none⟩), svV s]) ∧ VAt w' vb V ∧ Bw V n 400 ∧ LsAt w' s V ∧ RowKit.Below w.heap.size w w'
set_option maxHeartbeats 4000000 in
theorem built3_any (c : Cf) (n : Nat) (hc : Cr c n) (la : Option Addr) (ll lc : Nat) (l : List Pi) (w : World) (hl : IsK kPi w la l) (hll : l.length = ll) (hmx : ll ≤ 1000000000000) (hp : PiR l) :
    Calls Tryz.prog 7 #[.agg (cfgA c), .slice la ll lc] w fun e w' => BwIs w n e w' := by
  obtain ⟨iz, hi, hz0, hz1, hz2⟩ := info_parts infoS
  have hn3 := hc.n3
  have hn5 := hc.n5
  have HL := hidV (And.intro hl (And.intro hp hll))
  have HC := hidV hc
  have hl8 : (cfgA c).toList[8]? = some (.int .i64 (n : Int)) := by rw [← hc.lv]; rfl
  have k2 := run_make_row' (P := Tryz.prog) 25 9 (.string ⟨#[]⟩) 16 Tryz.underlying25 infoT rfl .i64 .i64 n (by omega) (by omega)
  have HL8 := hidV hl8
  have hb0 : RowKit.Below w.heap.size w (w.alloc (Obj.cells (cfgA c) 23)) := (Below.refl _ _).alloc (Nat.le_refl _) _
  have hLc := lc_new w c 23
  have c8 := hLc.cell 8 hl8
  obtain ⟨W0, hW0⟩ : ∃ X, w.alloc (Obj.cells (cfgA c) 23) = X := ⟨_, rfl⟩
  have hsz : w.heap.size < W0.heap.size := by rw [← hW0]; simp
  rw [hW0] at hb0 hLc c8
  have H0 := hidV (And.intro hb0 (And.intro hLc hsz))
  have HNW : Hid (Calls Tryz.prog 26 #[.int .i64 (n : Int)] W0 fun e w' => ∃ (sb vb mb : Nat) (T : Nat → Nat), e = .returned (.pointer (some ⟨sb, 0, none⟩)) ∧ SAt T w' sb vb mb (List.replicate n []) ∧ Old W0 T w') := (new_any n W0 (by omega) (by omega)).mono fun e w' ⟨sb, vb, mb, he, hs, ho⟩ => ⟨sb, vb, mb, _, he, hs, ho⟩
  clear hc hl hp hl8 hLc hb0 hsz
  go_enter Tryz.func7, Tryz.ntmps7
  go_upto_region 1 with (fail)
  (try rw [hW0])
  clear hW0
  go_upto_region 4 with (go_at_call 26; go_loud (refine HNW.out.mono ?_; rintro e w2 ⟨sb, vb, mb, T, rfl, hs2, ho2⟩; have H2 := hidV (And.intro hs2 ho2); have d8 : w2.cell? ⟨w.heap.size, 8, none⟩ = some (.int .i64 (n : Int)) := (H2.out.2.below.cell (p := ⟨w.heap.size, 8, none⟩) H0.out.2.2).trans c8; clear hs2 ho2))
  go_upto_region 6 with (fail)
  obtain ⟨W3, hW3⟩ : ∃ X, w2.alloc (Obj.cells (madeCells #[.string ⟨#[]⟩] n) 9) = X := ⟨_, rfl⟩
  have HBS : Hid (BV w c n T sb mb w2.heap.size (List.replicate n []) 0 W3) := by
    have hb3 : RowKit.Below w2.heap.size w2 W3 := by rw [← hW3]; exact (Below.refl _ _).alloc (Nat.le_refl _) _
    have hz3 : Zb W3 w2.heap.size (kT.cells (List.replicate n ⟨#[]⟩)) := by
      have := Zb.new w2 (madeCells #[.string ⟨#[]⟩] n) 9
      rw [← hW3]
      rw [toList_madeCells_one] at this
      rw [cellsT_nil]
      exact this
    have h2b := H2.out.2.below
    have h02 := H0.out.1.trans (h2b.mono H0.out.1.size)
    have hT : ∀ b, w2.heap.size ≤ b → T b = 0 := fun b hb => H2.out.2.zero b (.inr hb)
    refine ⟨⟨vb, H2.out.1.below hb3⟩, fun b hb => hT b (Nat.le_trans hb3.size hb), (H0.out.2.1.keep H0.out.2.2 h2b).keep (Nat.lt_of_lt_of_le H0.out.2.2 h2b.size) hb3, ⟨Nat.lt_of_lt_of_le (Nat.lt_of_lt_of_le H0.out.2.2 h2b.size) hb3.size, H2.out.2.zero _ (.inl H0.out.2.2)⟩, ?_, h02.trans (hb3.mono h02.size), fun b hb => H2.out.2.zero b (.inl (Nat.lt_of_lt_of_le hb H0.out.1.size)), Bw.first n⟩
    exact ⟨isK_zb hz3, by simp, by simp, by simp, .inr ⟨_, _, rfl⟩, fun b off e => by cases e; exact ⟨hT _ (Nat.le_refl _), hz3.1⟩⟩
  rw [hW3]
  clear hW3 H2 HNW k2 d8 c8
  generalize w2.heap.size = pb at *
  go_loopw [8] (fun i wr => ∃ (k : Nat) (V : Lv), k ≤ ll ∧ k ≤ 400 ∧ i = .int .i64 (k : Int) ∧ Hid (BV w c n T sb mb pb V k wr)) (fun i _ => 400 - (intOf i).toNat)
  case atStart => exact ⟨0, _, Nat.zero_le _, Nat.zero_le _, rfl, HBS⟩
  case round =>
    obtain ⟨k, V, hk1, hk2, rfl, HX⟩ := hrel
    by_cases hlt : k < ll ∧ k < 400
    · have q1 : (k : Int) < (ll : Int) := by omega
      have q2 : (k : Int) < 400 := by omega
      have hkl : k < l.length := by rw [hll]; exact hlt.1
      obtain ⟨p, hpk⟩ : ∃ p, l[k]? = some p := ⟨_, List.getElem?_eq_getElem hkl⟩
      obtain ⟨b1, o1, e1, hr⟩ := (HL.out.1.below HX.out.b).at_ (by omega)
      subst e1
      have hc1 := hr.2 k p hpk
      have HPR := hidV (HL.out.2.1 p (List.mem_of_getElem? hpk))
      obtain ⟨lv, ⟨no, we, by1, en, le, gr⟩⟩ := p
      have z0 : wr.cell? ⟨b1, o1 + k * 7, none⟩ = some (.int .i64 lv) := hc1 0 _ rfl
      have z1 : wr.cell? ⟨b1, o1 + k * 7 + 1, none⟩ = some (.int .u64 (no : Int)) := hc1 1 _ rfl
      have z2 : wr.cell? ⟨b1, o1 + k * 7 + 2, none⟩ = some (.int .i64 we) := hc1 2 _ rfl
      have z3 : wr.cell? ⟨b1, o1 + k * 7 + 3, none⟩ = some (.int .i64 by1) := hc1 3 _ rfl
      have z4 : wr.cell? ⟨b1, o1 + k * 7 + 4, none⟩ = some (.int .i64 en) := hc1 4 _ rfl
      have z5 : wr.cell? ⟨b1, o1 + k * 7 + 5, none⟩ = some (.string le) := hc1 5 _ rfl
      have z6 : wr.cell? ⟨b1, o1 + k * 7 + 6, none⟩ = some (.string gr) := hc1 6 _ rfl
      clear hc1 hr hpk hkl
      obtain ⟨lp, hlp, hPl⟩ : ∃ q : Int, (0 ≤ q ∧ q < n) ∧ ∀ W, Calls Tryz.prog 25 #[.int .i64 lv, .int .i64 (n : Int)] W fun e w' => e = .returned (.int .i64 q) ∧ w' = W := ⟨_, plc_lt lv (by omega), fun W => place_any lv n W HPR.out.2.1 (by omega)⟩
      obtain ⟨wp, hwp, hPw⟩ : ∃ q : Int, (0 ≤ q ∧ q < 2147483648) ∧ ∀ W, Calls Tryz.prog 25 #[.int .i64 we, .int .i64 2147483648] W fun e w' => e = .returned (.int .i64 q) ∧ w' = W := ⟨_, plc_lt we (by omega), fun W => place_any we 2147483648 W HPR.out.2.2 (by omega)⟩
      have HPl := hidV (And.intro hPl hPw)
      clear hPl hPw
      have c8 := HX.out.c.cell 8 HL8.out
      obtain ⟨Wa, hWa⟩ : ∃ X, wr.alloc (Obj.cells #[.int .i64 lv, .int .u64 (no : Int), .int .i64 we, .int .i64 by1, .int .i64 en, .string le, .string gr] 78) = X := ⟨_, rfl⟩
      have Ha : Hid (RowKit.Below wr.heap.size wr Wa ∧ Zb Wa wr.heap.size [.int .i64 lv, .int .u64 (no : Int), .int .i64 we, .int .i64 by1, .int .i64 en, .string le, .string gr]) := by
        subst hWa
        exact ⟨(Below.refl _ _).alloc (Nat.le_refl _) _, Zb.new wr _ _⟩
      go_upto_region 9 with (fail)
      (try rw [hWa])
      clear hWa z0 z1 z2 z3 z4 z5 z6
      have Hb : Hid (Zb (Wa.setCell ⟨wr.heap.size, 0, none⟩ (.int .i64 lp)) wr.heap.size [.int .i64 lp, .int .u64 (no : Int), .int .i64 we, .int .i64 by1, .int .i64 en, .string le, .string gr] ∧ RowKit.Below wr.heap.size wr (Wa.setCell ⟨wr.heap.size, 0, none⟩ (.int .i64 lp))) := ⟨Ha.out.2.set 0 _, Ha.out.1.setCell (p := ⟨wr.heap.size, 0, none⟩) (Nat.le_refl _) _⟩
      have Hc : Hid (Zb ((Wa.setCell ⟨wr.heap.size, 0, none⟩ (.int .i64 lp)).setCell ⟨wr.heap.size, 2, none⟩ (.int .i64 wp)) wr.heap.size [.int .i64 lp, .int .u64 (no : Int), .int .i64 wp, .int .i64 by1, .int .i64 en, .string le, .string gr] ∧ RowKit.Below wr.heap.size wr ((Wa.setCell ⟨wr.heap.size, 0, none⟩ (.int .i64 lp)).setCell ⟨wr.heap.size, 2, none⟩ (.int .i64 wp))) := ⟨Hb.out.1.set 2 _, Hb.out.2.setCell (p := ⟨wr.heap.size, 2, none⟩) (Nat.le_refl _) _⟩
      have c8a : Wa.cell? ⟨w.heap.size, 8, none⟩ = some (.int .i64 (n : Int)) := (Ha.out.1.cell (p := ⟨w.heap.size, 8, none⟩) HX.out.cl.1).trans c8
      have a0 := Ha.out.2.2.1 0 _ rfl
      have f0 := Ha.out.2.2.2 0
      have a2 := Hb.out.1.2.1 2 _ rfl
      have f2 := Hb.out.1.2.2 2
      go_upto_region 10 with (go_at_call 25; go_loud (refine (HPl.out.1 _).mono ?_; rintro e w99 ⟨rfl, hw99⟩; have hw98 := hw99.symm; clear hw99; subst hw98))
      go_upto_region 11 with (go_at_call 25; go_loud (refine (HPl.out.2 _).mono ?_; rintro e w99 ⟨rfl, hw99⟩; have hw98 := hw99.symm; clear hw99; subst hw98))
      obtain ⟨Wc, hWc⟩ : ∃ X, ((Wa.setCell ⟨wr.heap.size, 0, none⟩ (.int .i64 lp)).setCell ⟨wr.heap.size, 2, none⟩ (.int .i64 wp)) = X := ⟨_, rfl⟩
      rw [hWc] at Hc
      rw [hWc]
      clear hWc a0 f0 a2 f2 Hb Ha c8a c8
      have x0 := Hc.out.1.2.1 0 _ rfl
      have x1 := Hc.out.1.2.1 1 _ rfl
      have x2 := Hc.out.1.2.1 2 _ rfl
      have x3 := Hc.out.1.2.1 3 _ rfl
      have x4 := Hc.out.1.2.1 4 _ rfl
      have x5 := Hc.out.1.2.1 5 _ rfl
      have x6 := Hc.out.1.2.1 6 _ rfl
      have HAp : Hid (Calls Tryz.prog 27 #[.pointer (some ⟨sb, 0, none⟩), .agg #[.int .u64 0, .int .u64 0, .int .u64 0, .slice none 0 0, .slice (some ⟨Wc.heap.size, 0, none⟩) 1 1, .slice (some ⟨pb, 0, none⟩) n n]] (Wc.alloc (Obj.cells #[.int .i64 lp, .int .u64 (no : Int), .int .i64 wp, .int .i64 by1, .int .i64 en, .string le, .string gr] 78)) fun e w' => ∃ (r : Int) (V' : Lv), e = .returned (.tuple #[.slice none 0 0, .int .i64 r]) ∧ BV w c n T sb mb pb V' (k + 1) w') := by
        have hb9 := Hc.out.2.alloc Hc.out.2.size (Obj.cells #[.int .i64 lp, .int .u64 (no : Int), .int .i64 wp, .int .i64 by1, .int .i64 en, .string le, .string gr] 78)
        exact apply_bv (HX.out.below hb9) (by omega) hk2 Wc.heap.size ⟨lp, ⟨no, wp, by1, en, le, gr⟩⟩ (Zb.new Wc _ _) HPR.out.1 (by show 0 ≤ wp ∧ wp ≤ 2147483648; omega)
      go_wp2_with (go_at_call 27; go_loud (refine HAp.out.mono ?_; rintro e wz ⟨r, V', rfl, hbs⟩; have HZ := hidV hbs; clear hbs))
      go_roundw
      case rel => exact ⟨k + 1, V', by omega, by omega, by go_num, HZ⟩
      case measure => simp [intOf]; omega
    · obtain ⟨vb2, hs2⟩ := HX.out.s
      have HS2 := hidV hs2
      clear hs2
      have HCu : Hid (Calls Tryz.prog 28 #[.pointer (some ⟨sb, 0, none⟩)] wr fun e w' => e = .returned (.pointer (some ⟨vb2, 0, none⟩)) ∧ w' = wr) := current_any HS2.out
      by_cases h1 : k < ll
      · have q1 : (k : Int) < (ll : Int) := by omega
        have q2 : ¬ (k : Int) < 400 := by omega
        go_wp2_with (go_at_call 28; go_loud (refine HCu.out.mono ?_; rintro e w99 ⟨rfl, hw99⟩; have hw98 := hw99.symm; clear hw99; subst hw98))
        go_loopw [11, 12] (fun o i wr2 => ∃ (j : Nat) (s : Sv) (T' : Nat → Nat) (vs : List Sv), j ≤ n ∧ o = .slice s.1 s.2.1 s.2.2 ∧ i = .int .i64 (j : Int) ∧ Hid (Goes (· = 3) T wr T' wr2 ∧ OwnK kS 3 T' wr2 (svV s) vs ∧ vs.length = j ∧ Lvs T' wr2 vs V)) (fun _ i _ => n - (intOf i).toNat)
        case atStart => exact ⟨0, nS, T, [], Nat.zero_le _, rfl, rfl, Goes.refl _ _ _, OwnK.empty _ _ _, rfl, fun i v hv => by simp at hv⟩
        case round =>
          obtain ⟨j, ⟨ra, rn, rc⟩, T', vs, hj, rfl, rfl, HG⟩ := hrel
          rename World => wr2
          simp only at *
          have c8 := (HX.out.c.goes HX.out.cl.1 HX.out.cl.2 HG.out.1 (by decide)).cell 8 HL8.out
          have HVA : Hid (VAt wr2 vb2 V) := (HS2.out.ver.goes HG.out.1 (by decide)).at_
          by_cases hjn : j < n
          · have q1 : (j : Int) < (n : Int) := by omega
            have HTb : Hid (Calls Tryz.prog 16 #[.pointer (some ⟨vb2, 0, none⟩), .int .i64 (j : Int)] wr2 fun e w' => ∃ s : Sv, e = .returned (.slice s.1 s.2.1 s.2.2) ∧ Isk kTb T' w' s (lev V (j : Int)) ∧ RowKit.Below wr2.heap.size wr2 w') := (tables_any vb2 V j wr2 HVA.out).mono fun e w' ⟨s, he, hn, hb⟩ => ⟨s, he, new_isk hn (fun b hb9 => HG.out.1.high b hb9 (HX.out.z b (Nat.le_trans HG.out.1.size hb9))), hb⟩
            go_wp2_with (first
              | (go_at_call 16; go_loud (refine HTb.out.mono ?_; rintro e w3 ⟨⟨ta, tn, tc⟩, rfl, hik, hb3⟩; have H3 := hidV hb3; have HIK := hidV hik; clear hb3 hik; simp only))
              | (at_builtin; go_loud (refine wpList_appK kS _ (by rfl) (.tmp 61) (.tmp 65) 30 (by rfl) iz Tryz.underlying30 hi hz0 hz1 hz2 3 T' (.slice ra rn rc) vs (by rfl) ((HG.out.2.1.below H3.out).below ((Below.refl _ _).alloc (Nat.le_refl _) _)) (some ⟨w3.heap.size, 0, none⟩) 1 1 [(ta, tn, tc)] (by rfl) rfl (by simp) (isK_zb (Zb.new w3 #[.slice ta tn tc] 58)) (by have := HG.out.2.2.1; simp; omega) ?_; intro a' c' T9 w4 ho4 hg4; have HY : Hid (OwnK kS 3 T9 w4 (.slice a' (vs.length + 1) c') (vs ++ [(ta, tn, tc)]) ∧ Goes (· = 3) T' wr2 T9 w4 ∧ Isk kTb T9 w4 (ta, tn, tc) (lev V (j : Int))) := ⟨ho4, (Goes.below (t := (· = 3)) (H3.out.alloc H3.out.size _)).trans hg4, (HIK.out.below ((Below.refl _ _).alloc (Nat.le_refl _) _)).goes hg4 (by decide)⟩; clear ho4 hg4; simp only [List.length_singleton])))
            go_roundw
            case rel =>
              have h3 := HY.out.1
              rw [HG.out.2.2.1] at h3
              refine ⟨j + 1, (a', j + 1, c'), T9, _, by omega, by rw [HG.out.2.2.1], by go_num, HG.out.1.trans HY.out.2.1, h3, by rw [List.length_append, HG.out.2.2.1]; rfl, (HG.out.2.2.2.goes HY.out.2.1).add HG.out.2.2.1 HY.out.2.2⟩
            case measure => simp [intOf]; omega
          · have q1 : ¬ (j : Int) < (n : Int) := by omega
            go_wp2
            go_ret2
            exact ⟨vb2, V, (ra, rn, rc), rfl, HVA.out, HX.out.v.mono hk2, HG.out.2.2.2.at_ (by have h8 := HG.out.2.2.1; have h9 := HX.out.v.len; omega) HG.out.2.1, below_goes HX.out.b HX.out.l HG.out.1 (by decide)⟩
      · have q1 : ¬ (k : Int) < (ll : Int) := by omega
        go_wp2_with (go_at_call 28; go_loud (refine HCu.out.mono ?_; rintro e w99 ⟨rfl, hw99⟩; have hw98 := hw99.symm; clear hw99; subst hw98))
        go_loopw [11, 12] (fun o i wr2 => ∃ (j : Nat) (s : Sv) (T' : Nat → Nat) (vs : List Sv), j ≤ n ∧ o = .slice s.1 s.2.1 s.2.2 ∧ i = .int .i64 (j : Int) ∧ Hid (Goes (· = 3) T wr T' wr2 ∧ OwnK kS 3 T' wr2 (svV s) vs ∧ vs.length = j ∧ Lvs T' wr2 vs V)) (fun _ i _ => n - (intOf i).toNat)
        case atStart => exact ⟨0, nS, T, [], Nat.zero_le _, rfl, rfl, Goes.refl _ _ _, OwnK.empty _ _ _, rfl, fun i v hv => by simp at hv⟩
        case round =>
          obtain ⟨j, ⟨ra, rn, rc⟩, T', vs, hj, rfl, rfl, HG⟩ := hrel
          rename World => wr2
          simp only at *
          have c8 := (HX.out.c.goes HX.out.cl.1 HX.out.cl.2 HG.out.1 (by decide)).cell 8 HL8.out
          have HVA : Hid (VAt wr2 vb2 V) := (HS2.out.ver.goes HG.out.1 (by decide)).at_
          by_cases hjn : j < n
          · have q1 : (j : Int) < (n : Int) := by omega
            have HTb : Hid (Calls Tryz.prog 16 #[.pointer (some ⟨vb2, 0, none⟩), .int .i64 (j : Int)] wr2 fun e w' => ∃ s : Sv, e = .returned (.slice s.1 s.2.1 s.2.2) ∧ Isk kTb T' w' s (lev V (j : Int)) ∧ RowKit.Below wr2.heap.size wr2 w') := (tables_any vb2 V j wr2 HVA.out).mono fun e w' ⟨s, he, hn, hb⟩ => ⟨s, he, new_isk hn (fun b hb9 => HG.out.1.high b hb9 (HX.out.z b (Nat.le_trans HG.out.1.size hb9))), hb⟩
            go_wp2_with (first
              | (go_at_call 16; go_loud (refine HTb.out.mono ?_; rintro e w3 ⟨⟨ta, tn, tc⟩, rfl, hik, hb3⟩; have H3 := hidV hb3; have HIK := hidV hik; clear hb3 hik; simp only))
              | (at_builtin; go_loud (refine wpList_appK kS _ (by rfl) (.tmp 61) (.tmp 65) 30 (by rfl) iz Tryz.underlying30 hi hz0 hz1 hz2 3 T' (.slice ra rn rc) vs (by rfl) ((HG.out.2.1.below H3.out).below ((Below.refl _ _).alloc (Nat.le_refl _) _)) (some ⟨w3.heap.size, 0, none⟩) 1 1 [(ta, tn, tc)] (by rfl) rfl (by simp) (isK_zb (Zb.new w3 #[.slice ta tn tc] 58)) (by have := HG.out.2.2.1; simp; omega) ?_; intro a' c' T9 w4 ho4 hg4; have HY : Hid (OwnK kS 3 T9 w4 (.slice a' (vs.length + 1) c') (vs ++ [(ta, tn, tc)]) ∧ Goes (· = 3) T' wr2 T9 w4 ∧ Isk kTb T9 w4 (ta, tn, tc) (lev V (j : Int))) := ⟨ho4, (Goes.below (t := (· = 3)) (H3.out.alloc H3.out.size _)).trans hg4, (HIK.out.below ((Below.refl _ _).alloc (Nat.le_refl _) _)).goes hg4 (by decide)⟩; clear ho4 hg4; simp only [List.length_singleton])))
            go_roundw
            case rel =>
              have h3 := HY.out.1
              rw [HG.out.2.2.1] at h3
              refine ⟨j + 1, (a', j + 1, c'), T9, _, by omega, by rw [HG.out.2.2.1], by go_num, HG.out.1.trans HY.out.2.1, h3, by rw [List.length_append, HG.out.2.2.1]; rfl, (HG.out.2.2.2.goes HY.out.2.1).add HG.out.2.2.1 HY.out.2.2⟩
            case measure => simp [intOf]; omega
          · have q1 : ¬ (j : Int) < (n : Int) := by omega
            go_wp2
            go_ret2
            exact ⟨vb2, V, (ra, rn, rc), rfl, HVA.out, HX.out.v.mono hk2, HG.out.2.2.2.at_ (by have h8 := HG.out.2.2.1; have h9 := HX.out.v.len; omega) HG.out.2.1, below_goes HX.out.b HX.out.l HG.out.1 (by decide)⟩
end Vr
end Go.Proofs.YtaejjpbpnedblaaGreat
namespace Go.Proofs.YtaejjpbpnedblaaGreat
namespace Vr
open Go.Shelf Go.RowKit Go.Lib Go.Sort Go.Maps Go.ChangeMaps Go.MapKept Laws Irw Crw
set_option linter.unusedVariables false
set_option linter.unusedSimpArgs false
set_option maxRecDepth 20000
theorem own_lit0 {α : Type} (K : Knd α) (T : Nat → Nat) (t : Nat) (w : World) : OwnK K t (Irw.upd T w.heap.size t) (w.alloc (.cells #[] K.ty)) (.slice (some ⟨w.heap.size, 0, none⟩) 0 0) [] ∧ Goes (· = t) T w (Irw.upd T w.heap.size t) (w.alloc (.cells #[] K.ty)) := by
  have hb : RowKit.Below w.heap.size w (w.alloc (.cells #[] K.ty)) := (Below.refl _ _).alloc (Nat.le_refl _) _
  refine ⟨⟨⟨by simp [Knd.cells], .inr ⟨w.heap.size, 0, #[], rfl, Nat.zero_le _, World.alloc_heap_new w _, Nat.le_refl _, by unfold maxLen; omega, by simp, by simp [Knd.cells]⟩⟩, fun g e => ?_⟩, hb.os, hb.tape, hb.output, hb.size, fun b h _ => hb.block b h, fun b h _ => Irw.upd_other _ _ (by omega), fun b h h0 => ?_⟩
  · simp only [Value.ownBlock, Option.some.injEq] at e
    subst e
    exact Irw.upd_same _ _ _
  · simp at h
    rw [Irw.upd_other _ _ (by omega)]
    exact h0
section
variable {α : Type}
/-- append of what a slice holds onto a list of one's own -/
theorem run_appKb {P : Program} (K : Knd α) (w : World) (t ty : TypeId) (i : TypeInfo) (ht : P.underlying t = some (.slice K.ty)) (hi : P.info? K.ty = some i) (hz : i.zero = some K.zero) (hsize : i.size = K.size) (hby : i.bytes = K.bytes)
    (s : Nat) (T : Nat → Nat) (v : Value) (l : List α) (hown : OwnK K s T w v l) (ao : Option Addr) (m c : Nat) (r : List α) (hm : m = r.length) (hn : ao = none → c = 0) (hr : IsK K w ao r) (h41 : l.length + r.length ≤ 140737488355328) (h40 : (l.length + r.length) * K.bytes ≤ 140737488355328) :
    ∃ v' T' w', (Builtin.append_ #[t, t] ty #[v, .slice ao m c]).run P w = .ok v' w' ∧ OwnK K s T' w' v' (l ++ r) ∧ Goes (· = s) T w T' w' ∧ (v'.ownBlock = v.ownBlock ∨ v'.ownBlock = some w.heap.size) ∧ (0 < r.length → v' ≠ .slice none 0 0) := by
  subst hm
  cases ao with
  | none =>
    have hr0 := hr.none
    subst hr0
    obtain rfl := hn rfl
    have hrun := run_append_owned_none (P := P) (w := w) 0 t ty K.ty i K.size ht hi v l.length (K.cells l) hown.1
    exact ⟨v, T, w, hrun, by rw [List.append_nil]; exact hown, Goes.refl _ _ _, .inl rfl, by simp⟩
  | some ad =>
    obtain ⟨v', w', hrun, h2, h3, h4, h5⟩ := run_append_own_at (P := P) w 0 t ty K.ty i K.zero K.size K.bytes ht hi hz hsize hby K.zc K.pos v l.length (K.cells l) hown.1 ad r.length c (K.cells r) (by rw [K.cells_length]) (newsK hr ad rfl) (K.cells_one r) (by unfold maxLen; have h1 := h41; omega) h40 (Nat.zero_le _)
    rcases h2.2 with ⟨e1, e2⟩ | ⟨g, cap, cur, hv, _⟩
    · have hl : l = [] := List.eq_nil_of_length_eq_zero (by omega)
      have hr0 : r = [] := List.eq_nil_of_length_eq_zero (by omega)
      subst hl; subst hr0
      have hv := (h4.1 e1).1
      refine ⟨v', T, w', hrun, ⟨by rw [e1]; exact World.ownsRow_nil _ _ _ _, by rw [e1]; simp [Value.ownBlock]⟩, ⟨h3.os, h3.tape, h3.output, h3.size, fun b hb _ => h3.block b hb (by rw [hv]; simp [Value.ownBlock]), fun _ _ _ => rfl, fun _ _ h => h⟩, h5, by simp⟩
    · subst hv
      have hat : v.ownBlock = some g ∨ g = w.heap.size := by
        rcases h5 with h5 | h5
        · exact .inl (by rw [← h5]; rfl)
        · exact .inr (by simpa [Value.ownBlock] using h5)
      obtain ⟨k1, k2⟩ := hown.grown h3 h2 rfl hat (Nat.le_refl _)
      exact ⟨_, _, w', hrun, k1, k2, h5, by simp⟩
theorem wp_appKb {P : Program} (K : Knd α) (w : World) {o : Oper} {a : Act} {C : Act → World → Prop} {Q : Exit → Act → World → Prop} (s x : Operand) (t : TypeId)
    (ho : o.op = .call { callee := .builtin .append, args := #[s, x], argTypes := #[t, t] })
    (i : TypeInfo) (ht : P.underlying t = some (.slice K.ty)) (hi : P.info? K.ty = some i) (hz : i.zero = some K.zero) (hsize : i.size = K.size) (hby : i.bytes = K.bytes)
    (g : Nat) (T : Nat → Nat) (v : Value) (l : List α) (hs : a.eval s = v) (hown : OwnK K g T w v l) (ao : Option Addr) (m c : Nat) (r : List α) (hx : a.eval x = .slice ao m c) (hm : m = r.length) (hn : ao = none → c = 0) (hr : IsK K w ao r) (h41 : l.length + r.length ≤ 140737488355328) (h40 : (l.length + r.length) * K.bytes ≤ 140737488355328)
    (h : ∀ a' c' T' w', OwnK K g T' w' (.slice a' (l.length + r.length) c') (l ++ r) → Goes (· = g) T w T' w' → C (a.put o.dst (.slice a' (l.length + r.length) c')) w') : o.wp P a w C Q := by
  obtain ⟨v', T', w', hr, h2, h3, h4, h5⟩ := run_appKb (P := P) K w t o.type i ht hi hz hsize hby g T v l hown ao m c r hm hn hr h41 h40
  unfold Oper.wp execOp
  simp only [ho, resolve, invoke, builtin, Sem.run_bind, Sem.run_pure, Result.andThen_ok, List.map_toArray, List.map_cons, List.map_nil, hs, hx, hr]
  obtain ⟨a', c', rfl, _⟩ := h2.form
  rw [List.length_append] at h2 h4 ⊢
  exact h a' c' T' w' h2 h3
theorem wpList_appKb {P : Program} (K : Knd α) (w : World) {ops : Array Oper} {rest : List Oper} {o : Oper} {a : Act} {Q : Exit → Act → World → Prop} (hgd : o.guard = none) (s x : Operand) (t : TypeId)
    (ho : o.op = .call { callee := .builtin .append, args := #[s, x], argTypes := #[t, t] })
    (i : TypeInfo) (ht : P.underlying t = some (.slice K.ty)) (hi : P.info? K.ty = some i) (hz : i.zero = some K.zero) (hsize : i.size = K.size) (hby : i.bytes = K.bytes)
    (g : Nat) (T : Nat → Nat) (v : Value) (l : List α) (hs : a.eval s = v) (hown : OwnK K g T w v l) (ao : Option Addr) (m c : Nat) (r : List α) (hx : a.eval x = .slice ao m c) (hm : m = r.length) (hn : ao = none → c = 0) (hr : IsK K w ao r) (h41 : l.length + r.length ≤ 140737488355328) (h40 : (l.length + r.length) * K.bytes ≤ 140737488355328)
    (h : ∀ a' c' T' w', OwnK K g T' w' (.slice a' (l.length + r.length) c') (l ++ r) → Goes (· = g) T w T' w' → wpList P ops Q rest (a.put o.dst (.slice a' (l.length + r.length) c')) w') : wpList P ops Q (o :: rest) a w :=
  wpList_plain hgd fun _ hK => wp_appKb K w s x t ho i ht hi hz hsize hby g T v l hs hown ao m c r hx hm hn hr h41 h40 fun a' c' T' w' h2 h3 => hK _ _ (h a' c' T' w' h2 h3)
end
/-- lists of a kind, as things of a list -/
def lotI (i : Nat) : Int := if i % 2 = 0 then -7701 else -7702
set_option maxHeartbeats 400000 in
theorem lot_any (x : Int) (i : Nat) (w : World) (hx : x = i) (hi : i ≤ 1000000) : Calls Tryz.prog 70 #[.int .i64 x] w fun e w' => e = .returned (.int .i64 (lotI i)) ∧ w' = w := by
  subst hx
  unfold lotI
  by_cases h : i % 2 = 0
  · have g : ((i : Int) % 2 == 0) = true := by simp; omega
    rw [if_pos h]
    go_enter Tryz.func70, Tryz.ntmps70
    go_wp2
    go_ret
    exact ⟨rfl, rfl⟩
  · have g : ((i : Int) % 2 == 0) = false := by simp; omega
    rw [if_neg h]
    go_enter Tryz.func70, Tryz.ntmps70
    go_wp2
    go_ret
    exact ⟨rfl, rfl⟩
def wordS (i : Nat) : ByteArray := if i % 2 = 0 then ⟨#[60, 111, 110, 101, 62]⟩ else ⟨#[60, 116, 119, 111, 62]⟩
set_option maxHeartbeats 400000 in
theorem word_any (x : Int) (i : Nat) (w : World) (hx : x = i) (hi : i ≤ 1000000) : Calls Tryz.prog 69 #[.int .i64 x] w fun e w' => e = .returned (.string (wordS i)) ∧ w' = w := by
  subst hx
  unfold wordS
  by_cases h : i % 2 = 0
  · have g : ((i : Int) % 2 == 0) = true := by simp; omega
    rw [if_pos h]
    go_enter Tryz.func69, Tryz.ntmps69
    go_wp2
    go_ret
    exact ⟨rfl, rfl⟩
  · have g : ((i : Int) % 2 == 0) = false := by simp; omega
    rw [if_neg h]
    go_enter Tryz.func69, Tryz.ntmps69
    go_wp2
    go_ret
    exact ⟨rfl, rfl⟩
theorem own_some {α : Type} {K : Knd α} {t : Nat} {T : Nat → Nat} {w : World} {v : Value} {l : List α} (h : OwnK K t T w v l) (hl : 0 < l.length) : ∃ g c, v = .slice (some ⟨g, 0, none⟩) l.length c ∧ l.length ≤ c := by
  rcases h.1.2 with ⟨_, h2⟩ | ⟨g, cap, cur, hv, _, _, hc, _⟩
  · omega
  · exact ⟨g, cap, hv, hc⟩
theorem lt_len {α : Type} {l : List α} {i : Nat} {x : α} (h : l[i]? = some x) : i < l.length := (List.getElem?_eq_some_iff.1 h).1
end Vr
end Go.Proofs.YtaejjpbpnedblaaGreat
namespace Go.Proofs.YtaejjpbpnedblaaGreat
namespace Vr
open Go.Shelf Go.RowKit Go.Lib Go.Sort Go.Maps Go.ChangeMaps Go.MapKept Laws Irw Crw
set_option linter.unusedVariables false
set_option linter.unusedSimpArgs false
set_option maxRecDepth 20000
def muI (i : Nat) : Int := if i % 2 = 0 then 18446744073709543915 else 18446744073709543914
/-- the marks behind a list -/
def msU (k : Nat) : List Int := (List.range k).map muI
theorem msU_succ (k : Nat) : msU (k + 1) = msU k ++ [muI k] := by simp [msU, List.range_succ]
theorem msU_len (k : Nat) : (msU k).length = k := by simp [msU]
theorem msU_get {k i : Nat} (h : i < k) : (msU k)[i]? = some (muI i) := by simp [msU, h]
def kSU : Knd Sv := ⟨26, 1, 24, .slice none 0 0, fun s => [.slice s.1 s.2.1 s.2.2], fun _ => rfl, fun x u hu => by simp at hu; subst hu; rfl, by omega, rfl, by omega⟩
theorem infoSU : (Tryz.prog.info? 26).map (fun i => (i.zero, i.size, i.bytes)) = some (some kSU.zero, 1, 24) := by kernel_rfl
theorem isK_oneU (w : World) (x : Int) : IsK kU (w.alloc (.cells #[.int .u64 x] 55)) (some ⟨w.heap.size, 0, none⟩) [x] := isK_zb (Zb.new w #[.int .u64 x] 55)
theorem isK_slU (w : World) (a : Option Addr) (n c : Nat) : IsK kSU (w.alloc (.cells #[.slice a n c] 26)) (some ⟨w.heap.size, 0, none⟩) [(a, n, c)] := isK_zb (Zb.new w #[.slice a n c] 26)
/-- one list of this kind is lent -/
structure RmU (T : Nat → Nat) (w : World) (v4 v5 : Value) (g n c : Nat) (l : List Int) : Prop where
  o4 : OwnK kSU 11 T w v4 [(some ⟨g, 0, none⟩, n + 40, c)]
  o5 : OwnK kI 12 T w v5 [(n : Int)]
  o : OwnK kU 15 T w (.slice (some ⟨g, 0, none⟩) (n + 40) c) (l ++ msU 40)
  len : l.length = n
theorem RmU.goes {T T' : Nat → Nat} {w w' : World} {v4 v5 : Value} {g n c : Nat} {l : List Int} (h : RmU T w v4 v5 g n c l) {t : Nat → Prop} (hg : Goes t T w T' w') (h1 : ¬ t 11) (h2 : ¬ t 12) (h3 : ¬ t 15) : RmU T' w' v4 v5 g n c l := ⟨h.o4.goes hg h1, h.o5.goes hg h2, h.o.goes hg h3, h.len⟩
theorem RmU.below {T : Nat → Nat} {w w' : World} {v4 v5 : Value} {g n c : Nat} {l : List Int} (h : RmU T w v4 v5 g n c l) (hb : RowKit.Below w.heap.size w w') : RmU T w' v4 v5 g n c l := h.goes (t := fun _ => False) (Goes.below hb) (fun z => z) (fun z => z) (fun z => z)
/-- the list that is lent -/
theorem RmU.ls {T : Nat → Nat} {w : World} {v4 v5 : Value} {g n c : Nat} {l : List Int} (h : RmU T w v4 v5 g n c l) : Ls kU w (some ⟨g, 0, none⟩, n, n + 40) l := by
  obtain ⟨h1, h2, h3, h4, h5⟩ := Ls.own (s := (some ⟨g, 0, none⟩, n + 40, c)) h.o
  refine ⟨fun hne => ?_, h.len.symm, fun e => (by cases e), by show l.length ≤ n + 40; rw [h.len]; omega, .inr ⟨_, _, rfl⟩⟩
  obtain ⟨b, off, e, hr⟩ := h1 (by intro e; exact hne (List.append_eq_nil_iff.1 e).1)
  refine ⟨b, off, e, hr.1, fun i x hx => hr.2 i x ?_⟩
  rw [List.getElem?_append_left (lt_len hx)]
  exact hx
theorem RmU.set {T : Nat → Nat} {w : World} {v4 v5 : Value} {g n c : Nat} {l : List Int} (h : RmU T w v4 v5 g n c l) {i : Nat} (hi : i < n) (x : Int) : RmU T (w.setCell ⟨g, i, none⟩ (.int .u64 x)) v4 v5 g n c (l.set i x) ∧ Goes (· = 15) T w T (w.setCell ⟨g, i, none⟩ (.int .u64 x)) := by
  have hT : T g = 15 := ((OwnK.sk (s := (some ⟨g, 0, none⟩, n + 40, c)) h.o).2.2.2.2.2 g 0 rfl).1
  have hG : Goes (· = 15) T w T (w.setCell ⟨g, i, none⟩ (.int .u64 x)) := Goes.setCell hT
  have h1 := ownK_set (m := i) (j := 0) (x := x) (u := .int .u64 x) h.o (by rw [List.length_append, h.len, msU_len]) (by rw [List.length_append, h.len, msU_len]; omega) (by show 0 < 1; omega) (fun y _ => rfl)
  rw [show i * kU.size + 0 = i by show i * 1 + 0 = i; omega, List.set_append_left _ _ (by rw [h.len]; exact hi)] at h1
  exact ⟨⟨h.o4.goes hG (by decide), h.o5.goes hG (by decide), h1, by rw [List.length_set]; exact h.len⟩, hG⟩
/-- what layNums leaves -/
def LyU (T : Nat → Nat) (w : World) (R : Nat) (cs : List Value) (l : List Int) (e : Ending) (w' : World) : Prop := ∃ (g c : Nat) (v4 v5 : Value) (T' : Nat → Nat), e = .returned (.slice (some ⟨g, 0, none⟩) l.length (l.length + 40)) ∧ Zb w' R ((cs.set 4 v4).set 5 v5) ∧ RmU T' w' v4 v5 g l.length c l ∧ Goes (fun t => t = 10 ∨ t = 11 ∨ t = 12 ∨ t = 15) T w T' w' ∧ T' R = 10
set_option maxHeartbeats 4000000 in
theorem layU_any (T : Nat → Nat) (w : World) (R : Nat) (cs : List Value) (hZ : Zb w R cs) (hTR : T R = 10) (h4 : cs[4]? = some (.slice none 0 0)) (h5 : cs[5]? = some (.slice none 0 0)) (xa : Option Addr) (xc : Nat) (l : List Int) (hx : IsK kU w xa l) (hn : xa = none → xc = 0) (hlen : l.length ≤ 17592186044300) :
    Calls Tryz.prog 30 #[.pointer (some ⟨R, 0, none⟩), .slice xa l.length xc, .int .i64 40] w fun e w' => LyU T w R cs l e w' := by
  obtain ⟨iz1, iz2, iz3, iz4, iz5⟩ := info_parts infoU
  obtain ⟨is1, is2, is3, is4, is5⟩ := info_parts infoSU
  obtain ⟨ii1, ii2, ii3, ii4, ii5⟩ := info_parts infoI
  have HZ := hidV (And.intro hZ (And.intro hTR (And.intro h4 h5)))
  have HI := hidV (And.intro hx hn)
  obtain ⟨hO0, hG0⟩ := own_lit0 kU T 15 w
  obtain ⟨T1, hT1⟩ : ∃ T1, Irw.upd T w.heap.size 15 = T1 := ⟨_, rfl⟩
  rw [hT1] at hO0 hG0
  have HO0 := hidV (And.intro hO0 hG0)
  have HX0 : Hid (IsK kU (w.alloc (.cells #[] 55)) xa l) := hx.below ((Below.refl _ _).alloc (Nat.le_refl _) _)
  clear hZ hTR h4 h5 hx hn hO0 hG0 hT1
  go_enter Tryz.func30, Tryz.ntmps30
  go_upto_region 3 with (at_builtin; go_loud (refine wpList_appKb kU _ (by rfl) (.tmp 10) (.tmp 11) 26 (by rfl) iz1 Tryz.underlying26 iz2 iz3 iz4 iz5 15 T1 (.slice (some ⟨w.heap.size, 0, none⟩) 0 0) [] (by rfl) HO0.out.1 xa l.length xc l (by rfl) rfl HI.out.2 HX0.out (by first | (rw [List.length_singleton]; omega) | (simp; omega)) (by first | (rw [List.length_singleton]; show (_ + 1) * 8 ≤ 140737488355328; omega) | (show (_ + _) * 8 ≤ 140737488355328; simp; omega)) ?_; intro a' c' T2 w2 ho2 hg2; have H2 : Hid (OwnK kU 15 T2 w2 (.slice a' l.length c') l ∧ Goes (· = 15) T w T2 w2) := ⟨by simpa using ho2, HO0.out.2.trans hg2⟩; clear ho2 hg2; simp only [List.length_nil, Nat.zero_add]))
  clear HO0 HX0
  go_wp2_with fail
  go_loopw [7, 8] (fun v i wr => ∃ (k : Nat) (s : Sv) (T' : Nat → Nat), k ≤ 40 ∧ v = .slice s.1 s.2.1 s.2.2 ∧ i = .int .i64 (k : Int) ∧ Hid (OwnK kU 15 T' wr (svV s) (l ++ msU k) ∧ Goes (· = 15) T w T' wr)) (fun _ i _ => 40 - (intOf i).toNat)
  case atStart => exact ⟨0, (a', l.length, c'), T2, Nat.zero_le _, rfl, rfl, by rw [show l ++ msU 0 = l by simp [msU]]; exact H2.out.1, H2.out.2⟩
  case round =>
    obtain ⟨k, ⟨ra, rn, rc⟩, T3, hk, rfl, rfl, HR⟩ := hrel
    simp only at *
    rename World => wr
    by_cases hlt : k < 40
    · have q1 : (k : Int) < 40 := by omega
      obtain ⟨q, m, hq, hm, hqm⟩ : ∃ q m : Int, lotI k = q ∧ muI k = m ∧ IntKind.u64.wrap q = m := ⟨_, _, rfl, rfl, by unfold lotI muI; split <;> rfl⟩
      have hll : (l ++ msU k).length ≤ 17592186044350 := by rw [List.length_append, msU_len]; omega
      have HMS : Hid (msU (k + 1) = msU k ++ [m]) := by
        show _ = _
        rw [msU_succ, hm]
      clear hm
      go_wp2_with (first
        | (go_at_call 70; go_loud (refine (lot_any _ k _ rfl (by omega)).mono ?_; rintro e w5 ⟨rfl, hw5⟩; have hw6 := hw5.symm; clear hw5; subst hw6; try rw [hq]))
        | (at_builtin; go_loud (refine wpList_appKb kU _ (by rfl) (.tmp 18) (.tmp 22) 26 (by rfl) iz1 Tryz.underlying26 iz2 iz3 iz4 iz5 15 T3 (.slice ra rn rc) (l ++ msU k) (by rfl) (HR.out.1.below ((Below.refl _ _).alloc (Nat.le_refl _) _)) (some ⟨wr.heap.size, 0, none⟩) 1 1 [m] (by rfl) rfl (by simp) (isK_oneU _ _) (by first | (rw [List.length_singleton]; omega) | (simp; omega)) (by first | (rw [List.length_singleton]; show (_ + 1) * 8 ≤ 140737488355328; omega) | (show (_ + _) * 8 ≤ 140737488355328; simp; omega)) ?_; intro a9 c9 T9 w9 ho9 hg9; have H9 : Hid (OwnK kU 15 T9 w9 (.slice a9 ((l ++ msU k).length + 1) c9) ((l ++ msU k) ++ [m]) ∧ Goes (· = 15) T w T9 w9) := ⟨ho9, HR.out.2.trans ((Goes.below (t := (· = 15)) ((Below.refl _ _).alloc (Nat.le_refl _) _)).trans hg9)⟩; clear ho9 hg9; simp only [List.length_singleton])))
      go_roundw
      case rel =>
        refine ⟨k + 1, (a9, _, c9), T9, by omega, rfl, by (try go_num), ?_, H9.out.2⟩
        rw [HMS.out, ← List.append_assoc]
        first
        | exact H9.out.1
        | (have h8 := H9.out.1; rw [List.length_append, msU_len] at h8; rw [msU_len]; exact h8)
        | (have h8 := H9.out.1; simpa using h8)
      case measure => simp [intOf]; omega
    · have hk40 : k = 40 := by omega
      subst hk40
      obtain ⟨g, c, eg, hcap⟩ := own_some HR.out.1 (by rw [List.length_append, msU_len]; omega)
      rw [List.length_append, msU_len] at eg hcap
      simp only [svV, Value.slice.injEq] at eg
      obtain ⟨rfl, rfl, rfl⟩ := eg
      have q1 : ¬ (40 : Int) < 40 := by omega
      have HZr : Hid (Zb wr R cs) := HZ.out.1.goes HR.out.2 (by rw [HZ.out.2.1]; decide)
      have d4 := HZr.out.2.1 4 _ HZ.out.2.2.1
      have f4 := HZr.out.2.2
      have hci : (l.length : Int) + 40 ≤ (rc : Int) := by omega
      have hci2 : (l.length : Int) ≤ (l.length : Int) + 40 := by omega
      have HTr : Hid (T3 R = 10) := (HR.out.2.tag R HZ.out.1.1 (by rw [HZ.out.2.1]; decide)).trans HZ.out.2.1
      go_upto_region 8 with (at_builtin; go_loud (refine wpList_appK kSU _ (by rfl) (.tmp 28) (.tmp 30) 37 (by rfl) is1 Tryz.underlying37 is2 is3 is4 is5 11 T3 (.slice none 0 0) [] (by rfl) (OwnK.empty _ _ _) (some ⟨wr.heap.size, 0, none⟩) 1 1 [(some ⟨g, 0, none⟩, l.length + 40, rc)] (by rfl) rfl (by simp) (isK_slU _ _ _ _) (by simp) ?_; intro a7 c7 T7 w7 ho7 hg7; have H7 : Hid (OwnK kSU 11 T7 w7 (.slice a7 1 c7) [(some ⟨g, 0, none⟩, l.length + 40, rc)] ∧ Goes (· = 11) T3 wr T7 w7) := ⟨by simpa using ho7, (Goes.below (t := (· = 11)) ((Below.refl _ _).alloc (Nat.le_refl _) _)).trans hg7⟩; have HZ7 : Hid (Zb w7 R cs) := HZr.out.goes H7.out.2 (by rw [HTr.out]; decide); have e4 := HZ7.out.2.1 4 _ HZ.out.2.2.1; have g4 := HZ7.out.2.2 4; clear ho7 hg7; simp only [List.length_singleton, List.length_nil, Nat.zero_add]))
      obtain ⟨X7, hX7⟩ : ∃ X, w7.setCell ⟨R, 4, none⟩ (.slice a7 1 c7) = X := ⟨_, rfl⟩
      have HT7 : Hid (T7 R = 10) := (H7.out.2.tag R HZr.out.1 (by rw [HTr.out]; decide)).trans HTr.out
      have H8 : Hid (Zb X7 R (cs.set 4 (.slice a7 1 c7)) ∧ Goes (· = 10) T7 w7 T7 X7) := by
        subst hX7
        exact ⟨HZ7.out.set 4 _, Goes.setCell HT7.out⟩
      rw [hX7]
      clear hX7 d4 f4 e4 g4
      have h5' : (cs.set 4 (.slice a7 1 c7))[5]? = some (.slice none 0 0) := by
        rw [List.getElem?_set_ne (by decide)]
        exact HZ.out.2.2.2
      have H5' := hidV h5'
      have d5 := H8.out.1.2.1 5 _ h5'
      clear h5'
      go_upto_region 9 with (at_builtin; go_loud (refine wpList_appK kI _ (by rfl) (.tmp 38) (.tmp 41) 35 (by rfl) ii1 Tryz.underlying35 ii2 ii3 ii4 ii5 12 T7 (.slice none 0 0) [] (by rfl) (OwnK.empty _ _ _) (some ⟨X7.heap.size, 0, none⟩) 1 1 [(l.length : Int)] (by rfl) rfl (by simp) (isK_int _ _) (by simp) ?_; intro a6 c6 T6 w6 ho6 hg6; have H6 : Hid (OwnK kI 12 T6 w6 (.slice a6 1 c6) [(l.length : Int)] ∧ Goes (· = 12) T7 X7 T6 w6) := ⟨by simpa using ho6, (Goes.below (t := (· = 12)) ((Below.refl _ _).alloc (Nat.le_refl _) _)).trans hg6⟩; have HZ6 : Hid (Zb w6 R (cs.set 4 (.slice a7 1 c7))) := H8.out.1.goes H6.out.2 (by rw [HT7.out]; decide); have e5 := HZ6.out.2.1 5 _ H5'.out; have g5 := HZ6.out.2.2 5; clear ho6 hg6; simp only [List.length_singleton, List.length_nil, Nat.zero_add]))
      obtain ⟨X6, hX6⟩ : ∃ X, w6.setCell ⟨R, 5, none⟩ (.slice a6 1 c6) = X := ⟨_, rfl⟩
      have HT6 : Hid (T6 R = 10) := (H6.out.2.tag R H8.out.1.1 (by rw [HT7.out]; decide)).trans HT7.out
      have H9 : Hid (Zb X6 R ((cs.set 4 (.slice a7 1 c7)).set 5 (.slice a6 1 c6)) ∧ Goes (· = 10) T6 w6 T6 X6) := by
        subst hX6
        exact ⟨HZ6.out.set 5 _, Goes.setCell HT6.out⟩
      rw [hX6]
      clear hX6 d5 e5 g5
      have HRM : Hid (RmU T6 X6 (.slice a7 1 c7) (.slice a6 1 c6) g l.length rc l) := by
        have s4 := ((H7.out.1.goes H8.out.2 (by decide)).goes H6.out.2 (by decide)).goes H9.out.2 (by decide)
        have s5 := H6.out.1.goes H9.out.2 (by decide)
        have s := (((HR.out.1.goes H7.out.2 (by decide)).goes H8.out.2 (by decide)).goes H6.out.2 (by decide)).goes H9.out.2 (by decide)
        exact ⟨s4, s5, s, rfl⟩
      have HGG : Hid (Goes (fun t => t = 10 ∨ t = 11 ∨ t = 12 ∨ t = 15) T w T6 X6) := by
        have g1 := HR.out.2.mono (t' := fun t => t = 10 ∨ t = 11 ∨ t = 12 ∨ t = 15) (fun x hx => by omega)
        have g2 := H7.out.2.mono (t' := fun t => t = 10 ∨ t = 11 ∨ t = 12 ∨ t = 15) (fun x hx => by omega)
        have g3 := H8.out.2.mono (t' := fun t => t = 10 ∨ t = 11 ∨ t = 12 ∨ t = 15) (fun x hx => by omega)
        have g4 := H6.out.2.mono (t' := fun t => t = 10 ∨ t = 11 ∨ t = 12 ∨ t = 15) (fun x hx => by omega)
        have g5 := H9.out.2.mono (t' := fun t => t = 10 ∨ t = 11 ∨ t = 12 ∨ t = 15) (fun x hx => by omega)
        exact (((g1.trans g2).trans g3).trans g4).trans g5
      go_wp2
      go_ret
      exact ⟨g, rc, _, _, T6, rfl, H9.out.1, HRM.out, HGG.out, HT6.out⟩
end Vr
end Go.Proofs.YtaejjpbpnedblaaGreat
namespace Go.Proofs.YtaejjpbpnedblaaGreat
namespace Vr
open Go.Shelf Go.RowKit Go.Lib Go.Sort Go.Maps Go.ChangeMaps Go.MapKept Laws Irw Crw
set_option linter.unusedVariables false
set_option linter.unusedSimpArgs false
set_option maxRecDepth 20000
/-- the marks behind a list -/
def msT (k : Nat) : List ByteArray := (List.range k).map wordS
theorem msT_succ (k : Nat) : msT (k + 1) = msT k ++ [wordS k] := by simp [msT, List.range_succ]
theorem msT_len (k : Nat) : (msT k).length = k := by simp [msT]
theorem msT_get {k i : Nat} (h : i < k) : (msT k)[i]? = some (wordS i) := by simp [msT, h]
def kST : Knd Sv := ⟨25, 1, 24, .slice none 0 0, fun s => [.slice s.1 s.2.1 s.2.2], fun _ => rfl, fun x u hu => by simp at hu; subst hu; rfl, by omega, rfl, by omega⟩
theorem infoST : (Tryz.prog.info? 25).map (fun i => (i.zero, i.size, i.bytes)) = some (some kST.zero, 1, 24) := by kernel_rfl
theorem isK_oneT (w : World) (x : ByteArray) : IsK kT (w.alloc (.cells #[.string x] 9)) (some ⟨w.heap.size, 0, none⟩) [x] := isK_zb (Zb.new w #[.string x] 9)
theorem isK_slT (w : World) (a : Option Addr) (n c : Nat) : IsK kST (w.alloc (.cells #[.slice a n c] 25)) (some ⟨w.heap.size, 0, none⟩) [(a, n, c)] := isK_zb (Zb.new w #[.slice a n c] 25)
/-- one list of this kind is lent -/
structure RmT (T : Nat → Nat) (w : World) (v4 v5 : Value) (g n c : Nat) (l : List ByteArray) : Prop where
  o4 : OwnK kST 13 T w v4 [(some ⟨g, 0, none⟩, n + 40, c)]
  o5 : OwnK kI 14 T w v5 [(n : Int)]
  o : OwnK kT 16 T w (.slice (some ⟨g, 0, none⟩) (n + 40) c) (l ++ msT 40)
  len : l.length = n
theorem RmT.goes {T T' : Nat → Nat} {w w' : World} {v4 v5 : Value} {g n c : Nat} {l : List ByteArray} (h : RmT T w v4 v5 g n c l) {t : Nat → Prop} (hg : Goes t T w T' w') (h1 : ¬ t 13) (h2 : ¬ t 14) (h3 : ¬ t 16) : RmT T' w' v4 v5 g n c l := ⟨h.o4.goes hg h1, h.o5.goes hg h2, h.o.goes hg h3, h.len⟩
theorem RmT.below {T : Nat → Nat} {w w' : World} {v4 v5 : Value} {g n c : Nat} {l : List ByteArray} (h : RmT T w v4 v5 g n c l) (hb : RowKit.Below w.heap.size w w') : RmT T w' v4 v5 g n c l := h.goes (t := fun _ => False) (Goes.below hb) (fun z => z) (fun z => z) (fun z => z)
/-- the list that is lent -/
theorem RmT.ls {T : Nat → Nat} {w : World} {v4 v5 : Value} {g n c : Nat} {l : List ByteArray} (h : RmT T w v4 v5 g n c l) : Ls kT w (some ⟨g, 0, none⟩, n, n + 40) l := by
  obtain ⟨h1, h2, h3, h4, h5⟩ := Ls.own (s := (some ⟨g, 0, none⟩, n + 40, c)) h.o
  refine ⟨fun hne => ?_, h.len.symm, fun e => (by cases e), by show l.length ≤ n + 40; rw [h.len]; omega, .inr ⟨_, _, rfl⟩⟩
  obtain ⟨b, off, e, hr⟩ := h1 (by intro e; exact hne (List.append_eq_nil_iff.1 e).1)
  refine ⟨b, off, e, hr.1, fun i x hx => hr.2 i x ?_⟩
  rw [List.getElem?_append_left (lt_len hx)]
  exact hx
theorem RmT.set {T : Nat → Nat} {w : World} {v4 v5 : Value} {g n c : Nat} {l : List ByteArray} (h : RmT T w v4 v5 g n c l) {i : Nat} (hi : i < n) (x : ByteArray) : RmT T (w.setCell ⟨g, i, none⟩ (.string x)) v4 v5 g n c (l.set i x) ∧ Goes (· = 16) T w T (w.setCell ⟨g, i, none⟩ (.string x)) := by
  have hT : T g = 16 := ((OwnK.sk (s := (some ⟨g, 0, none⟩, n + 40, c)) h.o).2.2.2.2.2 g 0 rfl).1
  have hG : Goes (· = 16) T w T (w.setCell ⟨g, i, none⟩ (.string x)) := Goes.setCell hT
  have h1 := ownK_set (m := i) (j := 0) (x := x) (u := .string x) h.o (by rw [List.length_append, h.len, msT_len]) (by rw [List.length_append, h.len, msT_len]; omega) (by show 0 < 1; omega) (fun y _ => rfl)
  rw [show i * kT.size + 0 = i by show i * 1 + 0 = i; omega, List.set_append_left _ _ (by rw [h.len]; exact hi)] at h1
  exact ⟨⟨h.o4.goes hG (by decide), h.o5.goes hG (by decide), h1, by rw [List.length_set]; exact h.len⟩, hG⟩
/-- what layTexts leaves -/
def LyT (T : Nat → Nat) (w : World) (R : Nat) (cs : List Value) (l : List ByteArray) (e : Ending) (w' : World) : Prop := ∃ (g c : Nat) (v4 v5 : Value) (T' : Nat → Nat), e = .returned (.slice (some ⟨g, 0, none⟩) l.length (l.length + 40)) ∧ Zb w' R ((cs.set 6 v4).set 7 v5) ∧ RmT T' w' v4 v5 g l.length c l ∧ Goes (fun t => t = 10 ∨ t = 13 ∨ t = 14 ∨ t = 16) T w T' w' ∧ T' R = 10
set_option maxHeartbeats 4000000 in
theorem layT_any (T : Nat → Nat) (w : World) (R : Nat) (cs : List Value) (hZ : Zb w R cs) (hTR : T R = 10) (h4 : cs[6]? = some (.slice none 0 0)) (h5 : cs[7]? = some (.slice none 0 0)) (xa : Option Addr) (xc : Nat) (l : List ByteArray) (hx : IsK kT w xa l) (hn : xa = none → xc = 0) (hlen : l.length ≤ 900000000000) :
    Calls Tryz.prog 29 #[.pointer (some ⟨R, 0, none⟩), .slice xa l.length xc, .int .i64 40] w fun e w' => LyT T w R cs l e w' := by
  obtain ⟨iz1, iz2, iz3, iz4, iz5⟩ := info_parts infoT
  obtain ⟨is1, is2, is3, is4, is5⟩ := info_parts infoST
  obtain ⟨ii1, ii2, ii3, ii4, ii5⟩ := info_parts infoI
  have HZ := hidV (And.intro hZ (And.intro hTR (And.intro h4 h5)))
  have HI := hidV (And.intro hx hn)
  obtain ⟨hO0, hG0⟩ := own_lit0 kT T 16 w
  obtain ⟨T1, hT1⟩ : ∃ T1, Irw.upd T w.heap.size 16 = T1 := ⟨_, rfl⟩
  rw [hT1] at hO0 hG0
  have HO0 := hidV (And.intro hO0 hG0)
  have HX0 : Hid (IsK kT (w.alloc (.cells #[] 9)) xa l) := hx.below ((Below.refl _ _).alloc (Nat.le_refl _) _)
  clear hZ hTR h4 h5 hx hn hO0 hG0 hT1
  go_enter Tryz.func29, Tryz.ntmps29
  go_upto_region 3 with (at_builtin; go_loud (refine wpList_appK kT _ (by rfl) (.tmp 10) (.tmp 11) 25 (by rfl) iz1 Tryz.underlying25 iz2 iz3 iz4 iz5 16 T1 (.slice (some ⟨w.heap.size, 0, none⟩) 0 0) [] (by rfl) HO0.out.1 xa l.length xc l (by rfl) rfl HI.out.2 HX0.out (by simp; omega) ?_; intro a' c' T2 w2 ho2 hg2; have H2 : Hid (OwnK kT 16 T2 w2 (.slice a' l.length c') l ∧ Goes (· = 16) T w T2 w2) := ⟨by simpa using ho2, HO0.out.2.trans hg2⟩; clear ho2 hg2; simp only [List.length_nil, Nat.zero_add]))
  clear HO0 HX0
  go_wp2_with fail
  go_loopw [7, 8] (fun v i wr => ∃ (k : Nat) (s : Sv) (T' : Nat → Nat), k ≤ 40 ∧ v = .slice s.1 s.2.1 s.2.2 ∧ i = .int .i64 (k : Int) ∧ Hid (OwnK kT 16 T' wr (svV s) (l ++ msT k) ∧ Goes (· = 16) T w T' wr)) (fun _ i _ => 40 - (intOf i).toNat)
  case atStart => exact ⟨0, (a', l.length, c'), T2, Nat.zero_le _, rfl, rfl, by rw [show l ++ msT 0 = l by simp [msT]]; exact H2.out.1, H2.out.2⟩
  case round =>
    obtain ⟨k, ⟨ra, rn, rc⟩, T3, hk, rfl, rfl, HR⟩ := hrel
    simp only at *
    rename World => wr
    by_cases hlt : k < 40
    · have q1 : (k : Int) < 40 := by omega
      have hll : (l ++ msT k).length ≤ 900000000100 := by rw [List.length_append, msT_len]; omega
      have HMS : Hid (msT (k + 1) = msT k ++ [wordS k]) := by
        show _ = _
        rw [msT_succ]
      go_wp2_with (first
        | (go_at_call 69; go_loud (refine (word_any _ k _ rfl (by omega)).mono ?_; rintro e w5 ⟨rfl, hw5⟩; have hw6 := hw5.symm; clear hw5; subst hw6))
        | (at_builtin; go_loud (refine wpList_appK kT _ (by rfl) (.tmp 18) (.tmp 21) 25 (by rfl) iz1 Tryz.underlying25 iz2 iz3 iz4 iz5 16 T3 (.slice ra rn rc) (l ++ msT k) (by rfl) (HR.out.1.below ((Below.refl _ _).alloc (Nat.le_refl _) _)) (some ⟨wr.heap.size, 0, none⟩) 1 1 [wordS k] (by rfl) rfl (by simp) (isK_oneT _ _) (by rw [List.length_singleton]; omega) ?_; intro a9 c9 T9 w9 ho9 hg9; have H9 : Hid (OwnK kT 16 T9 w9 (.slice a9 ((l ++ msT k).length + 1) c9) ((l ++ msT k) ++ [wordS k]) ∧ Goes (· = 16) T w T9 w9) := ⟨ho9, HR.out.2.trans ((Goes.below (t := (· = 16)) ((Below.refl _ _).alloc (Nat.le_refl _) _)).trans hg9)⟩; clear ho9 hg9; simp only [List.length_singleton])))
      go_roundw
      case rel =>
        refine ⟨k + 1, (a9, _, c9), T9, by omega, rfl, by (try go_num), ?_, H9.out.2⟩
        rw [HMS.out, ← List.append_assoc]
        first
        | exact H9.out.1
        | (have h8 := H9.out.1; rw [List.length_append, msT_len] at h8; rw [msT_len]; exact h8)
        | (have h8 := H9.out.1; simpa using h8)
      case measure => simp [intOf]; omega
    · have hk40 : k = 40 := by omega
      subst hk40
      obtain ⟨g, c, eg, hcap⟩ := own_some HR.out.1 (by rw [List.length_append, msT_len]; omega)
      rw [List.length_append, msT_len] at eg hcap
      simp only [svV, Value.slice.injEq] at eg
      obtain ⟨rfl, rfl, rfl⟩ := eg
      have q1 : ¬ (40 : Int) < 40 := by omega
      have HZr : Hid (Zb wr R cs) := HZ.out.1.goes HR.out.2 (by rw [HZ.out.2.1]; decide)
      have d4 := HZr.out.2.1 6 _ HZ.out.2.2.1
      have f4 := HZr.out.2.2
      have hci : (l.length : Int) + 40 ≤ (rc : Int) := by omega
      have hci2 : (l.length : Int) ≤ (l.length : Int) + 40 := by omega
      have HTr : Hid (T3 R = 10) := (HR.out.2.tag R HZ.out.1.1 (by rw [HZ.out.2.1]; decide)).trans HZ.out.2.1
      go_upto_region 8 with (at_builtin; go_loud (refine wpList_appK kST _ (by rfl) (.tmp 27) (.tmp 29) 38 (by rfl) is1 Tryz.underlying38 is2 is3 is4 is5 13 T3 (.slice none 0 0) [] (by rfl) (OwnK.empty _ _ _) (some ⟨wr.heap.size, 0, none⟩) 1 1 [(some ⟨g, 0, none⟩, l.length + 40, rc)] (by rfl) rfl (by simp) (isK_slT _ _ _ _) (by simp) ?_; intro a7 c7 T7 w7 ho7 hg7; have H7 : Hid (OwnK kST 13 T7 w7 (.slice a7 1 c7) [(some ⟨g, 0, none⟩, l.length + 40, rc)] ∧ Goes (· = 13) T3 wr T7 w7) := ⟨by simpa using ho7, (Goes.below (t := (· = 13)) ((Below.refl _ _).alloc (Nat.le_refl _) _)).trans hg7⟩; have HZ7 : Hid (Zb w7 R cs) := HZr.out.goes H7.out.2 (by rw [HTr.out]; decide); have e4 := HZ7.out.2.1 6 _ HZ.out.2.2.1; have g4 := HZ7.out.2.2 6; clear ho7 hg7; simp only [List.length_singleton, List.length_nil, Nat.zero_add]))
      obtain ⟨X7, hX7⟩ : ∃ X, w7.setCell ⟨R, 6, none⟩ (.slice a7 1 c7) = X := ⟨_, rfl⟩
      have HT7 : Hid (T7 R = 10) := (H7.out.2.tag R HZr.out.1 (by rw [HTr.out]; decide)).trans HTr.out
      have H8 : Hid (Zb X7 R (cs.set 6 (.slice a7 1 c7)) ∧ Goes (· = 10) T7 w7 T7 X7) := by
        subst hX7
        exact ⟨HZ7.out.set 6 _, Goes.setCell HT7.out⟩
      rw [hX7]
      clear hX7 d4 f4 e4 g4
      have h5' : (cs.set 6 (.slice a7 1 c7))[7]? = some (.slice none 0 0) := by
        rw [List.getElem?_set_ne (by decide)]
        exact HZ.out.2.2.2
      have H5' := hidV h5'
      have d5 := H8.out.1.2.1 7 _ h5'
      clear h5'
      go_upto_region 9 with (at_builtin; go_loud (refine wpList_appK kI _ (by rfl) (.tmp 37) (.tmp 40) 35 (by rfl) ii1 Tryz.underlying35 ii2 ii3 ii4 ii5 14 T7 (.slice none 0 0) [] (by rfl) (OwnK.empty _ _ _) (some ⟨X7.heap.size, 0, none⟩) 1 1 [(l.length : Int)] (by rfl) rfl (by simp) (isK_int _ _) (by simp) ?_; intro a6 c6 T6 w6 ho6 hg6; have H6 : Hid (OwnK kI 14 T6 w6 (.slice a6 1 c6) [(l.length : Int)] ∧ Goes (· = 14) T7 X7 T6 w6) := ⟨by simpa using ho6, (Goes.below (t := (· = 14)) ((Below.refl _ _).alloc (Nat.le_refl _) _)).trans hg6⟩; have HZ6 : Hid (Zb w6 R (cs.set 6 (.slice a7 1 c7))) := H8.out.1.goes H6.out.2 (by rw [HT7.out]; decide); have e5 := HZ6.out.2.1 7 _ H5'.out; have g5 := HZ6.out.2.2 7; clear ho6 hg6; simp only [List.length_singleton, List.length_nil, Nat.zero_add]))
      obtain ⟨X6, hX6⟩ : ∃ X, w6.setCell ⟨R, 7, none⟩ (.slice a6 1 c6) = X := ⟨_, rfl⟩
      have HT6 : Hid (T6 R = 10) := (H6.out.2.tag R H8.out.1.1 (by rw [HT7.out]; decide)).trans HT7.out
      have H9 : Hid (Zb X6 R ((cs.set 6 (.slice a7 1 c7)).set 7 (.slice a6 1 c6)) ∧ Goes (· = 10) T6 w6 T6 X6) := by
        subst hX6
        exact ⟨HZ6.out.set 7 _, Goes.setCell HT6.out⟩
      rw [hX6]
      clear hX6 d5 e5 g5
      have HRM : Hid (RmT T6 X6 (.slice a7 1 c7) (.slice a6 1 c6) g l.length rc l) := by
        have s4 := ((H7.out.1.goes H8.out.2 (by decide)).goes H6.out.2 (by decide)).goes H9.out.2 (by decide)
        have s5 := H6.out.1.goes H9.out.2 (by decide)
        have s := (((HR.out.1.goes H7.out.2 (by decide)).goes H8.out.2 (by decide)).goes H6.out.2 (by decide)).goes H9.out.2 (by decide)
        exact ⟨s4, s5, s, rfl⟩
      have HGG : Hid (Goes (fun t => t = 10 ∨ t = 13 ∨ t = 14 ∨ t = 16) T w T6 X6) := by
        have g1 := HR.out.2.mono (t' := fun t => t = 10 ∨ t = 13 ∨ t = 14 ∨ t = 16) (fun x hx => by omega)
        have g2 := H7.out.2.mono (t' := fun t => t = 10 ∨ t = 13 ∨ t = 14 ∨ t = 16) (fun x hx => by omega)
        have g3 := H8.out.2.mono (t' := fun t => t = 10 ∨ t = 13 ∨ t = 14 ∨ t = 16) (fun x hx => by omega)
        have g4 := H6.out.2.mono (t' := fun t => t = 10 ∨ t = 13 ∨ t = 14 ∨ t = 16) (fun x hx => by omega)
        have g5 := H9.out.2.mono (t' := fun t => t = 10 ∨ t = 13 ∨ t = 14 ∨ t = 16) (fun x hx => by omega)
        exact (((g1.trans g2).trans g3).trans g4).trans g5
      go_wp2
      go_ret
      exact ⟨g, rc, _, _, T6, rfl, H9.out.1, HRM.out, HGG.out, HT6.out⟩
end Vr
end Go.Proofs.YtaejjpbpnedblaaGreat
namespace Go.Proofs.YtaejjpbpnedblaaGreat
namespace Vr
open Go.Shelf Go.RowKit Go.Lib Go.Sort Go.Maps Go.ChangeMaps Go.MapKept Laws Irw Crw
set_option linter.unusedVariables false
set_option linter.unusedSimpArgs false
set_option maxRecDepth 20000
set_option maxHeartbeats 4000000 in
theorem holdU_any (T : Nat → Nat) (w : World) (R : Nat) (cs : List Value) (v4 v5 : Value) (g n c : Nat) (l : List Int) (hZ : Zb w R cs) (h4 : cs[4]? = some v4) (h5 : cs[5]? = some v5) (h : RmU T w v4 v5 g n c l) (hn : n ≤ 17592186044350) : Calls Tryz.prog 42 #[.pointer (some ⟨R, 0, none⟩)] w fun e w' => e = .returned (.bool true) ∧ w' = w := by
  obtain ⟨b4, k4, rfl, _⟩ := own_some h.o4 (by simp)
  obtain ⟨b5, k5, rfl, _⟩ := own_some h.o5 (by simp)
  have d4 := hZ.2.1 4 _ h4
  have d5 := hZ.2.1 5 _ h5
  simp only [List.length_singleton] at d4 d5
  obtain ⟨b4', o4', e4, _, c4⟩ := (Ls.own (s := (some ⟨b4, 0, none⟩, 1, k4)) h.o4).cell (i := 0) (x := (some ⟨g, 0, none⟩, n + 40, c)) rfl
  simp only [Option.some.injEq, Addr.mk.injEq] at e4
  obtain ⟨rfl, rfl, _⟩ := e4
  obtain ⟨b5', o5', e5, _, c5⟩ := (Ls.own (s := (some ⟨b5, 0, none⟩, 1, k5)) h.o5).cell (i := 0) (x := (n : Int)) rfl
  simp only [Option.some.injEq, Addr.mk.injEq] at e5
  obtain ⟨rfl, rfl, _⟩ := e5
  have x4 : w.cell? ⟨b4, 0, none⟩ = some (.slice (some ⟨g, 0, none⟩) (n + 40) c) := by
    have := c4 0 _ rfl
    simpa [kSU] using this
  have x5 : w.cell? ⟨b5, 0, none⟩ = some (.int .i64 (n : Int)) := by
    have := c5 0 _ rfl
    simpa [kI] using this
  have HM : Hid (∀ q, q < 40 → w.cell? ⟨g, n + q, none⟩ = some (.int .u64 (muI q))) := fun q hq => by
    have hx : (l ++ msU 40)[n + q]? = some (muI q) := by
      rw [List.getElem?_append_right (by rw [h.len]; omega), h.len, Nat.add_sub_cancel_left]
      exact msU_get hq
    obtain ⟨b, off, e, _, hc⟩ := (Ls.own (s := (some ⟨g, 0, none⟩, n + 40, c)) h.o).cell hx
    simp only [Option.some.injEq, Addr.mk.injEq] at e
    obtain ⟨rfl, rfl, _⟩ := e
    have := hc 0 _ rfl
    simpa [kU] using this
  clear c4 c5 h hZ h4 h5
  go_enter Tryz.func42, Tryz.ntmps42
  go_wp2
  go_loopw [3] (fun i wr => (i = .int .i64 0 ∨ i = .int .i64 1) ∧ wr = w) (fun i _ => 1 - (intOf i).toNat)
  case atStart => exact ⟨.inl rfl, by first | trivial | rfl⟩
  case round =>
    obtain ⟨hi, rfl⟩ := hrel
    rename World => wr
    rcases hi with rfl | rfl
    · go_wp2
      go_loopw [5] (fun i wq => ∃ q : Nat, q ≤ 40 ∧ i = .int .i64 ((n : Int) + (q : Int)) ∧ wq = wr) (fun i _ => n + 40 - (intOf i).toNat)
      case atStart => exact ⟨0, Nat.zero_le _, by simp, by first | trivial | rfl⟩
      case round =>
        obtain ⟨q, hq, rfl, rfl⟩ := hrel
        rename World => wq
        by_cases hlt : q < 40
        · have q1 : (n : Int) + (q : Int) < (n : Int) + 40 := by omega
          have q0 : (0 : Int) ≤ (n : Int) + (q : Int) := by omega
          have xm := HM.out q hlt
          obtain ⟨m, z, hm, hz, hzm⟩ : ∃ m z : Int, muI q = m ∧ lotI q = z ∧ IntKind.u64.wrap z = m := ⟨_, _, rfl, rfl, by unfold lotI muI; split <;> rfl⟩
          have HZM : Hid (lotI q = z ∧ True) := ⟨hz, trivial⟩
          rw [hm] at xm
          clear hz hm
          go_wp2_with (go_at_call 70; go_loud (refine (lot_any _ q _ (by omega) (by omega)).mono ?_; rintro e w5 ⟨rfl, hw5⟩; have hw6 := hw5.symm; clear hw5; subst hw6; try rw [HZM.out.1]))
          go_roundw
          case rel => exact ⟨q + 1, by omega, by (try go_num); (try omega), by first | trivial | rfl⟩
          case measure => simp [intOf]; omega
        · have q1 : ¬ (n : Int) + (q : Int) < (n : Int) + 40 := by omega
          go_wp2
          go_roundw
          case rel => exact ⟨.inr rfl, by first | trivial | rfl⟩
          case measure => simp [intOf]
    · go_wp2
      go_ret
      exact ⟨rfl, by first | trivial | rfl⟩
set_option maxHeartbeats 4000000 in
theorem holdT_any (T : Nat → Nat) (w : World) (R : Nat) (cs : List Value) (v4 v5 : Value) (g n c : Nat) (l : List ByteArray) (hZ : Zb w R cs) (h4 : cs[6]? = some v4) (h5 : cs[7]? = some v5) (h : RmT T w v4 v5 g n c l) (hn : n ≤ 900000000100) : Calls Tryz.prog 43 #[.pointer (some ⟨R, 0, none⟩)] w fun e w' => e = .returned (.bool true) ∧ w' = w := by
  obtain ⟨b4, k4, rfl, _⟩ := own_some h.o4 (by simp)
  obtain ⟨b5, k5, rfl, _⟩ := own_some h.o5 (by simp)
  have d4 := hZ.2.1 6 _ h4
  have d5 := hZ.2.1 7 _ h5
  simp only [List.length_singleton] at d4 d5
  obtain ⟨b4', o4', e4, _, c4⟩ := (Ls.own (s := (some ⟨b4, 0, none⟩, 1, k4)) h.o4).cell (i := 0) (x := (some ⟨g, 0, none⟩, n + 40, c)) rfl
  simp only [Option.some.injEq, Addr.mk.injEq] at e4
  obtain ⟨rfl, rfl, _⟩ := e4
  obtain ⟨b5', o5', e5, _, c5⟩ := (Ls.own (s := (some ⟨b5, 0, none⟩, 1, k5)) h.o5).cell (i := 0) (x := (n : Int)) rfl
  simp only [Option.some.injEq, Addr.mk.injEq] at e5
  obtain ⟨rfl, rfl, _⟩ := e5
  have x4 : w.cell? ⟨b4, 0, none⟩ = some (.slice (some ⟨g, 0, none⟩) (n + 40) c) := by
    have := c4 0 _ rfl
    simpa [kST] using this
  have x5 : w.cell? ⟨b5, 0, none⟩ = some (.int .i64 (n : Int)) := by
    have := c5 0 _ rfl
    simpa [kI] using this
  have HM : Hid (∀ q, q < 40 → w.cell? ⟨g, n + q, none⟩ = some (.string (wordS q))) := fun q hq => by
    have hx : (l ++ msT 40)[n + q]? = some (wordS q) := by
      rw [List.getElem?_append_right (by rw [h.len]; omega), h.len, Nat.add_sub_cancel_left]
      exact msT_get hq
    obtain ⟨b, off, e, _, hc⟩ := (Ls.own (s := (some ⟨g, 0, none⟩, n + 40, c)) h.o).cell hx
    simp only [Option.some.injEq, Addr.mk.injEq] at e
    obtain ⟨rfl, rfl, _⟩ := e
    have := hc 0 _ rfl
    simpa [kT] using this
  clear c4 c5 h hZ h4 h5
  go_enter Tryz.func43, Tryz.ntmps43
  go_wp2
  go_loopw [3] (fun i wr => (i = .int .i64 0 ∨ i = .int .i64 1) ∧ wr = w) (fun i _ => 1 - (intOf i).toNat)
  case atStart => exact ⟨.inl rfl, by first | trivial | rfl⟩
  case round =>
    obtain ⟨hi, rfl⟩ := hrel
    rename World => wr
    rcases hi with rfl | rfl
    · go_wp2
      go_loopw [5] (fun i wq => ∃ q : Nat, q ≤ 40 ∧ i = .int .i64 ((n : Int) + (q : Int)) ∧ wq = wr) (fun i _ => n + 40 - (intOf i).toNat)
      case atStart => exact ⟨0, Nat.zero_le _, by simp, by first | trivial | rfl⟩
      case round =>
        obtain ⟨q, hq, rfl, rfl⟩ := hrel
        rename World => wq
        by_cases hlt : q < 40
        · have q1 : (n : Int) + (q : Int) < (n : Int) + 40 := by omega
          have q0 : (0 : Int) ≤ (n : Int) + (q : Int) := by omega
          have xm := HM.out q hlt
          obtain ⟨m, hm⟩ : ∃ m, wordS q = m := ⟨_, rfl⟩
          have HZM : Hid (wordS q = m ∧ True) := ⟨hm, trivial⟩
          rw [hm] at xm
          clear hm
          go_wp2_with (go_at_call 69; go_loud (refine (word_any _ q _ (by omega) (by omega)).mono ?_; rintro e w5 ⟨rfl, hw5⟩; have hw6 := hw5.symm; clear hw5; subst hw6; try rw [HZM.out.1]))
          go_roundw
          case rel => exact ⟨q + 1, by omega, by (try go_num); (try omega), by first | trivial | rfl⟩
          case measure => simp [intOf]; omega
        · have q1 : ¬ (n : Int) + (q : Int) < (n : Int) + 40 := by omega
          go_wp2
          go_roundw
          case rel => exact ⟨.inr rfl, by first | trivial | rfl⟩
          case measure => simp [intOf]
    · go_wp2
      go_ret
      exact ⟨rfl, by first | trivial | rfl⟩
set_option maxHeartbeats 400000 in
theorem hold0_Bytes (R : Nat) (w : World) (hc : w.cell? ⟨R, 0, none⟩ = some (.slice none 0 0)) : Calls Tryz.prog 40 #[.pointer (some ⟨R, 0, none⟩)] w fun e w' => e = .returned (.bool true) ∧ w' = w := by
  go_enter Tryz.func40, Tryz.ntmps40
  go_wp2
  go_loopw [3] (fun i wr => i = .int .i64 0 ∧ wr = w) (fun _ _ => 0)
  case atStart => exact ⟨rfl, by first | trivial | rfl⟩
  case round =>
    obtain ⟨rfl, rfl⟩ := hrel
    go_wp2
    go_ret
    exact ⟨rfl, by first | trivial | rfl⟩
set_option maxHeartbeats 400000 in
theorem hold0_Ints (R : Nat) (w : World) (hc : w.cell? ⟨R, 2, none⟩ = some (.slice none 0 0)) : Calls Tryz.prog 41 #[.pointer (some ⟨R, 0, none⟩)] w fun e w' => e = .returned (.bool true) ∧ w' = w := by
  go_enter Tryz.func41, Tryz.ntmps41
  go_wp2
  go_loopw [3] (fun i wr => i = .int .i64 0 ∧ wr = w) (fun _ _ => 0)
  case atStart => exact ⟨rfl, by first | trivial | rfl⟩
  case round =>
    obtain ⟨rfl, rfl⟩ := hrel
    go_wp2
    go_ret
    exact ⟨rfl, by first | trivial | rfl⟩
set_option maxHeartbeats 400000 in
theorem hold0_Entries (R : Nat) (w : World) (hc : w.cell? ⟨R, 8, none⟩ = some (.slice none 0 0)) : Calls Tryz.prog 44 #[.pointer (some ⟨R, 0, none⟩)] w fun e w' => e = .returned (.bool true) ∧ w' = w := by
  go_enter Tryz.func44, Tryz.ntmps44
  go_wp2
  go_loopw [3] (fun i wr => i = .int .i64 0 ∧ wr = w) (fun _ _ => 0)
  case atStart => exact ⟨rfl, by first | trivial | rfl⟩
  case round =>
    obtain ⟨rfl, rfl⟩ := hrel
    go_wp2
    go_ret
    exact ⟨rfl, by first | trivial | rfl⟩
set_option maxHeartbeats 400000 in
theorem hold0_Pairs (R : Nat) (w : World) (hc : w.cell? ⟨R, 10, none⟩ = some (.slice none 0 0)) : Calls Tryz.prog 45 #[.pointer (some ⟨R, 0, none⟩)] w fun e w' => e = .returned (.bool true) ∧ w' = w := by
  go_enter Tryz.func45, Tryz.ntmps45
  go_wp2
  go_loopw [3] (fun i wr => i = .int .i64 0 ∧ wr = w) (fun _ _ => 0)
  case atStart => exact ⟨rfl, by first | trivial | rfl⟩
  case round =>
    obtain ⟨rfl, rfl⟩ := hrel
    go_wp2
    go_ret
    exact ⟨rfl, by first | trivial | rfl⟩
set_option maxHeartbeats 400000 in
theorem hold0_Writes (R : Nat) (w : World) (hc : w.cell? ⟨R, 12, none⟩ = some (.slice none 0 0)) : Calls Tryz.prog 46 #[.pointer (some ⟨R, 0, none⟩)] w fun e w' => e = .returned (.bool true) ∧ w' = w := by
  go_enter Tryz.func46, Tryz.ntmps46
  go_wp2
  go_loopw [3] (fun i wr => i = .int .i64 0 ∧ wr = w) (fun _ _ => 0)
  case atStart => exact ⟨rfl, by first | trivial | rfl⟩
  case round =>
    obtain ⟨rfl, rfl⟩ := hrel
    go_wp2
    go_ret
    exact ⟨rfl, by first | trivial | rfl⟩
set_option maxHeartbeats 400000 in
theorem hold0_Tables (R : Nat) (w : World) (hc : w.cell? ⟨R, 14, none⟩ = some (.slice none 0 0)) : Calls Tryz.prog 47 #[.pointer (some ⟨R, 0, none⟩)] w fun e w' => e = .returned (.bool true) ∧ w' = w := by
  go_enter Tryz.func47, Tryz.ntmps47
  go_wp2
  go_loopw [3] (fun i wr => i = .int .i64 0 ∧ wr = w) (fun _ _ => 0)
  case atStart => exact ⟨rfl, by first | trivial | rfl⟩
  case round =>
    obtain ⟨rfl, rfl⟩ := hrel
    go_wp2
    go_ret
    exact ⟨rfl, by first | trivial | rfl⟩
set_option maxHeartbeats 400000 in
theorem hold0_Places (R : Nat) (w : World) (hc : w.cell? ⟨R, 16, none⟩ = some (.slice none 0 0)) : Calls Tryz.prog 48 #[.pointer (some ⟨R, 0, none⟩)] w fun e w' => e = .returned (.bool true) ∧ w' = w := by
  go_enter Tryz.func48, Tryz.ntmps48
  go_wp2
  go_loopw [3] (fun i wr => i = .int .i64 0 ∧ wr = w) (fun _ _ => 0)
  case atStart => exact ⟨rfl, by first | trivial | rfl⟩
  case round =>
    obtain ⟨rfl, rfl⟩ := hrel
    go_wp2
    go_ret
    exact ⟨rfl, by first | trivial | rfl⟩
set_option maxHeartbeats 400000 in
theorem hold0_Placeds (R : Nat) (w : World) (hc : w.cell? ⟨R, 18, none⟩ = some (.slice none 0 0)) : Calls Tryz.prog 49 #[.pointer (some ⟨R, 0, none⟩)] w fun e w' => e = .returned (.bool true) ∧ w' = w := by
  go_enter Tryz.func49, Tryz.ntmps49
  go_wp2
  go_loopw [3] (fun i wr => i = .int .i64 0 ∧ wr = w) (fun _ _ => 0)
  case atStart => exact ⟨rfl, by first | trivial | rfl⟩
  case round =>
    obtain ⟨rfl, rfl⟩ := hrel
    go_wp2
    go_ret
    exact ⟨rfl, by first | trivial | rfl⟩
set_option maxHeartbeats 400000 in
theorem hold0_Chunks (R : Nat) (w : World) (hc : w.cell? ⟨R, 20, none⟩ = some (.slice none 0 0)) : Calls Tryz.prog 50 #[.pointer (some ⟨R, 0, none⟩)] w fun e w' => e = .returned (.bool true) ∧ w' = w := by
  go_enter Tryz.func50, Tryz.ntmps50
  go_wp2
  go_loopw [3] (fun i wr => i = .int .i64 0 ∧ wr = w) (fun _ _ => 0)
  case atStart => exact ⟨rfl, by first | trivial | rfl⟩
  case round =>
    obtain ⟨rfl, rfl⟩ := hrel
    go_wp2
    go_ret
    exact ⟨rfl, by first | trivial | rfl⟩
set_option maxHeartbeats 400000 in
theorem hold0_Groups (R : Nat) (w : World) (hc : w.cell? ⟨R, 22, none⟩ = some (.slice none 0 0)) : Calls Tryz.prog 51 #[.pointer (some ⟨R, 0, none⟩)] w fun e w' => e = .returned (.bool true) ∧ w' = w := by
  go_enter Tryz.func51, Tryz.ntmps51
  go_wp2
  go_loopw [3] (fun i wr => i = .int .i64 0 ∧ wr = w) (fun _ _ => 0)
  case atStart => exact ⟨rfl, by first | trivial | rfl⟩
  case round =>
    obtain ⟨rfl, rfl⟩ := hrel
    go_wp2
    go_ret
    exact ⟨rfl, by first | trivial | rfl⟩
set_option maxHeartbeats 400000 in
theorem hold0_Files (R : Nat) (w : World) (hc : w.cell? ⟨R, 24, none⟩ = some (.slice none 0 0)) : Calls Tryz.prog 52 #[.pointer (some ⟨R, 0, none⟩)] w fun e w' => e = .returned (.bool true) ∧ w' = w := by
  go_enter Tryz.func52, Tryz.ntmps52
  go_wp2
  go_loopw [3] (fun i wr => i = .int .i64 0 ∧ wr = w) (fun _ _ => 0)
  case atStart => exact ⟨rfl, by first | trivial | rfl⟩
  case round =>
    obtain ⟨rfl, rfl⟩ := hrel
    go_wp2
    go_ret
    exact ⟨rfl, by first | trivial | rfl⟩
set_option maxHeartbeats 400000 in
theorem hold0_Steps (R : Nat) (w : World) (hc : w.cell? ⟨R, 26, none⟩ = some (.slice none 0 0)) : Calls Tryz.prog 53 #[.pointer (some ⟨R, 0, none⟩)] w fun e w' => e = .returned (.bool true) ∧ w' = w := by
  go_enter Tryz.func53, Tryz.ntmps53
  go_wp2
  go_loopw [3] (fun i wr => i = .int .i64 0 ∧ wr = w) (fun _ _ => 0)
  case atStart => exact ⟨rfl, by first | trivial | rfl⟩
  case round =>
    obtain ⟨rfl, rfl⟩ := hrel
    go_wp2
    go_ret
    exact ⟨rfl, by first | trivial | rfl⟩
end Vr
end Go.Proofs.YtaejjpbpnedblaaGreat
namespace Go.Proofs.YtaejjpbpnedblaaGreat
namespace Vr
open Go.Shelf Go.RowKit Go.Lib Go.Sort Go.Maps Go.ChangeMaps Go.MapKept Laws Irw Crw
set_option linter.unusedVariables false
set_option linter.unusedSimpArgs false
set_option maxRecDepth 20000
/-- a room's cells -/
def roomC (v4 v5 v6 v7 : Value) : List Value := [.slice none 0 0, .slice none 0 0, .slice none 0 0, .slice none 0 0, v4, v5, v6, v7, .slice none 0 0, .slice none 0 0, .slice none 0 0, .slice none 0 0, .slice none 0 0, .slice none 0 0, .slice none 0 0, .slice none 0 0, .slice none 0 0, .slice none 0 0, .slice none 0 0, .slice none 0 0, .slice none 0 0, .slice none 0 0, .slice none 0 0, .slice none 0 0, .slice none 0 0, .slice none 0 0, .slice none 0 0, .slice none 0 0]
/-- a room that has lent texts and numbers -/
def RmS (T : Nat → Nat) (w : World) (R : Nat) (gu nu cu : Nat) (xs : List Int) (gt nt ct : Nat) (ps : List ByteArray) : Prop := ∃ v4 v5 v6 v7 : Value, Zb w R (roomC v4 v5 v6 v7) ∧ RmU T w v4 v5 gu nu cu xs ∧ RmT T w v6 v7 gt nt ct ps ∧ T R = 10
theorem RmS.below {T : Nat → Nat} {w w' : World} {R gu nu cu : Nat} {xs : List Int} {gt nt ct : Nat} {ps : List ByteArray} (h : RmS T w R gu nu cu xs gt nt ct ps) (hb : RowKit.Below w.heap.size w w') : RmS T w' R gu nu cu xs gt nt ct ps := by
  obtain ⟨v4, v5, v6, v7, h1, h2, h3, h4⟩ := h
  exact ⟨v4, v5, v6, v7, h1.below hb, h2.below hb, h3.below hb, h4⟩
theorem RmS.setU {T : Nat → Nat} {w : World} {R gu nu cu : Nat} {xs : List Int} {gt nt ct : Nat} {ps : List ByteArray} (h : RmS T w R gu nu cu xs gt nt ct ps) {i : Nat} (hi : i < nu) (x : Int) : RmS T (w.setCell ⟨gu, i, none⟩ (.int .u64 x)) R gu nu cu (xs.set i x) gt nt ct ps ∧ Goes (· = 15) T w T (w.setCell ⟨gu, i, none⟩ (.int .u64 x)) := by
  obtain ⟨v4, v5, v6, v7, h1, h2, h3, h4⟩ := h
  obtain ⟨g1, g2⟩ := h2.set hi x
  exact ⟨⟨v4, v5, v6, v7, h1.goes g2 (by rw [h4]; decide), g1, h3.goes g2 (by decide) (by decide) (by decide), h4⟩, g2⟩
theorem RmS.setT {T : Nat → Nat} {w : World} {R gu nu cu : Nat} {xs : List Int} {gt nt ct : Nat} {ps : List ByteArray} (h : RmS T w R gu nu cu xs gt nt ct ps) {i : Nat} (hi : i < nt) (x : ByteArray) : RmS T (w.setCell ⟨gt, i, none⟩ (.string x)) R gu nu cu xs gt nt ct (ps.set i x) ∧ Goes (· = 16) T w T (w.setCell ⟨gt, i, none⟩ (.string x)) := by
  obtain ⟨v4, v5, v6, v7, h1, h2, h3, h4⟩ := h
  obtain ⟨g1, g2⟩ := h3.set hi x
  exact ⟨⟨v4, v5, v6, v7, h1.goes g2 (by rw [h4]; decide), h2.goes g2 (by decide) (by decide) (by decide), g1, h4⟩, g2⟩
theorem RmS.lsU {T : Nat → Nat} {w : World} {R gu nu cu : Nat} {xs : List Int} {gt nt ct : Nat} {ps : List ByteArray} (h : RmS T w R gu nu cu xs gt nt ct ps) : Ls kU w (some ⟨gu, 0, none⟩, nu, nu + 40) xs := by
  obtain ⟨v4, v5, v6, v7, h1, h2, h3, h4⟩ := h
  exact h2.ls
theorem RmS.lsT {T : Nat → Nat} {w : World} {R gu nu cu : Nat} {xs : List Int} {gt nt ct : Nat} {ps : List ByteArray} (h : RmS T w R gu nu cu xs gt nt ct ps) : Ls kT w (some ⟨gt, 0, none⟩, nt, nt + 40) ps := by
  obtain ⟨v4, v5, v6, v7, h1, h2, h3, h4⟩ := h
  exact h3.ls
theorem RmS.fz {T : Nat → Nat} {w : World} {R gu nu cu : Nat} {xs : List Int} {gt nt ct : Nat} {ps : List ByteArray} (h : RmS T w R gu nu cu xs gt nt ct ps) : (∀ j, w.frozen? ⟨gu, j, none⟩ = false) ∧ ∀ j, w.frozen? ⟨gt, j, none⟩ = false := by
  obtain ⟨v4, v5, v6, v7, h1, h2, h3, h4⟩ := h
  have f : ∀ {α : Type} {K : Knd α} {t : Nat} {g n c : Nat} {l : List α}, OwnK K t T w (.slice (some ⟨g, 0, none⟩) n c) l → ∀ j, w.frozen? ⟨g, j, none⟩ = false := fun {α K t g n c l} h j => by
    have hn : n = l.length := (OwnK.sk (s := (some ⟨g, 0, none⟩, n, c)) h).1
    subst hn
    exact h.1.frozenAt j
  exact ⟨f h2.o, f h3.o⟩
set_option maxHeartbeats 4000000 in
theorem rhold_any (T : Nat → Nat) (w : World) (R gu nu cu : Nat) (xs : List Int) (gt nt ct : Nat) (ps : List ByteArray) (h : RmS T w R gu nu cu xs gt nt ct ps) (hu : nu ≤ 17592186044350) (ht : nt ≤ 900000000000) : Calls Tryz.prog 12 #[.pointer (some ⟨R, 0, none⟩)] w fun e w' => e = .returned (.bool true) ∧ w' = w := by
  obtain ⟨v4, v5, v6, v7, h1, h2, h3, h4⟩ := h
  have HU : Hid (Calls Tryz.prog 42 #[.pointer (some ⟨R, 0, none⟩)] w fun e w' => e = .returned (.bool true) ∧ w' = w) := holdU_any T w R _ v4 v5 gu nu cu xs h1 rfl rfl h2 hu
  have HT : Hid (Calls Tryz.prog 43 #[.pointer (some ⟨R, 0, none⟩)] w fun e w' => e = .returned (.bool true) ∧ w' = w) := holdT_any T w R _ v6 v7 gt nt ct ps h1 rfl rfl h3 (by omega)
  have H0 := hidV h1
  clear h1 h2 h3 h4
  go_enter Tryz.func12, Tryz.ntmps12
  go_wp2_with (first
    | (go_at_call 40; go_loud (refine (hold0_Bytes R w (H0.out.2.1 0 _ rfl)).mono ?_; rintro e w5 ⟨rfl, hw5⟩; have hw6 := hw5.symm; clear hw5; subst hw6))
    | (go_at_call 41; go_loud (refine (hold0_Ints R w (H0.out.2.1 2 _ rfl)).mono ?_; rintro e w5 ⟨rfl, hw5⟩; have hw6 := hw5.symm; clear hw5; subst hw6))
    | (go_at_call 44; go_loud (refine (hold0_Entries R w (H0.out.2.1 8 _ rfl)).mono ?_; rintro e w5 ⟨rfl, hw5⟩; have hw6 := hw5.symm; clear hw5; subst hw6))
    | (go_at_call 45; go_loud (refine (hold0_Pairs R w (H0.out.2.1 10 _ rfl)).mono ?_; rintro e w5 ⟨rfl, hw5⟩; have hw6 := hw5.symm; clear hw5; subst hw6))
    | (go_at_call 46; go_loud (refine (hold0_Writes R w (H0.out.2.1 12 _ rfl)).mono ?_; rintro e w5 ⟨rfl, hw5⟩; have hw6 := hw5.symm; clear hw5; subst hw6))
    | (go_at_call 47; go_loud (refine (hold0_Tables R w (H0.out.2.1 14 _ rfl)).mono ?_; rintro e w5 ⟨rfl, hw5⟩; have hw6 := hw5.symm; clear hw5; subst hw6))
    | (go_at_call 48; go_loud (refine (hold0_Places R w (H0.out.2.1 16 _ rfl)).mono ?_; rintro e w5 ⟨rfl, hw5⟩; have hw6 := hw5.symm; clear hw5; subst hw6))
    | (go_at_call 49; go_loud (refine (hold0_Placeds R w (H0.out.2.1 18 _ rfl)).mono ?_; rintro e w5 ⟨rfl, hw5⟩; have hw6 := hw5.symm; clear hw5; subst hw6))
    | (go_at_call 50; go_loud (refine (hold0_Chunks R w (H0.out.2.1 20 _ rfl)).mono ?_; rintro e w5 ⟨rfl, hw5⟩; have hw6 := hw5.symm; clear hw5; subst hw6))
    | (go_at_call 51; go_loud (refine (hold0_Groups R w (H0.out.2.1 22 _ rfl)).mono ?_; rintro e w5 ⟨rfl, hw5⟩; have hw6 := hw5.symm; clear hw5; subst hw6))
    | (go_at_call 52; go_loud (refine (hold0_Files R w (H0.out.2.1 24 _ rfl)).mono ?_; rintro e w5 ⟨rfl, hw5⟩; have hw6 := hw5.symm; clear hw5; subst hw6))
    | (go_at_call 53; go_loud (refine (hold0_Steps R w (H0.out.2.1 26 _ rfl)).mono ?_; rintro e w5 ⟨rfl, hw5⟩; have hw6 := hw5.symm; clear hw5; subst hw6))
    | (go_at_call 42; go_loud (refine HU.out.mono ?_; rintro e w5 ⟨rfl, hw5⟩; have hw6 := hw5.symm; clear hw5; subst hw6))
    | (go_at_call 43; go_loud (refine HT.out.mono ?_; rintro e w5 ⟨rfl, hw5⟩; have hw6 := hw5.symm; clear hw5; subst hw6)))
  go_ret
  exact ⟨rfl, by first | trivial | rfl⟩
set_option maxHeartbeats 4000000 in
theorem rtexts_any (T : Nat → Nat) (w : World) (R : Nat) (cs : List Value) (hZ : Zb w R cs) (hTR : T R = 10) (h4 : cs[6]? = some (.slice none 0 0)) (h5 : cs[7]? = some (.slice none 0 0)) (xa : Option Addr) (xc : Nat) (l : List ByteArray) (hx : IsK kT w xa l) (hn : xa = none → xc = 0) (hlen : l.length ≤ 900000000000) :
    Calls Tryz.prog 8 #[.pointer (some ⟨R, 0, none⟩), .slice xa l.length xc] w fun e w' => LyT T w R cs l e w' := by
  have HL : Hid (Calls Tryz.prog 29 #[.pointer (some ⟨R, 0, none⟩), .slice xa l.length xc, .int .i64 40] w fun e w' => LyT T w R cs l e w') := layT_any T w R cs hZ hTR h4 h5 xa xc l hx hn hlen
  clear hZ hTR h4 h5 hx hn
  go_enter Tryz.func8, Tryz.ntmps8
  go_wp2_with (go_at_call 29; go_loud (refine HL.out.mono ?_; rintro e w5 ⟨g, c, v4, v5, T', rfl, h1, h2, h3, h6⟩; have H := hidV (And.intro h1 (And.intro h2 (And.intro h3 h6))); clear h1 h2 h3 h6))
  go_ret
  exact ⟨g, c, v4, v5, T', rfl, H.out.1, H.out.2.1, H.out.2.2.1, H.out.2.2.2⟩
set_option maxHeartbeats 4000000 in
theorem rnums_any (T : Nat → Nat) (w : World) (R : Nat) (cs : List Value) (hZ : Zb w R cs) (hTR : T R = 10) (h4 : cs[4]? = some (.slice none 0 0)) (h5 : cs[5]? = some (.slice none 0 0)) (xa : Option Addr) (xc : Nat) (l : List Int) (hx : IsK kU w xa l) (hn : xa = none → xc = 0) (hlen : l.length ≤ 17592186044300) :
    Calls Tryz.prog 9 #[.pointer (some ⟨R, 0, none⟩), .slice xa l.length xc] w fun e w' => LyU T w R cs l e w' := by
  have HL : Hid (Calls Tryz.prog 30 #[.pointer (some ⟨R, 0, none⟩), .slice xa l.length xc, .int .i64 40] w fun e w' => LyU T w R cs l e w') := layU_any T w R cs hZ hTR h4 h5 xa xc l hx hn hlen
  clear hZ hTR h4 h5 hx hn
  go_enter Tryz.func9, Tryz.ntmps9
  go_wp2_with (go_at_call 30; go_loud (refine HL.out.mono ?_; rintro e w5 ⟨g, c, v4, v5, T', rfl, h1, h2, h3, h6⟩; have H := hidV (And.intro h1 (And.intro h2 (And.intro h3 h6))); clear h1 h2 h3 h6))
  go_ret
  exact ⟨g, c, v4, v5, T', rfl, H.out.1, H.out.2.1, H.out.2.2.1, H.out.2.2.2⟩
end Vr
end Go.Proofs.YtaejjpbpnedblaaGreat
