import Derived.Test.YtilkjfbjlljnhaaGreatVv
import Derived.LaidEqlPtr
namespace Go.Proofs.YtilkjfbjlljnhaaGreat
namespace Vr
open Go.Shelf Go.RowKit Go.Lib Go.Sort Go.Maps Go.ChangeMaps Go.MapKept Laws Irw Crw
set_option linter.unusedVariables false
set_option linter.unusedSimpArgs false
set_option maxRecDepth 20000
theorem infoVer : (Tryz.prog.info? 83).map (fun i => (i.zero, i.size, i.bytes)) = some (some (.agg #[.slice none 0 0]), 1, 24) := by kernel_rfl
/-- gone, where nothing has gone -/
def GnIs (T : Nat → Nat) (w : World) (mb : Nat) (e : Ending) (w' : World) : Prop := e = .returned (.slice none 0 0) ∧ Goes (· = 2) T w T w' ∧ ∃ m D, OwnM w' mb m D
set_option maxHeartbeats 4000000 in
theorem gone_none {T : Nat → Nat} {w : World} {sb vb nb mb m : Nat} {D : Dat} {ps : Sv} {V V' : Lv} (hts : T sb = 1) (htm : T mb = 2) (hbox : Zb w sb [.pointer (some ⟨nb, 0, none⟩), .slice none 0 0, svV ps, .map (some mb)]) (hv' : VT T w nb V') (hv : VT T w vb V) (hm : OwnM w mb m D) (hno : NumOk V') (hne : vb ≠ nb) (hsub : ∀ x, x ∈ nums V → x ∈ nums V') :
    Calls Tryz.prog 40 #[.pointer (some ⟨sb, 0, none⟩), .pointer (some ⟨vb, 0, none⟩)] w fun e w' => GnIs T w mb e w' := by
  have hlt : nb < w.heap.size := by obtain ⟨_, _, _, s, hz, _⟩ := hv'; exact hz.1
  have c0 := hbox.2.1 0 _ rfl
  have hpe : (binOp .eql 29 (.pointer (some ⟨vb, 0, none⟩)) (.pointer (some ⟨nb, 0, none⟩))).run Tryz.prog w = .ok (.bool false) w := by
    obtain ⟨_, _, ⟨c1, t1, k1⟩, _⟩ := hv
    obtain ⟨_, _, ⟨c2, t2, k2⟩, _⟩ := hv'
    obtain ⟨j, hj, _, hjs, _⟩ := info_parts infoVer
    exact run_eql_ptr_other w Tryz.underlying29 hj (by rw [hjs]; decide) (fun e => hne (by injection e)) k1 k2
  have HF : Hid (Calls Tryz.prog 61 #[.pointer (some ⟨sb, 0, none⟩), .pointer (some ⟨vb, 0, none⟩)] w fun e w' => e = .returned (.int .i64 (-1)) ∧ RowKit.Below w.heap.size w w') := find_nil sb vb _ _ _ w hbox
  have HA : Hid (T sb = 1 ∧ T mb = 2 ∧ Zb w sb [.pointer (some ⟨nb, 0, none⟩), .slice none 0 0, svV ps, .map (some mb)] ∧ VT T w nb V' ∧ VT T w vb V ∧ OwnM w mb m D ∧ NumOk V' ∧ (∀ x, x ∈ nums V → x ∈ nums V') ∧ NumOk V) := ⟨hts, htm, hbox, hv', hv, hm, hno, hsub, fun l hl t ht => by
    obtain ⟨t', ht', e⟩ := List.mem_map.1 (hsub _ (mem_nums hl ht))
    obtain ⟨l', hl', ht''⟩ := List.mem_flatten.1 ht'
    rw [← e]
    exact hno l' hl' t' ht''⟩
  clear hts htm hbox hv' hv hm hno hsub
  go_enter Tryz.func40, Tryz.ntmps40
  go_upto_region 3 with (go_at_call 61; go_loud (refine HF.out.mono ?_; rintro e w1 ⟨rfl, hb1⟩; have HB1 : Hid (RowKit.Below w.heap.size w w1) := hb1; clear hb1))
  have HR : Hid (Calls Tryz.prog 62 #[.pointer (some ⟨sb, 0, none⟩)] w1 fun e w' => CtIs T w1 mb (nums V') e w') := by
    have hg := Goes.below (t := fun _ => False) (T := T) HB1.out
    exact recount_any HA.out.1 HA.out.2.1 (HA.out.2.2.1.below HB1.out) (HA.out.2.2.2.1.goes hg (fun z => z)) (HA.out.2.2.2.2.2.1.block (HB1.out.block mb HA.out.2.2.2.2.2.1.lt)) HA.out.2.2.2.2.2.2.1
  go_upto_region 4 with (go_at_call 62; go_loud (refine HR.out.mono ?_; rintro e w2 ⟨rfl, hg2, hc2⟩; have HX : Hid (Goes (· = 2) T w T w2 ∧ CAt T w2 2 mb (nums V')) := ⟨(Goes.below (t := (· = 2)) HB1.out).trans hg2, hc2⟩; clear hg2 hc2))
  clear HR HF c0 HB1
  obtain ⟨hf, hvt, _, ⟨sa, sn, sc⟩, hz, hlv⟩ := HA.out.2.2.2.2.1
  have hn := hlv.1
  change sn = V.length at hn
  subst hn
  have hv5 := hf.1
  have c0 := (hz.goes HX.out.1 (by rw [hvt]; decide)).2.1 0 _ rfl
  simp only [svV] at c0
  have HV : Hid (LvT T w (sa, V.length, sc) V ∧ Fits V) := ⟨hlv, hf⟩
  clear hlv hf hz hvt
  go_wp2
  go_loopw [5, 29] (fun o i wr => ∃ k : Nat, k ≤ V.length ∧ o = .slice none 0 0 ∧ i = .int .i64 (k : Int) ∧ Hid (Goes (· = 2) T w T wr ∧ CAt T wr 2 mb (nums V'))) (fun _ i _ => V.length - (intOf i).toNat)
  case atStart => exact ⟨0, Nat.zero_le _, rfl, rfl, HX.out⟩
  case round =>
    clear HX c0
    obtain ⟨k, hk, rfl, rfl, HX⟩ := hrel
    rename World => wr
    by_cases hlt : k < V.length
    · have q1 : (k : Int) < (V.length : Int) := by omega
      obtain ⟨l, hl⟩ : ∃ l, V[k]? = some l := ⟨_, List.getElem?_eq_getElem hlt⟩
      obtain ⟨lb, off, rfl, hlb, htl, ⟨va, vn, vc⟩, hc, hi⟩ := HV.out.1.cell hl
      have hvn := hi.2.1
      change vn = l.length at hvn
      subst hvn
      have hc2 := (HX.out.1.cell hlb (by rw [htl]; decide)).trans hc
      simp only [svV] at hc2
      have HI : Hid (Isk kTb T w (va, l.length, vc) l ∧ V[k]? = some l) := ⟨hi, hl⟩
      have hll := HV.out.2.2 l (List.mem_of_getElem? hl)
      clear hc hi hl
      go_wp2
      go_loopw [5, 35] (fun o i wr => ∃ j : Nat, j ≤ l.length ∧ o = .slice none 0 0 ∧ i = .int .i64 (j : Int) ∧ Hid (Goes (· = 2) T w T wr ∧ CAt T wr 2 mb (nums V'))) (fun _ i _ => l.length - (intOf i).toNat)
      case atStart => exact ⟨0, Nat.zero_le _, rfl, rfl, HX.out⟩
      case round =>
        clear HX hc2
        obtain ⟨j, hj, rfl, rfl, HY⟩ := hrel
        rename World => wq
        by_cases hlj : j < l.length
        · have q2 : (j : Int) < (l.length : Int) := by omega
          obtain ⟨b, off2, rfl, hb, t, ht, y0, y1, y2, y3, y4, y5⟩ := (isk_goes2 HI.out.1 HY.out.1).ls.tb hlj
          have hb1 : RowKit.Below wq.heap.size wq (wq.alloc (Obj.cells #[.int .u64 (t.no : Int), .int .i64 t.we, .int .i64 t.by_, .int .i64 t.en, .string t.le, .string t.gr] 43)) := (Below.refl _ _).alloc (Nat.le_refl _) _
          have hml := List.mem_of_getElem? HI.out.2
          have hmt := List.mem_of_getElem? ht
          have htn : t.no < U64 := HA.out.2.2.2.2.2.2.2.2 l hml t hmt
          have x0 := ((HA.out.2.2.1.goes HY.out.1 (by rw [HA.out.1]; decide)).below hb1).2.1 3 _ rfl
          have hlk := (HY.out.2.below hb1.drew).look t.no htn
          have hpos : 0 < (nums V').count t.no := List.count_pos_iff.2 (HA.out.2.2.2.2.2.2.2.1 _ (mem_nums hml hmt))
          obtain ⟨q, hq⟩ : ∃ q, (nums V').count t.no = q := ⟨_, rfl⟩
          rw [hq] at hlk hpos
          have q3 : ¬ (q : Int) = 0 := by omega
          have q4 : ((q : Int) == 0) = false := by simpa using q3
          clear hq
          go_wp2
          go_region
          all_goals
            go_wp2
            go_roundw
            case rel => exact ⟨j + 1, by omega, rfl, by go_num, HY.out.1.trans (Goes.below (t := (· = 2)) hb1.drew), HY.out.2.below hb1.drew⟩
            case measure => simp [intOf]; omega
        · have q2 : ¬ (j : Int) < (l.length : Int) := by omega
          go_wp2
          go_roundw
          case rel => exact ⟨k + 1, by omega, rfl, by go_num, HY.out⟩
          case measure => simp [intOf]; omega
    · have q1 : ¬ (k : Int) < (V.length : Int) := by omega
      go_wp2_with (go_at_call 63; go_loud (refine (sort64_nil _).mono ?_; rintro e w9 ⟨rfl, hw⟩; have hw := hw.symm; subst hw))
      go_ret
      obtain ⟨m', D', h1, _⟩ := HX.out.2.own
      exact ⟨rfl, HX.out.1, m', D', h1⟩
end Vr
end Go.Proofs.YtilkjfbjlljnhaaGreat
