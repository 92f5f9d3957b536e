import Derived.Test.YtecgecolghgjoaaVt
import Derived.Shelf.Slices.Clone
import Derived.Ground.Names2Prog
import Derived.LaidEqlPtr
namespace Go.Proofs.Ytecgecolghgjoaa
namespace Vr
open Go.Shelf Go.RowKit Go.Lib Go.Sort Go.Maps Go.ChangeMaps Go.MapKept Laws Irw Crw
set_option linter.unusedVariables false
set_option linter.unusedSimpArgs false
set_option maxRecDepth 20000
/-- how often each number was counted -/
structure CAt (T : Nat → Nat) (w : World) (t mb : Nat) (ns : List Nat) : Prop where
  tag : T mb = t
  own : ∃ (m : Nat) (D : Dat), OwnM w mb m D ∧ m ≤ ns.length ∧ ∀ n : Nat, n < U64 → D.atKey (.int .u64 (n : Int)) (.lit (.int .i64 0)) = .lit (.int .i64 (ns.count n : Nat))
theorem CAt.lt {T : Nat → Nat} {w : World} {t mb : Nat} {ns : List Nat} (h : CAt T w t mb ns) : mb < w.heap.size := by
  obtain ⟨m, D, h1, _⟩ := h.own
  exact h1.lt
theorem CAt.goes {p : Nat → Prop} {T T' : Nat → Nat} {w w' : World} {t mb : Nat} {ns : List Nat} (h : CAt T w t mb ns) (hg : Goes p T w T' w') (ht : ¬ p t) : CAt T' w' t mb ns := by
  have hlt := h.lt
  obtain ⟨m, D, h1, h2⟩ := h.own
  exact ⟨(hg.tag mb hlt (by rw [h.tag]; exact ht)).trans h.tag, m, D, h1.block (hg.block mb hlt (by rw [h.tag]; exact ht)), h2⟩
theorem CAt.below {T : Nat → Nat} {w w' : World} {t mb : Nat} {ns : List Nat} (h : CAt T w t mb ns) (hb : RowKit.Below w.heap.size w w') : CAt T w' t mb ns := h.goes (Goes.below (t := fun _ => False) hb) (fun z => z)
theorem CAt.look {T : Nat → Nat} {w : World} {t mb : Nat} {ns : List Nat} (h : CAt T w t mb ns) (n : Nat) (hn : n < U64) :
    (Instr.lookup 66 (.map (some mb)) (.int .u64 (n : Int)) false).run Try.prog w = .ok (.int .i64 (ns.count n : Nat)) w := by
  obtain ⟨m, D, h1, h2, h3⟩ := h.own
  obtain ⟨c, hr, hc, _⟩ := World.ownsMap.lookup_int h1 law64 Try.underlying66 Try.underlying3 (zeroI w) (key64 hn)
  rw [h3 n hn] at hc
  have : c = (ns.count n : Nat) := by simpa using hc.symm
  rw [← this]
  exact hr
theorem CAt.put {T : Nat → Nat} {w : World} {t mb : Nat} {ns : List Nat} (h : CAt T w t mb ns) (n : Nat) (hn : n < U64) (hl : ns.length < 1000000000) :
    ∃ w', (Instr.mapUpdate 66 (.map (some mb)) (.int .u64 (n : Int)) (.int .i64 ((ns.count n : Nat) + 1))).run Try.prog w = .ok () w' ∧ CAt T w' t mb (ns ++ [n]) ∧ Goes (· = t) T w T w' := by
  obtain ⟨m, D, h1, h2, h3⟩ := h.own
  have hcl := List.count_le_length (a := n) (l := ns)
  obtain ⟨w', hr, h4, h5⟩ := World.ownsMap.update h1 law64 Try.underlying66 (by unfold maxLen; omega) (key64 hn) (plainElem_int Try.underlying3 (a := (ns.count n : Nat) + 1) (WalkArith.wf_i64 (by omega)))
  refine ⟨w', hr, ⟨h.tag, m + 1, _, h4, by simp; omega, fun k hk => ?_⟩, goes_map h.tag h5⟩
  by_cases e : k = n
  · subst e
    rw [Maps.atKey_put_same h1.isMap (by simp [WideAt.IsKeyLit])]
    simp [List.count_append]
  · rw [Maps.atKey_put_other (lit_ne e), h3 k hk]
    simp [List.count_append, List.count_singleton, e, Ne.symm e]
/-- clear -/
theorem clear_run {T : Nat → Nat} {w : World} {t mb m : Nat} {D : Dat} (hT : T mb = t) (h : OwnM w mb m D) : ∃ w', (∀ ty, (Builtin.clear_ #[66] ty #[.map (some mb)]).run Try.prog w = .ok (.tuple #[]) w') ∧ CAt T w' t mb [] ∧ Goes (· = t) T w T w' := by
  obtain ⟨es, clock, hb, F, hs, hD⟩ := h
  refine ⟨setBlock w mb (.map #[] clock), fun ty => ?_, ⟨hT, 0, .map [], ⟨#[], clock, heap_setBlock_same hb _, ⟨by simp, stamped_empty clock, by simp⟩, Nat.le_refl _, rfl⟩, Nat.le_refl _, fun n _ => by simp [DataW.atKey]⟩, goes_map hT ⟨rfl, rfl, rfl, by simp [setBlock], fun i _ hi => heap_setBlock_other hb _ (fun e => hi (by rw [e]))⟩⟩
  simp [Builtin.clear_, run_underlying Try.underlying66, MapKept.run_getObj_map hb, MapKept.run_setObj_map _ hb, Result.andThen, setBlock]
/-- where a level's list is told -/
theorem LvT.cell {T : Nat → Nat} {w : World} {sa : Option Addr} {sn sc : Nat} {V : Lv} (h : LvT T w (sa, sn, sc) V) {k : Nat} {l : List Tb} (hl : V[k]? = some l) : ∃ lb off, sa = some ⟨lb, off, none⟩ ∧ lb < w.heap.size ∧ T lb = 0 ∧ ∃ v : Sv, w.cell? ⟨lb, off + k, none⟩ = some (svV v) ∧ Isk kTb T w v l := by
  obtain ⟨hn, vs, l2, l1, l3⟩ := h
  have hk := (List.getElem?_eq_some_iff.1 hl).1
  have hv : vs[k]? = some (vs[k]'(by omega)) := List.getElem?_eq_getElem (by omega)
  obtain ⟨lb, off, e1, hlt, hc⟩ := l1.ls.cell hv
  change sa = _ at e1
  have := hc 0 _ rfl
  rw [show off + k * kS.size + 0 = off + k by show off + k * 1 + 0 = _; omega] at this
  exact ⟨lb, off, e1, hlt, (l1.2.2.2.2.2 lb off e1).1, _, this, l3 k _ _ hv hl⟩
theorem isk_goes2 {T : Nat → Nat} {w w' : World} {s : Sv} {l : List Tb} (h : Isk kTb T w s l) (hg : Goes (· = 2) T w T w') : Isk kTb T w' s l := h.goes hg (by decide)
def CtIs (T : Nat → Nat) (w : World) (mb : Nat) (ns : List Nat) (e : Ending) (w' : World) : Prop := e = .returned (.tuple #[]) ∧ Goes (· = 2) T w T w' ∧ CAt T w' 2 mb ns
set_option maxHeartbeats 4000000 in
theorem countTables_any {T : Nat → Nat} {w : World} {sb vb mb cb : Nat} {ps : Sv} {V : Lv} {ns : List Nat} (hts : T sb = 1) (hbox : Zb w sb [.pointer (some ⟨cb, 0, none⟩), .slice none 0 0, svV ps, .map (some mb)]) (hv : VT T w vb V) (hm : CAt T w 2 mb ns) (hno : NumOk V) (hlen : ns.length ≤ 900000000) :
    Calls Try.prog 53 #[.pointer (some ⟨sb, 0, none⟩), .pointer (some ⟨vb, 0, none⟩)] w fun e w' => CtIs T w mb (ns ++ nums V) e w' := by
  obtain ⟨hf, hvt, _, ⟨sa, sn, sc⟩, hz, hlv⟩ := hv
  have c0 := hz.2.1 0 _ rfl
  have hn := hlv.1
  change sn = V.length at hn
  subst hn
  simp only [svV] at c0
  have hv5 := hf.1
  have HV : Hid (LvT T w (sa, V.length, sc) V ∧ Fits V ∧ NumOk V) := ⟨hlv, hf, hno⟩
  have HS : Hid (T sb = 1 ∧ Zb w sb [.pointer (some ⟨cb, 0, none⟩), .slice none 0 0, svV ps, .map (some mb)]) := ⟨hts, hbox⟩
  have HM : Hid (CAt T w 2 mb ns) := hm
  clear hlv hf hno hts hbox hm hz
  go_enter Try.func53, Try.ntmps53
  go_wp2
  go_loopw [13] (fun i wr => ∃ k : Nat, k ≤ V.length ∧ i = .int .i64 (k : Int) ∧ Hid (Goes (· = 2) T w T wr ∧ CAt T wr 2 mb (ns ++ nums (V.take k)))) (fun i _ => V.length - (intOf i).toNat)
  case atStart => exact ⟨0, Nat.zero_le _, rfl, Goes.refl _ _ _, by simpa [nums] using HM.out⟩
  case round =>
    clear HM c0
    obtain ⟨k, hk, rfl, HX⟩ := hrel
    rename World => wr
    by_cases hlt : k < V.length
    · have q1 : (k : Int) < (V.length : Int) := by omega
      obtain ⟨l, hl⟩ : ∃ l, V[k]? = some l := ⟨_, List.getElem?_eq_getElem hlt⟩
      obtain ⟨lb, off, rfl, hlb, htl, ⟨va, vn, vc⟩, hc, hi⟩ := HV.out.1.cell hl
      have hvn := hi.2.1
      change vn = l.length at hvn
      subst hvn
      have hc2 := (HX.out.1.cell hlb (by rw [htl]; decide)).trans hc
      simp only [svV] at hc2
      have HI : Hid (Isk kTb T w (va, l.length, vc) l ∧ V[k]? = some l) := ⟨hi, hl⟩
      have hll := HV.out.2.1.2 l (List.mem_of_getElem? hl)
      clear hc hi hl
      go_wp2
      go_loopw [19] (fun i wr => ∃ j : Nat, j ≤ l.length ∧ i = .int .i64 (j : Int) ∧ Hid (Goes (· = 2) T w T wr ∧ CAt T wr 2 mb (ns ++ nums (V.take k) ++ (l.take j).map Tb.no))) (fun i _ => l.length - (intOf i).toNat)
      case atStart => exact ⟨0, Nat.zero_le _, rfl, HX.out.1, by simpa using HX.out.2⟩
      case round =>
        clear HX hc2
        obtain ⟨j, hj, rfl, HY⟩ := hrel
        rename World => wq
        by_cases hlj : j < l.length
        · have q2 : (j : Int) < (l.length : Int) := by omega
          obtain ⟨b, off2, rfl, hb, t, ht, y0, y1, y2, y3, y4, y5⟩ := (isk_goes2 HI.out.1 HY.out.1).ls.tb hlj
          have hb1 : RowKit.Below wq.heap.size wq (wq.alloc (Obj.cells #[.int .u64 (t.no : Int), .int .i64 t.we, .int .i64 t.by_, .int .i64 t.en, .string t.le, .string t.gr] 47)) := (Below.refl _ _).alloc (Nat.le_refl _) _
          have htn : t.no < U64 := HV.out.2.2 l (List.mem_of_getElem? HI.out.2) t (List.mem_of_getElem? ht)
          have x0 := ((HS.out.2.goes HY.out.1 (by rw [HS.out.1]; decide)).below hb1).2.1 3 _ rfl
          have hlen2 : (ns ++ nums (V.take k) ++ (l.take j).map Tb.no).length < 1000000000 := by
            have h1 := nums_le HV.out.2.1 k
            have h2 : k * 3000000 ≤ 5 * 3000000 := Nat.mul_le_mul_right _ (by omega)
            rw [List.length_append, List.length_append, List.length_map, List.length_take]
            have h3 : min j l.length ≤ 3000000 := Nat.le_trans (Nat.min_le_right _ _) hll
            omega
          have hlk := (HY.out.2.below hb1.drew).look t.no htn
          obtain ⟨w7, hr7, hd7, hg7⟩ := (HY.out.2.below hb1.drew).put t.no htn hlen2
          have hcl := List.count_le_length (a := t.no) (l := ns ++ nums (V.take k) ++ (l.take j).map Tb.no)
          obtain ⟨q, hq⟩ : ∃ q, (ns ++ nums (V.take k) ++ (l.take j).map Tb.no).count t.no = q := ⟨_, rfl⟩
          rw [hq] at hlk hr7 hcl
          have wq1 : IntKind.i64.wrap ((q : Int) + 1) = (q : Int) + 1 := IntWalk.i64_in _ (by omega)
          have HW7 : Hid (Goes (· = 2) T w T w7 ∧ CAt T w7 2 mb (ns ++ nums (V.take k) ++ (l.take j).map Tb.no ++ [t.no])) := ⟨HY.out.1.trans ((Goes.below (t := (· = 2)) hb1.drew).trans hg7), hd7⟩
          clear hd7 hg7 hq hlen2 hcl
          go_wp2
          go_region
          all_goals
            go_wp2
            go_roundw
            case rel =>
              refine ⟨j + 1, by omega, by go_num, HW7.out.1, ?_⟩
              have e : (l.take (j + 1)).map Tb.no = (l.take j).map Tb.no ++ [t.no] := by rw [List.take_add_one, ht]; simp
              rw [e, ← List.append_assoc]
              exact HW7.out.2
            case measure => simp [intOf]; omega
        · have q2 : ¬ (j : Int) < (l.length : Int) := by omega
          have HK : Hid (j = l.length) := show j = l.length by omega
          go_wp2
          go_roundw
          case rel =>
            refine ⟨k + 1, by omega, by go_num, HY.out.1, ?_⟩
            have := HY.out.2
            rw [HK.out, List.take_length, List.append_assoc, ← nums_take HI.out.2] at this
            exact this
          case measure => simp [intOf]; omega
    · have q1 : ¬ (k : Int) < (V.length : Int) := by omega
      have HK : Hid (k = V.length) := show k = V.length by omega
      go_wp2
      go_end0
      have := HX.out.2
      rw [HK.out, List.take_length] at this
      exact ⟨rfl, HX.out.1, this⟩
end Vr
end Go.Proofs.Ytecgecolghgjoaa
namespace Go.Proofs
open Go.Shelf Go.RowKit Go.Lib Go.Sort
shelf_lay Lays2.n16 Nm2 16 at Try as Try.cloneS
namespace Ytecgecolghgjoaa
namespace Vr
open Go.Shelf Go.RowKit Go.Lib Go.Sort Go.Maps Go.ChangeMaps Go.MapKept Laws Irw Crw
set_option linter.unusedVariables false
set_option linter.unusedSimpArgs false
set_option maxRecDepth 20000
set_option maxHeartbeats 3000000 in
theorem sort64_nil (w : World) : Calls Try.prog 41 #[.slice none 0 0] w fun e w' => e = .returned (.tuple #[]) ∧ w' = w := by
  have HI : Hid (Calls Try.prog 60 #[.slice none 0 0, .int .i64 0, .int .i64 0] w fun e w' => e = .returned (.tuple #[]) ∧ w' = w) := by
    go_enter Try.func60, Try.ntmps60
    go_wp2
    go_loopw [6] (fun i wr => i = .int .i64 1 ∧ wr = w) (fun _ _ => 0)
    case atStart => exact ⟨rfl, rfl⟩
    case round =>
      obtain ⟨rfl, rfl⟩ := hrel
      go_wp2
      go_end0
      exact ⟨rfl, rfl⟩
  have HP : Hid (∀ x : Int, Calls Try.prog 54 #[.slice none 0 0, .int .i64 0, .int .i64 0, .int .i64 x] w fun e w' => e = .returned (.tuple #[]) ∧ w' = w) := fun x => by
    go_enter Try.func54, Try.ntmps54
    go_wp2
    go_loopw [1, 2] (fun a b wr => a = .int .i64 0 ∧ b = .int .i64 0 ∧ wr = w) (fun _ _ _ => 0)
    case atStart => exact ⟨rfl, rfl, rfl⟩
    case round =>
      obtain ⟨rfl, rfl, rfl⟩ := hrel
      go_wp2_with (go_at_call 60; go_loud (refine HI.out.mono ?_; rintro e w1 ⟨rfl, hw⟩; have hw := hw.symm; subst hw))
      refine bodyPost_ret (results_none rfl _ _ _) rfl ?_
      exact ⟨rfl, rfl⟩
  have hlen : Calls Try.prog 55 #[.int .u64 0] w fun e w' => (∃ x : Int, e = .returned (.int .i64 x)) ∧ w' = w := (Any.bits_Len Try.bitsLen 0 w (by omega) (by omega)).mono fun _ _ ⟨he, hw⟩ => ⟨⟨_, he⟩, hw⟩
  go_enter Try.func41, Try.ntmps41
  go_wp2_with (first
    | (go_at_call 55; go_loud (refine hlen.mono ?_; rintro e w1 ⟨⟨x, rfl⟩, hw⟩; have hw := hw.symm; subst hw))
    | (go_at_call 54; go_loud (refine (HP.out x).mono ?_; rintro e w1 ⟨rfl, hw⟩; have hw := hw.symm; subst hw)))
  go_end0
  exact ⟨rfl, rfl⟩
set_option maxHeartbeats 3000000 in
theorem find_nil (sb vb : Nat) (u ps m : Value) (w : World) (h : Zb w sb [u, .slice none 0 0, ps, m]) : Calls Try.prog 27 #[.pointer (some ⟨sb, 0, none⟩), .pointer (some ⟨vb, 0, none⟩)] w fun e w' => e = .returned (.int .i64 (-1)) ∧ RowKit.Below w.heap.size w w' := by
  have HI : Hid (∀ (W : World) (f : Value), Calls Try.prog 42 #[.slice none 0 0, f] W fun e w' => e = .returned (.int .i64 (-1)) ∧ w' = W) := fun W f => by
    go_enter Try.func42, Try.ntmps42
    go_wp2
    go_loopw [8] (fun i wr => i = .int .i64 0 ∧ wr = W) (fun _ _ => 0)
    case atStart => exact ⟨rfl, rfl⟩
    case round =>
      obtain ⟨rfl, rfl⟩ := hrel
      go_wp2
      go_ret
      exact ⟨rfl, rfl⟩
  have g1 := (h.below ((Below.refl _ _).alloc (Nat.le_refl _) (Obj.cells #[.pointer (some ⟨vb, 0, none⟩)] 31))).2.1 1 _ rfl
  go_enter Try.func27, Try.ntmps27
  go_wp2_with (go_at_call 42; go_loud (refine (HI.out _ _).mono ?_; rintro e w1 ⟨rfl, rfl⟩))
  go_ret
  exact ⟨rfl, (Below.refl _ _).alloc (Nat.le_refl _) _⟩
set_option maxHeartbeats 3000000 in
theorem recount_any {T : Nat → Nat} {w : World} {sb vb mb m : Nat} {D : Dat} {ps : Sv} {V : Lv} (hts : T sb = 1) (htm : T mb = 2) (hbox : Zb w sb [.pointer (some ⟨vb, 0, none⟩), .slice none 0 0, svV ps, .map (some mb)]) (hv : VT T w vb V) (hm : OwnM w mb m D) (hno : NumOk V) :
    Calls Try.prog 40 #[.pointer (some ⟨sb, 0, none⟩)] w fun e w' => CtIs T w mb (nums V) e w' := by
  obtain ⟨w1, hr, hc1, hg1⟩ := clear_run htm hm
  have hbox1 := hbox.goes hg1 (by rw [hts]; decide)
  have c3 := hbox.2.1 3 _ rfl
  have d0 := hbox1.2.1 0 _ rfl
  have HC : Hid (Calls Try.prog 53 #[.pointer (some ⟨sb, 0, none⟩), .pointer (some ⟨vb, 0, none⟩)] w1 fun e w' => CtIs T w1 mb (nums V) e w') := by
    have := countTables_any (ns := []) hts hbox1 (hv.goes hg1 (by decide)) hc1 hno (Nat.zero_le _)
    rw [List.nil_append] at this
    exact this
  have HG : Hid (Goes (· = 2) T w T w1 ∧ T sb = 1 ∧ Zb w1 sb [.pointer (some ⟨vb, 0, none⟩), .slice none 0 0, svV ps, .map (some mb)]) := ⟨hg1, hts, hbox1⟩
  clear hc1 hg1 hbox1 hbox hv hm hno
  go_enter Try.func40, Try.ntmps40
  go_upto_region 2 with (go_at_call 53; go_loud (refine HC.out.mono ?_; rintro e w2 ⟨rfl, hg2, hc2⟩; have HX : Hid (Goes (· = 2) T w1 T w2 ∧ CAt T w2 2 mb (nums V)) := ⟨hg2, hc2⟩; clear hg2 hc2))
  have e1 := (HG.out.2.2.goes HX.out.1 (by rw [HG.out.2.1]; decide)).2.1 1 _ rfl
  go_wp2
  go_loopw [19] (fun i wr => i = .int .i64 0 ∧ wr = w2) (fun _ _ => 0)
  case atStart => exact ⟨rfl, rfl⟩
  case round =>
    obtain ⟨rfl, rfl⟩ := hrel
    go_wp2
    go_end0
    exact ⟨rfl, HG.out.1.trans HX.out.1, HX.out.2⟩
end Vr
end Ytecgecolghgjoaa
end Go.Proofs
namespace Go.Proofs.Ytecgecolghgjoaa
namespace Vr
open Go.Shelf Go.RowKit Go.Lib Go.Sort Go.Maps Go.ChangeMaps Go.MapKept Laws Irw Crw
set_option linter.unusedVariables false
set_option linter.unusedSimpArgs false
set_option maxRecDepth 20000
theorem infoVer : (Try.prog.info? 65).map (fun i => (i.zero, i.size, i.bytes)) = some (some (.agg #[.slice none 0 0]), 1, 24) := by kernel_rfl
/-- gone, where nothing has gone -/
def GnIs (T : Nat → Nat) (w : World) (mb : Nat) (e : Ending) (w' : World) : Prop := e = .returned (.slice none 0 0) ∧ Goes (· = 2) T w T w' ∧ ∃ m D, OwnM w' mb m D
set_option maxHeartbeats 4000000 in
theorem gone_none {T : Nat → Nat} {w : World} {sb vb nb mb m : Nat} {D : Dat} {ps : Sv} {V V' : Lv} (hts : T sb = 1) (htm : T mb = 2) (hbox : Zb w sb [.pointer (some ⟨nb, 0, none⟩), .slice none 0 0, svV ps, .map (some mb)]) (hv' : VT T w nb V') (hv : VT T w vb V) (hm : OwnM w mb m D) (hno : NumOk V') (hne : vb ≠ nb) (hsub : ∀ x, x ∈ nums V → x ∈ nums V') :
    Calls Try.prog 26 #[.pointer (some ⟨sb, 0, none⟩), .pointer (some ⟨vb, 0, none⟩)] w fun e w' => GnIs T w mb e w' := by
  have hlt : nb < w.heap.size := by obtain ⟨_, _, _, s, hz, _⟩ := hv'; exact hz.1
  have c0 := hbox.2.1 0 _ rfl
  have hpe : (binOp .eql 31 (.pointer (some ⟨vb, 0, none⟩)) (.pointer (some ⟨nb, 0, none⟩))).run Try.prog w = .ok (.bool false) w := by
    obtain ⟨_, _, ⟨c1, t1, k1⟩, _⟩ := hv
    obtain ⟨_, _, ⟨c2, t2, k2⟩, _⟩ := hv'
    obtain ⟨j, hj, _, hjs, _⟩ := info_parts infoVer
    exact run_eql_ptr_other w Try.underlying31 hj (by rw [hjs]; decide) (fun e => hne (by injection e)) k1 k2
  have HF : Hid (Calls Try.prog 27 #[.pointer (some ⟨sb, 0, none⟩), .pointer (some ⟨vb, 0, none⟩)] w fun e w' => e = .returned (.int .i64 (-1)) ∧ RowKit.Below w.heap.size w w') := find_nil sb vb _ _ _ w hbox
  have HA : Hid (T sb = 1 ∧ T mb = 2 ∧ Zb w sb [.pointer (some ⟨nb, 0, none⟩), .slice none 0 0, svV ps, .map (some mb)] ∧ VT T w nb V' ∧ VT T w vb V ∧ OwnM w mb m D ∧ NumOk V' ∧ (∀ x, x ∈ nums V → x ∈ nums V') ∧ NumOk V) := ⟨hts, htm, hbox, hv', hv, hm, hno, hsub, fun l hl t ht => by
    obtain ⟨t', ht', e⟩ := List.mem_map.1 (hsub _ (mem_nums hl ht))
    obtain ⟨l', hl', ht''⟩ := List.mem_flatten.1 ht'
    rw [← e]
    exact hno l' hl' t' ht''⟩
  clear hts htm hbox hv' hv hm hno hsub
  go_enter Try.func26, Try.ntmps26
  go_upto_region 3 with (go_at_call 27; go_loud (refine HF.out.mono ?_; rintro e w1 ⟨rfl, hb1⟩; have HB1 : Hid (RowKit.Below w.heap.size w w1) := hb1; clear hb1))
  have HR : Hid (Calls Try.prog 40 #[.pointer (some ⟨sb, 0, none⟩)] w1 fun e w' => CtIs T w1 mb (nums V') e w') := by
    have hg := Goes.below (t := fun _ => False) (T := T) HB1.out
    exact recount_any HA.out.1 HA.out.2.1 (HA.out.2.2.1.below HB1.out) (HA.out.2.2.2.1.goes hg (fun z => z)) (HA.out.2.2.2.2.2.1.block (HB1.out.block mb HA.out.2.2.2.2.2.1.lt)) HA.out.2.2.2.2.2.2.1
  go_upto_region 4 with (go_at_call 40; go_loud (refine HR.out.mono ?_; rintro e w2 ⟨rfl, hg2, hc2⟩; have HX : Hid (Goes (· = 2) T w T w2 ∧ CAt T w2 2 mb (nums V')) := ⟨(Goes.below (t := (· = 2)) HB1.out).trans hg2, hc2⟩; clear hg2 hc2))
  clear HR HF c0 HB1
  obtain ⟨hf, hvt, _, ⟨sa, sn, sc⟩, hz, hlv⟩ := HA.out.2.2.2.2.1
  have hn := hlv.1
  change sn = V.length at hn
  subst hn
  have hv5 := hf.1
  have c0 := (hz.goes HX.out.1 (by rw [hvt]; decide)).2.1 0 _ rfl
  simp only [svV] at c0
  have HV : Hid (LvT T w (sa, V.length, sc) V ∧ Fits V) := ⟨hlv, hf⟩
  clear hlv hf hz hvt
  go_wp2
  go_loopw [5, 29] (fun o i wr => ∃ k : Nat, k ≤ V.length ∧ o = .slice none 0 0 ∧ i = .int .i64 (k : Int) ∧ Hid (Goes (· = 2) T w T wr ∧ CAt T wr 2 mb (nums V'))) (fun _ i _ => V.length - (intOf i).toNat)
  case atStart => exact ⟨0, Nat.zero_le _, rfl, rfl, HX.out⟩
  case round =>
    clear HX c0
    obtain ⟨k, hk, rfl, rfl, HX⟩ := hrel
    rename World => wr
    by_cases hlt : k < V.length
    · have q1 : (k : Int) < (V.length : Int) := by omega
      obtain ⟨l, hl⟩ : ∃ l, V[k]? = some l := ⟨_, List.getElem?_eq_getElem hlt⟩
      obtain ⟨lb, off, rfl, hlb, htl, ⟨va, vn, vc⟩, hc, hi⟩ := HV.out.1.cell hl
      have hvn := hi.2.1
      change vn = l.length at hvn
      subst hvn
      have hc2 := (HX.out.1.cell hlb (by rw [htl]; decide)).trans hc
      simp only [svV] at hc2
      have HI : Hid (Isk kTb T w (va, l.length, vc) l ∧ V[k]? = some l) := ⟨hi, hl⟩
      have hll := HV.out.2.2 l (List.mem_of_getElem? hl)
      clear hc hi hl
      go_wp2
      go_loopw [5, 35] (fun o i wr => ∃ j : Nat, j ≤ l.length ∧ o = .slice none 0 0 ∧ i = .int .i64 (j : Int) ∧ Hid (Goes (· = 2) T w T wr ∧ CAt T wr 2 mb (nums V'))) (fun _ i _ => l.length - (intOf i).toNat)
      case atStart => exact ⟨0, Nat.zero_le _, rfl, rfl, HX.out⟩
      case round =>
        clear HX hc2
        obtain ⟨j, hj, rfl, rfl, HY⟩ := hrel
        rename World => wq
        by_cases hlj : j < l.length
        · have q2 : (j : Int) < (l.length : Int) := by omega
          obtain ⟨b, off2, rfl, hb, t, ht, y0, y1, y2, y3, y4, y5⟩ := (isk_goes2 HI.out.1 HY.out.1).ls.tb hlj
          have hb1 : RowKit.Below wq.heap.size wq (wq.alloc (Obj.cells #[.int .u64 (t.no : Int), .int .i64 t.we, .int .i64 t.by_, .int .i64 t.en, .string t.le, .string t.gr] 47)) := (Below.refl _ _).alloc (Nat.le_refl _) _
          have hml := List.mem_of_getElem? HI.out.2
          have hmt := List.mem_of_getElem? ht
          have htn : t.no < U64 := HA.out.2.2.2.2.2.2.2.2 l hml t hmt
          have x0 := ((HA.out.2.2.1.goes HY.out.1 (by rw [HA.out.1]; decide)).below hb1).2.1 3 _ rfl
          have hlk := (HY.out.2.below hb1.drew).look t.no htn
          have hpos : 0 < (nums V').count t.no := List.count_pos_iff.2 (HA.out.2.2.2.2.2.2.2.1 _ (mem_nums hml hmt))
          obtain ⟨q, hq⟩ : ∃ q, (nums V').count t.no = q := ⟨_, rfl⟩
          rw [hq] at hlk hpos
          have q3 : ¬ (q : Int) = 0 := by omega
          have q4 : ((q : Int) == 0) = false := by simpa using q3
          clear hq
          go_wp2
          go_region
          all_goals
            go_wp2
            go_roundw
            case rel => exact ⟨j + 1, by omega, rfl, by go_num, HY.out.1.trans (Goes.below (t := (· = 2)) hb1.drew), HY.out.2.below hb1.drew⟩
            case measure => simp [intOf]; omega
        · have q2 : ¬ (j : Int) < (l.length : Int) := by omega
          go_wp2
          go_roundw
          case rel => exact ⟨k + 1, by omega, rfl, by go_num, HY.out⟩
          case measure => simp [intOf]; omega
    · have q1 : ¬ (k : Int) < (V.length : Int) := by omega
      go_wp2_with (go_at_call 41; go_loud (refine (sort64_nil _).mono ?_; rintro e w9 ⟨rfl, hw⟩; have hw := hw.symm; subst hw))
      go_ret
      obtain ⟨m', D', h1, _⟩ := HX.out.2.own
      exact ⟨rfl, HX.out.1, m', D', h1⟩
end Vr
end Go.Proofs.Ytecgecolghgjoaa
