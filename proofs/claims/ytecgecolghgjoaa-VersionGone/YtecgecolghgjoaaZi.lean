import Derived.Test.YtecgecolghgjoaaZh
namespace Go.Proofs.Ytecgecolghgjoaa
namespace Vr
open Go.Shelf Go.RowKit Go.Lib Go.Sort Go.Maps Go.ChangeMaps Go.MapKept Laws Irw Crw
set_option linter.unusedVariables false
set_option linter.unusedSimpArgs false
set_option maxRecDepth 20000
/-- the numbers that nobody counts -/
def gl (ns : List Nat) (l : List Nat) : List Int := List.map (fun (x : Nat) => (x : Int)) (l.filter fun x => decide (ns.count x = 0))
theorem gl_append (ns a b : List Nat) : gl ns (a ++ b) = gl ns a ++ gl ns b := by simp [gl, List.filter_append]
theorem gl_len (ns l : List Nat) : (gl ns l).length ≤ l.length := by
  unfold gl
  rw [List.length_map]
  exact List.length_filter_le _ _
theorem gl_one0 {ns : List Nat} {x : Nat} (h : ns.count x = 0) : gl ns [x] = [(x : Int)] := by simp [gl, h]
theorem gl_one1 {ns : List Nat} {x : Nat} (h : ¬ ns.count x = 0) : gl ns [x] = [] := by simp [gl, h]
/-- what gone tells -/
def goneL (cb : Nat) (Vc : Lv) (P : List Pn) (vb : Nat) (V : Lv) : List Int :=
  if vb = cb ∨ 0 ≤ idp (some ⟨vb, 0, none⟩) P then [] else (gl (allN Vc P) (nums V)).mergeSort fun x y => decide (x ≤ y)
def GzIs (T : Nat → Nat) (w : World) (mb : Nat) (r : List Int) (e : Ending) (w' : World) : Prop :=
  ∃ (s : Sv) (T' : Nat → Nat), e = .returned (svV s) ∧ OwnK kU 7 T' w' (svV s) r ∧ Goes (fun t => t = 2 ∨ t = 7) T w T' w' ∧ T' mb = 2 ∧ ∃ (m : Nat) (D : Dat), OwnM w' mb m D
theorem isK_newU (w : World) (x : Int) (t : TypeId) : IsK kU (w.alloc (.cells #[.int .u64 x] t)) (some ⟨w.heap.size, 0, none⟩) [x] := by
  have h := Zb.new w #[.int .u64 x] t
  refine IsK.of ⟨h.1, fun i e he j u hu => ?_⟩
  have hi : i = 0 := by
    have := (List.getElem?_eq_some_iff.1 he).1
    simp at this
    exact this
  subst hi
  simp at he
  subst he
  have := h.2.1 j u (by simpa [kU] using hu)
  simpa using this
theorem idp_ge {pv : Option Addr} {P : List Pn} : -1 ≤ idp pv P := by
  unfold idp
  split <;> omega
theorem idp_le {pv : Option Addr} {P : List Pn} : idp pv P ≤ P.length := by
  unfold idp
  split
  · rename_i i h
    have := (List.findIdx?_eq_some_iff_getElem.1 h).1
    omega
  · omega
theorem PAt.below {T : Nat → Nat} {w w' : World} {sb vb mb : Nat} {V : Lv} {P : List Pn} (h : PAt T w sb vb mb V P) (hb : RowKit.Below w.heap.size w w') : PAt T w' sb vb mb V P := by
  have hg := Goes.below (t := fun _ => False) (T := T) hb
  obtain ⟨pl, ps, b1, b2⟩ := h.box
  obtain ⟨m, D, hm⟩ := h.map
  exact ⟨h.ts, h.tm, ⟨pl, ps, b1.below hb, b2.below hb⟩, h.ver.goes hg (fun z => z), fun p hp => (h.pin p hp).goes hg (fun z => z), m, D, hm.block (hb.block mb hm.lt)⟩
set_option maxHeartbeats 4000000 in
theorem gone2_any {T : Nat → Nat} {w : World} {sb cb mb vb : Nat} {Vc V : Lv} {P : List Pn} (h : PAt T w sb cb mb Vc P) (hz : Sz Vc P) (hv : VT T w vb V) (hno : NumOk V) (hnl : (nums V).length ≤ 2500000) :
    Calls Try.prog 26 #[.pointer (some ⟨sb, 0, none⟩), .pointer (some ⟨vb, 0, none⟩)] w fun e w' => GzIs T w mb (goneL cb Vc P vb V) e w' := by
  obtain ⟨pl, ps, hbox, hown⟩ := h.box
  have c0 := hbox.2.1 0 _ rfl
  have hpe := eql_ver (w := w) (a := vb) (pv := some ⟨cb, 0, none⟩) hv.blk (.inr ⟨cb, rfl, h.ver.blk⟩)
  have HA : Hid (PAt T w sb cb mb Vc P ∧ Sz Vc P ∧ VT T w vb V ∧ NumOk V) := ⟨h, hz, hv, hno⟩
  have NIL : Hid (∀ w', RowKit.Below w.heap.size w w' → goneL cb Vc P vb V = [] → GzIs T w mb (goneL cb Vc P vb V) (.returned (.slice none 0 0)) w') := fun w' hb e => by
    rw [e]
    obtain ⟨m, D, hm⟩ := h.map
    exact ⟨nS, T, rfl, OwnK.empty _ _ _, Goes.below hb, h.tm, m, D, hm.block (hb.block mb hm.lt)⟩
  by_cases hcv : vb = cb
  · have HE : Hid (goneL cb Vc P vb V = []) := if_pos (.inl hcv)
    rw [decide_eq_true (show (some ⟨vb, 0, none⟩ : Option Addr) = some ⟨cb, 0, none⟩ by rw [hcv])] at hpe
    clear h hz hv hno hbox hown hcv
    go_enter Try.func26, Try.ntmps26
    go_wp2_with fail
    go_ret
    exact NIL.out _ (Below.refl _ _) HE.out
  · rw [decide_eq_false (show ¬ (some ⟨vb, 0, none⟩ : Option Addr) = some ⟨cb, 0, none⟩ by intro e; injection e with e; injection e with e; exact hcv e)] at hpe
    obtain ⟨ix, hix⟩ : ∃ i, idp (some ⟨vb, 0, none⟩) P = i := ⟨_, rfl⟩
    have HF : Hid (Calls Try.prog 27 #[.pointer (some ⟨sb, 0, none⟩), .pointer (some ⟨vb, 0, none⟩)] w fun e w' => e = .returned (.int .i64 ix) ∧ RowKit.Below w.heap.size w w') := by
      rw [← hix]
      exact find_any sb _ _ _ _ pl P w hbox (.inr ⟨vb, rfl, hv.blk⟩) (fun p hp => (h.pin p hp).blk) (Ls.own hown) (by have := hz.pins; omega)
    by_cases hi0 : 0 ≤ ix
    · have HE : Hid (goneL cb Vc P vb V = []) := if_pos (.inr (by rw [hix]; exact hi0))
      clear h hz hv hno hbox hown hcv hix
      go_enter Try.func26, Try.ntmps26
      go_wp2_with (go_at_call 27; go_loud (refine HF.out.mono ?_; rintro e w1 ⟨rfl, hb1⟩; have HB1 : Hid (RowKit.Below w.heap.size w w1) := hb1; clear hb1))
      go_ret
      exact NIL.out _ HB1.out HE.out
    · have hge : -1 ≤ ix := by rw [← hix]; exact idp_ge
      obtain rfl : ix = -1 := by omega
      have HE : Hid (goneL cb Vc P vb V = (gl (allN Vc P) (nums V)).mergeSort fun x y => decide (x ≤ y)) := if_neg (by rw [hix]; rintro (h | h); exact hcv h; omega)
      clear hge hi0 hix
      obtain ⟨ns, hns⟩ : ∃ ns, allN Vc P = ns := ⟨_, rfl⟩
      rw [HE.out, hns]
      clear h hz hv hno hbox hown hcv HE NIL
      go_enter Try.func26, Try.ntmps26
      go_upto_region 3 with (go_at_call 27; go_loud (refine HF.out.mono ?_; rintro e w1 ⟨rfl, hb1⟩; have HB1 : Hid (RowKit.Below w.heap.size w w1) := hb1; clear hb1))
      have HR : Hid (Calls Try.prog 40 #[.pointer (some ⟨sb, 0, none⟩)] w1 fun e w' => CtIs T w1 mb ns e w') := by
        rw [← hns]
        exact recount2_any (HA.out.1.below HB1.out) HA.out.2.1
      go_upto_region 4 with (go_at_call 40; go_loud (refine HR.out.mono ?_; rintro e w2 ⟨rfl, hg2, hc2⟩; have HX : Hid (Goes (fun t => t = 2 ∨ t = 7) T w T w2 ∧ CAt T w2 2 mb ns) := ⟨((Goes.below (t := (· = 2)) HB1.out).trans hg2).mono (fun _ => .inl), hc2⟩; clear hg2 hc2))
      clear HR HF c0 HB1 hns hpe
      obtain ⟨hf, hvt, _, ⟨sa, sn, sc⟩, hz, hlv⟩ := HA.out.2.2.1
      have hn := hlv.1
      change sn = V.length at hn
      subst hn
      have hv5 := hf.1
      have c0 := (hz.goes HX.out.1 (by rw [hvt]; decide)).2.1 0 _ rfl
      simp only [svV] at c0
      have HV : Hid (LvT T w (sa, V.length, sc) V ∧ Fits V) := ⟨hlv, hf⟩
      obtain ⟨iz, hi, hz0, hz1, hz2⟩ := info_parts infoU
      clear hlv hf hz hvt
      go_wp2_with fail
      go_loopw [5, 29] (fun o i wr => ∃ (k : Nat) (s : Sv) (T' : Nat → Nat), k ≤ V.length ∧ o = .slice s.1 s.2.1 s.2.2 ∧ i = .int .i64 (k : Int) ∧ Hid (Goes (fun t => t = 2 ∨ t = 7) T w T' wr ∧ CAt T' wr 2 mb ns ∧ OwnK kU 7 T' wr (svV s) (gl ns (nums (V.take k))))) (fun _ i _ => V.length - (intOf i).toNat)
      case atStart => exact ⟨0, nS, T, Nat.zero_le _, rfl, rfl, HX.out.1, HX.out.2, OwnK.empty _ _ _⟩
      case round =>
        clear HX c0
        obtain ⟨k, ⟨ra, rn, rc⟩, T1, hk, rfl, rfl, HX⟩ := hrel
        simp only at *
        rename World => wr
        by_cases hlt : k < V.length
        · have q1 : (k : Int) < (V.length : Int) := by omega
          obtain ⟨l, hl⟩ : ∃ l, V[k]? = some l := ⟨_, List.getElem?_eq_getElem hlt⟩
          obtain ⟨lb, off, rfl, hlb, htl, ⟨va, vn, vc⟩, hc, hil⟩ := HV.out.1.cell hl
          have hvn := hil.2.1
          change vn = l.length at hvn
          subst hvn
          have hc2 := (HX.out.1.cell hlb (by rw [htl]; decide)).trans hc
          simp only [svV] at hc2
          have HI : Hid (Isk kTb T w (va, l.length, vc) l ∧ V[k]? = some l) := ⟨hil, hl⟩
          have hll := HV.out.2.2 l (List.mem_of_getElem? hl)
          clear hc hil hl
          go_wp2_with fail
          go_loopw [5, 35] (fun o i wr => ∃ (j : Nat) (s : Sv) (T' : Nat → Nat), j ≤ l.length ∧ o = .slice s.1 s.2.1 s.2.2 ∧ i = .int .i64 (j : Int) ∧ Hid (Goes (fun t => t = 2 ∨ t = 7) T w T' wr ∧ CAt T' wr 2 mb ns ∧ OwnK kU 7 T' wr (svV s) (gl ns (nums (V.take k) ++ (l.take j).map Tb.no)))) (fun _ i _ => l.length - (intOf i).toNat)
          case atStart => exact ⟨0, (ra, rn, rc), T1, Nat.zero_le _, rfl, rfl, HX.out.1, HX.out.2.1, by simpa [List.append_nil] using HX.out.2.2⟩
          case round =>
            clear HX hc2
            obtain ⟨j, ⟨sa2, sn2, sc2⟩, T2, hj, rfl, rfl, HY⟩ := hrel
            simp only at *
            rename World => wq
            by_cases hlj : j < l.length
            · have q2 : (j : Int) < (l.length : Int) := by omega
              obtain ⟨b, off2, rfl, hb, t, ht, y0, y1, y2, y3, y4, y5⟩ := (HI.out.1.goes HY.out.1 (by decide)).ls.tb hlj
              have hb1 : RowKit.Below wq.heap.size wq (wq.alloc (Obj.cells #[.int .u64 (t.no : Int), .int .i64 t.we, .int .i64 t.by_, .int .i64 t.en, .string t.le, .string t.gr] 47)) := (Below.refl _ _).alloc (Nat.le_refl _) _
              have hml := List.mem_of_getElem? HI.out.2
              have hmt := List.mem_of_getElem? ht
              have htn : t.no < U64 := HA.out.2.2.2 l hml t hmt
              obtain ⟨pl, ps, bx, _⟩ := HA.out.1.box
              have x0 := ((bx.goes HY.out.1 (by rw [HA.out.1.ts]; decide)).below hb1).2.1 3 _ rfl
              have hlk := (HY.out.2.1.below hb1.drew).look t.no htn
              have HL : Hid ((l.take (j + 1)).map Tb.no = (l.take j).map Tb.no ++ [t.no]) := by rw [List.take_add_one, ht]; show _ = _; simp
              have hgl : (gl ns (nums (V.take k) ++ (l.take j).map Tb.no)).length ≤ 20000000 := by
                have h1 := gl_len ns (nums (V.take k) ++ (l.take j).map Tb.no)
                have h2 := nums_le HV.out.2 k
                have h3 : k * 3000000 ≤ 5 * 3000000 := Nat.mul_le_mul_right _ (by omega)
                rw [List.length_append, List.length_map, List.length_take] at h1
                have h4 : min j l.length ≤ 3000000 := Nat.le_trans (Nat.min_le_right _ _) hll
                omega
              obtain ⟨q, hq⟩ : ∃ q, ns.count t.no = q := ⟨_, rfl⟩
              rw [hq] at hlk
              have HQ : Hid (ns.count t.no = q) := hq
              clear hq ht hml hmt bx
              obtain ⟨W1, hW1⟩ : ∃ W, (wq.alloc (Obj.cells #[.int .u64 (t.no : Int), .int .i64 t.we, .int .i64 t.by_, .int .i64 t.en, .string t.le, .string t.gr] 47)).drew = W := ⟨_, rfl⟩
              have HW1 : Hid (RowKit.Below wq.heap.size wq W1 ∧ Zb W1 wq.heap.size [.int .u64 (t.no : Int), .int .i64 t.we, .int .i64 t.by_, .int .i64 t.en, .string t.le, .string t.gr]) := by
                rw [← hW1]
                exact ⟨hb1.drew, Zb.new _ _ _⟩
              have HE1 : Hid ((wq.alloc (Obj.cells #[.int .u64 (t.no : Int), .int .i64 t.we, .int .i64 t.by_, .int .i64 t.en, .string t.le, .string t.gr] 47)).drew = W1) := hW1
              clear hW1
              by_cases hq0 : q = 0
              · subst hq0
                have hlk0 : (Instr.lookup 66 (.map (some mb)) (.int .u64 (t.no : Int)) false).run Try.prog ((wq.alloc (Obj.cells #[.int .u64 (t.no : Int), .int .i64 t.we, .int .i64 t.by_, .int .i64 t.en, .string t.le, .string t.gr] 47)).drew) = .ok (.int .i64 0) ((wq.alloc (Obj.cells #[.int .u64 (t.no : Int), .int .i64 t.we, .int .i64 t.by_, .int .i64 t.en, .string t.le, .string t.gr] 47)).drew) := hlk
                clear hlk
                go_wp2_with fail
                go_region
                all_goals
                  rw [HE1.out]
                  have z0 := HW1.out.2.2.1 0 _ rfl
                  clear hlk0 x0 y0 y1 y2 y3 y4 y5
                  go_wp2_with (at_builtin; go_must (refine wpList_appK kU _ (by rfl) (.tmp 47) (.tmp 50) 27 (by rfl) iz Try.underlying27 hi hz0 hz1 hz2 7 T2 (.slice sa2 sn2 sc2) (gl ns (nums (V.take k) ++ (l.take j).map Tb.no)) (by rfl) ((HY.out.2.2.below HW1.out.1).below ((Below.refl _ _).alloc (Nat.le_refl _) _)) (some ⟨W1.heap.size, 0, none⟩) 1 1 [(t.no : Int)] (by rfl) rfl (by simp) (isK_newU _ _ _) (by rw [List.length_singleton]; omega) ?_; intro a' c' T3 w3 ho3 hg3; have HZ : Hid (OwnK kU 7 T3 w3 (.slice a' ((gl ns (nums (V.take k) ++ (l.take j).map Tb.no)).length + 1) c') (gl ns (nums (V.take k) ++ (l.take j).map Tb.no) ++ [(t.no : Int)]) ∧ Goes (· = 7) T2 wq T3 w3) := ⟨ho3, (Goes.below (t := (· = 7)) (HW1.out.1.alloc HW1.out.1.size _)).trans hg3⟩; clear ho3 hg3; simp only [List.length_singleton]))
                  go_roundw
                  case rel =>
                    refine ⟨j + 1, (a', (gl ns (nums (V.take k) ++ (l.take j).map Tb.no)).length + 1, c'), T3, by omega, by simp only [List.map_take], by go_num, HY.out.1.trans (HZ.out.2.mono (fun _ => .inr)), HY.out.2.1.goes HZ.out.2 (by decide), ?_⟩
                    have e9 : gl ns (nums (V.take k) ++ (l.take (j + 1)).map Tb.no) = gl ns (nums (V.take k) ++ (l.take j).map Tb.no) ++ [(t.no : Int)] := by
                      rw [HL.out, ← List.append_assoc, gl_append ns (nums (V.take k) ++ (l.take j).map Tb.no) [t.no], gl_one0 HQ.out]
                    rw [e9]
                    exact HZ.out.1
                  case measure => simp [intOf]; omega
              · have q3 : ¬ (q : Int) = 0 := by omega
                have q4 : ((q : Int) == 0) = false := by simpa using q3
                have HQ0 : Hid (¬ ns.count t.no = 0) := by rw [HQ.out]; exact hq0
                go_wp2_with fail
                go_region
                all_goals
                  go_wp2_with fail
                  go_roundw
                  case rel =>
                    refine ⟨j + 1, (sa2, sn2, sc2), T2, by omega, rfl, by go_num, HY.out.1.trans (Goes.below hb1.drew), HY.out.2.1.below hb1.drew, ?_⟩
                    have e9 : gl ns (nums (V.take k) ++ (l.take (j + 1)).map Tb.no) = gl ns (nums (V.take k) ++ (l.take j).map Tb.no) := by
                      rw [HL.out, ← List.append_assoc, gl_append ns (nums (V.take k) ++ (l.take j).map Tb.no) [t.no], gl_one1 HQ0.out, List.append_nil]
                    rw [e9]
                    exact HY.out.2.2.below hb1.drew
                  case measure => simp [intOf]; omega
            · have q2 : ¬ (j : Int) < (l.length : Int) := by omega
              have HK : Hid (j = l.length) := show j = l.length by omega
              go_wp2_with fail
              go_roundw
              case rel =>
                refine ⟨k + 1, (sa2, sn2, sc2), T2, by omega, rfl, by go_num, HY.out.1, HY.out.2.1, ?_⟩
                have := HY.out.2.2
                rw [HK.out, List.take_length, ← nums_take HI.out.2] at this
                exact this
              case measure => simp [intOf]; omega
        · have q1 : ¬ (k : Int) < (V.length : Int) := by omega
          have hk9 : k = V.length := by omega
          have HO : Hid (OwnK kU 7 T1 wr (svV (ra, rn, rc)) (gl ns (nums V))) := by
            have := HX.out.2.2
            rw [hk9, List.take_length] at this
            exact this
          have HC : Hid (Calls Try.prog 41 #[.slice ra rn rc] wr fun e w' => e = .returned (.tuple #[]) ∧ OwnK kU 7 T1 w' (svV (ra, rn, rc)) ((gl ns (nums V)).mergeSort fun x y => decide (x ≤ y)) ∧ Goes (· = 7) T1 wr T1 w') := sortU_any (s := (ra, rn, rc)) HO.out (by have := gl_len ns (nums V); omega)
          clear hk9
          go_wp2_with (go_at_call 41; go_loud (refine HC.out.mono ?_; rintro e w9 ⟨rfl, ho9, hg9⟩; have HZ : Hid (OwnK kU 7 T1 w9 (svV (ra, rn, rc)) ((gl ns (nums V)).mergeSort fun x y => decide (x ≤ y)) ∧ Goes (· = 7) T1 wr T1 w9) := ⟨ho9, hg9⟩; clear ho9 hg9))
          go_ret
          obtain ⟨m', D', h1, _⟩ := (HX.out.2.1.goes HZ.out.2 (by decide)).own
          exact ⟨(ra, rn, rc), T1, rfl, HZ.out.1, HX.out.1.trans (HZ.out.2.mono (fun _ => .inr)), (HX.out.2.1.goes HZ.out.2 (by decide)).tag, m', D', h1⟩
end Vr
end Go.Proofs.Ytecgecolghgjoaa
