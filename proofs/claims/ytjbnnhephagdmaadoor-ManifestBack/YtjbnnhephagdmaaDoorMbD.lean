import Derived.Test.YtjbnnhephagdmaaDoorMbB
import Derived.Test.YtjbnnhephagdmaaDoorMbC
import Derived.Test.YtjbnnhephagdmaaDoorOpEd
import Derived.BigQuiet
import Derived.Deep.Cut
import Derived.Deep.DeepCutAuto
namespace Go.Proofs.YtjbnnhephagdmaaDoor
namespace ManifestBack
open Go.RowKit CMath Byt Cod Crw Irw Laws Mnf
set_option linter.unusedVariables false
set_option linter.unusedSimpArgs false
set_option maxRecDepth 100000
theorem infoI : (Tryd.prog.info? 3).map (fun i => (i.zero, i.size, i.bytes)) = some (some (.int .i64 0), 1, 8) := by kernel_rfl
theorem isI_new {w : World} {x : Int} {u : TypeId} : IsI (w.alloc (.cells #[.int .i64 x] u)) (some ⟨w.heap.size, 0, none⟩) [x] := by
  refine IsI.of ⟨by simp, fun i z hz => ?_⟩
  rw [World.cell?_alloc_at _ _ _ _ rfl]
  cases i with
  | zero => simp at hz; subst hz; rfl
  | succ i => simp at hz
/-- what is known of the copies -/
structure Rt (es : List Ed) (S : Nat) : Prop where
  ok : ∀ e ∈ es, okE e
  most : S ≤ 10000
  len : es.length ≤ S
  flat : (es.flatMap puts).length ≤ S
  part : ∀ k, ((es.take k).flatMap puts).length ≤ S
  each : ∀ e ∈ es, e.out.length ≤ S ∧ e.inn.length ≤ S ∧ e.ptr.length ≤ S
theorem ends_bel {w w3 wr w5 w6 w7 : World} (h1 : Below w.heap.size w w3) (h2 : Below w3.heap.size w3 wr) (h3 : Below wr.heap.size wr w5) (h4 : Below w5.heap.size w5 w6) (h5 : Below w6.heap.size w6 w7) : Below w.heap.size w w7 := by
  have a1 := h1.trans (h2.mono h1.size)
  have a2 := a1.trans (h3.mono a1.size)
  have a3 := a2.trans (h4.mono a2.size)
  exact a3.trans (h5.mono a3.size)
theorem flat_part (es : List Ed) (k : Nat) : ((es.take k).flatMap puts).length ≤ (es.flatMap puts).length := by
  have h : es.flatMap puts = (es.take k).flatMap puts ++ (es.drop k).flatMap puts := by rw [← List.flatMap_append, List.take_append_drop]
  rw [h, List.length_append]
  omega
theorem Rt.of {es : List Ed} (h : ∀ e ∈ es, Opn.EdQ e) (hs : (es.map bulkT).sum ≤ 10000) : Rt (es.map rE) (es.map bulkT).sum := by
  have hf := flat_most es
  refine ⟨fun e he => ?_, hs, by rw [List.length_map]; exact len_most es, hf, fun k => Nat.le_trans (flat_part _ k) hf, fun e he => ?_⟩
  · obtain ⟨x, hx, rfl⟩ := List.mem_map.1 he
    exact okE_right (h x hx).2.1
  · obtain ⟨x, hx, rfl⟩ := List.mem_map.1 he
    have hb := bulk_in hx
    unfold bulkT at hb
    have e1 : (rE x).out.length = x.out.length := by simp [rE]
    have e2 : (rE x).inn.length = x.inn.length := by simp [rE]
    have e3 : (rE x).ptr.length ≤ x.ptr.length := by simp [rE]; omega
    unfold bulkT
    omega
set_option maxHeartbeats 8000000 in
theorem walk (a : Option Addr) (cap : Nat) (es : List Ed) (n : Int) (w : World) (hn : I64 n) (hw : EdsAw w (a, es.length, cap) es) (hlm : es.length ≤ 9223372036854775807) (hq : ∀ e ∈ es, Opn.EdQ e) :
    Calls Tryd.prog 3 #[.slice a es.length cap, .int .i64 n] w fun e w' => e = .returned (.bool true) ∧ Below w.heap.size w w' := by
  obtain ⟨iz, hiz, hz0, hz1, hz2⟩ := info_parts infoD
  obtain ⟨jz, hjz, hy0, hy1, hy2⟩ := info_parts infoI
  have HW : Hid (EdsAw w (a, es.length, cap) es ∧ (∀ e ∈ es, Opn.EdQ e) ∧ I64 n) := ⟨hw, hq, hn⟩
  have HFW : ∀ w1, Below w.heap.size w w1 → Calls Tryd.prog 6 #[.slice a es.length cap] w1 fun r w' => ∃ b : Bool, r = .returned (.bool b) ∧ Below w1.heap.size w1 w' ∧ (b = true → (es.map bulkT).sum ≤ 10000) := fun w1 hb => few_any w1 a cap _ es (hw.below hb) (by omega) (fun e he => (hq e he).1)
  have HRW : Hid (∀ w1, Below w.heap.size w w1 → (es.map bulkT).sum ≤ 10000 → Calls Tryd.prog 7 #[.slice a es.length cap] w1 fun e w' => ∃ T s vs, e = .returned (svV s) ∧ Rs w1 T w' (es.map rE) s vs) := hidm (fun w1 hb hs => right_any w1 a _ cap es (hw.below hb) (by have := len_most es; omega) (fun e he => by
    have hb := bulk_in he
    unfold bulkT at hb hs
    obtain ⟨q1, q2, q3, q4⟩ := hq e he
    exact ⟨⟨by omega, by omega, by omega⟩, q3, q4, q1.2.2⟩))
  have hk := known_any w
  clear hw hq hn
  go_enter Tryd.func3, Tryd.ntmps3
  go_upto_region 3 with (go_at_call 5; go_loud (refine hk.mono ?_; rintro e w1 ⟨rfl, hb1⟩; have HB1 : Hid (Below w.heap.size w w1) := hb1; clear hb1))
  clear hk
  go_wp2_with fail
  refine (HFW w1 HB1.out).mono ?_
  rintro e w2 ⟨b, rfl, hb2, hsm⟩
  have HB2 : Hid (Below w.heap.size w w2) := HB1.out.trans (hb2.mono HB1.out.size)
  clear hb2 HFW HB1
  cases b with
  | false =>
    go_wp2
    go_ret
    exact ⟨rfl, HB2.out⟩
  | true =>
    have HSM : Hid (Rt (es.map rE) (es.map bulkT).sum) := Rt.of HW.out.2.1 (hsm rfl)
    have HRI := HRW.out w2 HB2.out (hsm rfl)
    generalize (es.map bulkT).sum = S at HSM
    clear hsm HRW
    go_upto_region 6 with (go_at_call 7; go_loud (refine HRI.mono ?_; rintro e w3 ⟨T3, ⟨sa, sn, sc⟩, vs3, rfl, hrs⟩; have HRS := hidm hrs; clear hrs; unfold svV; dsimp only))
    clear HRI
    obtain ⟨es', hes'⟩ : ∃ x, es.map rE = x := ⟨_, rfl⟩
    rw [hes'] at HRS HSM
    have HEA : Hid (EdsAt w3 (sa, sn, sc) es') := HRS.out.eds_at
    have hsn : sn = es'.length := by obtain ⟨_, _, h2, _⟩ := HEA.out; exact h2
    have HB3 : Hid (Below w.heap.size w w3) := HB2.out.trans (HRS.out.old.below.mono HB2.out.size)
    have HSA : Hid ((sa = none ∧ sn = 0 ∧ sc = 0) ∨ ∃ g, sa = some ⟨g, 0, none⟩) := own_addr (a := sa) (n := sn) (c := sc) HRS.out.own
    have hsc : sn ≤ sc := by obtain ⟨_, _, _, _, h4, _⟩ := HEA.out; have : es'.length ≤ sc := h4; omega
    have HSN := hidm hsn
    have hsn2 : sn ≤ 10000 := by have := HSM.out.most; have := HSM.out.len; omega
    clear hes' HRS HB2 hsn
    have HN : Hid (I64 n) := HW.out.2.2
    clear HW
    have HB0 : Hid (Bk w3 (fun _ => 0) w3 ((es'.take 0).flatMap puts) [] (endsL es' 0) (.slice none 0 0) (.slice none 0 0)) := ⟨Old.first w3, OwnK.empty _ _ _, by simp, fun j v l hv => by simp at hv, OwnL.nil _ _ _⟩
    go_wp2
    go_loopw [5, 6, 7] (fun v u i wr => ∃ (k : Nat) (T : Nat → Nat) (vs : List Sv), k ≤ sn ∧ i = .int .i64 (k : Int) ∧ Hid (Bk w3 T wr ((es'.take k).flatMap puts) vs (endsL es' k) v u)) (fun _ _ i _ => sn - (intOf i).toNat)
    case atStart => exact ⟨0, _, [], Nat.zero_le _, rfl, HB0⟩
    case round =>
      clear HB0
      obtain ⟨k, T, vs, hk, rfl, HK⟩ := hrel
      obtain ⟨aR, cR, rfl, -⟩ := HK.out.own.form
      obtain ⟨aE, cE, rfl, hiE, -⟩ := HK.out.en.form
      have HIE := hidm hiE
      clear hiE
      have w4 : IntKind.i64.wrap ((k : Int) + 1) = (k : Int) + 1 := IntWalk.i64_in _ (by omega)
      by_cases hlt : k < sn
      · have q1 : (k : Int) < (sn : Int) := by omega
        have hkl : k < es'.length := by rw [← HSN.out]; exact hlt
        obtain ⟨ed, hed0⟩ : ∃ e, es'[k]? = some e := ⟨_, List.getElem?_eq_getElem hkl⟩
        have HEW : Hid (EdsAt wr (sa, sn, sc) es') := HEA.out.below HK.out.old.below
        obtain ⟨b1, off1, v, hsa, hbl1, cs1, he1⟩ := eds_at HEW.out hed0
        dsimp only at hsa
        subst hsa
        obtain ⟨v1, v2, v3, ⟨oa, ol, oc⟩, ⟨ia, il, ic⟩, ⟨pa, pl, pc⟩⟩ := v
        obtain ⟨⟨g1, g2, g3⟩, lo, li, lp, cb⟩ := he1
        dsimp only at g1 g2 g3
        subst g1 g2 g3
        have c0 : wr.cell? ⟨b1, off1 + k * 6, none⟩ = some (.int .u64 (ed.log : Int)) := cs1 0 _ rfl
        have c1 : wr.cell? ⟨b1, off1 + k * 6 + 1, none⟩ = some (.int .u64 (ed.nxt : Int)) := cs1 1 _ rfl
        have c2 : wr.cell? ⟨b1, off1 + k * 6 + 2, none⟩ = some (.int .u64 (ed.seq : Int)) := cs1 2 _ rfl
        have c3 : wr.cell? ⟨b1, off1 + k * 6 + 3, none⟩ = some (.slice oa ol oc) := cs1 3 _ rfl
        have c4 : wr.cell? ⟨b1, off1 + k * 6 + 4, none⟩ = some (.slice ia il ic) := cs1 4 _ rfl
        have c5 : wr.cell? ⟨b1, off1 + k * 6 + 5, none⟩ = some (.slice pa pl pc) := cs1 5 _ rfl
        have hme := List.mem_of_getElem? hed0
        have hea := HSM.out.each ed hme
        have hok := HSM.out.ok ed hme
        have hmo := HSM.out.most
        have HPU : Calls Tryd.prog 8 #[.agg #[.int .u64 (ed.log : Int), .int .u64 (ed.nxt : Int), .int .u64 (ed.seq : Int), .slice oa ol oc, .slice ia il ic, .slice pa pl pc]] wr fun e w' => PtIsN (puts ed) wr e w' := put_new ed (oa, ol, oc) (ia, il, ic) (pa, pl, pc) wr lo li lp hok cb (by omega) (by omega)
        have hol : ol = ed.out.length := lo.2.1
        have hil : il = ed.inn.length := li.2.1
        have HOL : Hid (((puts ed).length : Int) = max 1 (((ol : Int) + (il : Int) + 255) / 256)) := by
          have h0 := puts_len (tabs ed) ed (Nat.le_refl _)
          unfold tabs at h0
          rw [← hol, ← hil] at h0
          show ((puts ed).length : Int) = _
          rw [h0]
          omega
        have HTK : Hid ((es'.take (k + 1)).flatMap puts = (es'.take k).flatMap puts ++ puts ed) := by
          show _ = _
          rw [List.take_add_one, hed0, List.flatMap_append]
          simp
        have HPA : Hid (∀ (m : Nat) (l : List Nat), (puts ed)[m]? = some l → 0 < l.length ∧ l.length < 262144 ∧ l[0]? = some (bit (decide (m + 1 = (puts ed).length)))) := hidm fun m l hl => puts_at (tabs ed) ed m l (Nat.le_refl _) hok hl
        have hpl0 : (puts ed).length ≤ 10000 ∧ ((es'.take k).flatMap puts).length ≤ 10000 := by
          have h1 := HSM.out.part (k + 1)
          rw [HTK.out, List.length_append] at h1
          omega
        have ho2 : ol ≤ 10000 ∧ il ≤ 10000 := by omega
        clear hkl hed0 cs1 lo li lp cb hme hok hol hil hea
        generalize puts ed = rs2 at *
        go_upto_region 12 with (go_at_call 8; go_loud (refine HPU.mono ?_; rintro e W5 ⟨⟨sp, pn, pcap⟩, rfl, hdn, hb5⟩; unfold svV; dsimp only; have HB5 : Hid (Below wr.heap.size wr W5) := hb5; have HDN := hidm hdn; have c35 : W5.cell? ⟨b1, off1 + k * 6 + 3, none⟩ = some (.slice oa ol oc) := (hb5.cell (p := ⟨b1, off1 + k * 6 + 3, none⟩) hbl1).trans c3; have c45 : W5.cell? ⟨b1, off1 + k * 6 + 4, none⟩ = some (.slice ia il ic) := (hb5.cell (p := ⟨b1, off1 + k * 6 + 4, none⟩) hbl1).trans c4; clear hdn hb5))
        clear c0 c1 c2 c3 c4 c5 HPU
        have HPN : Hid (pn = rs2.length) := HDN.out.2.1
        have hpn9 : pn ≤ 10000 := by have := HPN.out; omega
        have z1 : IntKind.i64.wrap ((ol : Int) + (il : Int)) = (ol : Int) + (il : Int) := IntWalk.i64_in _ (by omega)
        have z2 : IntKind.i64.wrap ((ol : Int) + (il : Int) + 255) = (ol : Int) + (il : Int) + 255 := IntWalk.i64_in _ (by omega)
        have z3 : (pn : Int) = max 1 (((ol : Int) + (il : Int) + 255) / 256) := by rw [HPN.out]; exact HOL.out
        go_quiet (fail)
        go_upto_if 53 with (fail)
        rw [← z3]
        clear z1 z2 z3 HOL c35 c45
        obtain ⟨⟨vs2, hv1, hv2, hv3⟩, -, hvn, hvc, -⟩ := HDN.out
        have HV2 : Hid (vs2.length = rs2.length ∧ IsK kD W5 sp vs2 ∧ (∀ (j : Nat) v l, vs2[j]? = some v → rs2[j]? = some l → DsN wr (fun _ => 0) W5 v l) ∧ (sp = none → pcap = 0)) := ⟨hv1, hv2, hv3, hvn⟩
        clear hv1 hv2 hv3 hvn hvc HDN
        have z7 : IntKind.i64.wrap ((pn : Int) - 1) = (pn : Int) - 1 := IntWalk.i64_in _ (by omega)
        go_wp2
        go_loopw [10] (fun j wr => ∃ (m d : Nat), m ≤ pn ∧ j = .int .i64 (m : Int) ∧ wr = W5.drewN d) (fun j _ => pn - (intOf j).toNat)
        case atStart => exact ⟨0, _, Nat.zero_le _, rfl, rfl⟩
        case round =>
          obtain ⟨m, d, hm, rfl, rfl⟩ := hrel
          have w6 : IntKind.i64.wrap ((m : Int) + 1) = (m : Int) + 1 := IntWalk.i64_in _ (by omega)
          by_cases hml : m < pn
          · have q2 : (m : Int) < (pn : Int) := by omega
            have hmr : m < rs2.length := by rw [← HPN.out]; exact hml
            obtain ⟨l, hl⟩ : ∃ l, rs2[m]? = some l := ⟨_, List.getElem?_eq_getElem hmr⟩
            obtain ⟨⟨va, vn, vc⟩, hv⟩ : ∃ v, vs2[m]? = some v := ⟨_, List.getElem?_eq_getElem (by rw [HV2.out.1]; exact hmr)⟩
            obtain ⟨⟨y1, y2, -⟩, -⟩ := HV2.out.2.2.1 m _ l hv hl
            obtain ⟨p1, p2, p3⟩ := HPA.out m l hl
            obtain ⟨bp, op, rfl, rp⟩ := HV2.out.2.1 (by rintro rfl; simp at hv)
            have d0 : W5.cell? ⟨bp, op + m, none⟩ = some (.slice va vn vc) := by
              have := rp.2 m _ hv 0 _ rfl
              rwa [show op + m * kD.size + 0 = op + m from by show op + m * 1 + 0 = _; omega] at this
            obtain ⟨bv, ov, hva, rv⟩ := y2.1 (by rintro rfl; simp at p1)
            dsimp only at hva y1
            subst hva
            have d1 : W5.cell? ⟨bv, ov, none⟩ = some (.int .u8 ((bit (decide (m + 1 = rs2.length)) : Nat) : Int)) := by
              have := rv.2 0 _ p3
              rwa [Nat.add_zero] at this
            have z4 : ¬ (262144 : Int) ≤ (vn : Int) := by omega
            have z5 : ((vn : Int) == 0) = false := by simp; omega
            have z6 : (0 : Int) < (vn : Int) := by omega
            clear hl hv y1 y2 p1 p2 p3 rp rv hmr
            by_cases hla : m + 1 = pn
            · have e1 : bit (decide (m + 1 = rs2.length)) = 1 := by rw [← HPN.out]; simp [hla, bit]
              rw [e1] at d1
              have z8 : IntKind.i64.wrap (m : Int) = (m : Int) := IntWalk.i64_in _ (by omega)
              subst hla
              go_wp2
              go_roundw
              all_goals first | exact ⟨m + 1, d, by omega, by go_num, rfl⟩ | exact ⟨m + 1, Nat.le_refl _, by omega, d, rfl⟩ | exact ⟨m + 1, by omega, by omega, d, rfl⟩ | exact ⟨⟨m + 1, d, by omega, by go_num, rfl⟩, by simp [intOf]; omega⟩ | (simp [intOf]; done) | (simp [intOf]; omega)
            · have e1 : bit (decide (m + 1 = rs2.length)) = 0 := by rw [← HPN.out]; simp [hla, bit]
              rw [e1] at d1
              have z8 : ((m : Int) == (pn : Int) - 1) = false := by simp; omega
              go_wp2
              go_roundw
              all_goals first | exact ⟨m + 1, d, by omega, by go_num, rfl⟩ | exact ⟨m + 1, Nat.le_refl _, by omega, d, rfl⟩ | exact ⟨m + 1, by omega, by omega, d, rfl⟩ | exact ⟨⟨m + 1, d, by omega, by go_num, rfl⟩, by simp [intOf]; omega⟩ | (simp [intOf]; done) | (simp [intOf]; omega)
          obtain rfl : m = pn := by omega
          have q2 : ¬ (m : Int) < (m : Int) := by omega
          have hbd : Below W5.heap.size W5 (W5.drewN d) := below_drewN (Below.refl _ _) d
          have HKW : Hid (Bk w3 T (W5.drewN d) ((es'.take k).flatMap puts) vs (endsL es' k) (.slice aR vs.length cR) (.slice aE (endsL es' k).length cE)) := (HK.out.below HB5.out).below hbd
          have HIW : Hid (IsK kD (W5.drewN d) sp vs2) := HV2.out.2.1.below hbd
          have HDW : Hid (∀ (j : Nat) v l, vs2[j]? = some v → rs2[j]? = some l → DsT T (W5.drewN d) v l) := hidm fun j v l hv hl => by
            obtain ⟨⟨y1, y2, y3, y4, y5, y6⟩, y7⟩ := HV2.out.2.2.1 j v l hv hl
            exact ⟨y1, y2.below hbd, y3, y4, y5, fun b off e => ⟨HK.out.old.zero b (.inr (y7 b off e)), Nat.lt_of_lt_of_le (y6 b off e).2 hbd.size⟩⟩
          clear hbd
          generalize W5.drewN d = W at *
          have hvl : vs.length ≤ 10000 := by rw [HK.out.len]; exact hpl0.2
          have hvl2 : vs2.length ≤ 10000 := by rw [HV2.out.1]; exact hpl0.1
          go_wp2_with (first
            | (at_builtin; (refine wpList_appK kD _ (by rfl) (.tmp 89) (.tmp 90) 26 (by rfl) iz Tryd.underlying26 hiz hz0 hz1 hz2 1 T (.slice aR vs.length cR) vs (by rfl) HKW.out.own sp m pcap vs2 (by rfl) (by rw [HV2.out.1]; exact HPN.out) HV2.out.2.2.2 HIW.out (by omega) ?_; intro a6 c6 T6 w6 hown6 hg6; have HB6 : Hid (Bk w3 T6 w6 ((es'.take k).flatMap puts ++ rs2) (vs ++ vs2) (endsL es' k) (.slice a6 (vs.length + vs2.length) c6) (.slice aE (endsL es' k).length cE)) := HKW.out.recs hg6 hown6 HV2.out.1 HDW.out; clear hown6 hg6))
            | (at_builtin; go_loud (refine wpList_appL _ (by rfl) (.tmp 92) (.tmp 95) 27 (by rfl) jz Tryd.underlying27 hjz hy0 hy1 hy2 2 T6 (.slice aE (endsL es' k).length cE) (endsL es' k) (by rfl) (HB6.out.en.below ((Below.refl _ _).alloc (Nat.le_refl _) _)) (some ⟨w6.heap.size, 0, none⟩) 1 1 [((vs.length + vs2.length : Nat) : Int)] (by rfl) (by rfl) (by simp) isI_new (by rw [endsL_len]; simp; omega) ?_; intro a7 c7 T7 w7 hown7 hgo7 hat7; have HB7 : Hid (Bk w3 T7 w7 ((es'.take k).flatMap puts ++ rs2) (vs ++ vs2) (endsL es' k ++ [((vs.length + vs2.length : Nat) : Int)]) (.slice a6 (vs.length + vs2.length) c6) (.slice a7 ((endsL es' k).length + 1) c7)) := (HB6.out.below ((Below.refl _ _).alloc (Nat.le_refl _) _)).ends hgo7 hown7; clear hown7 hgo7 hat7)))
          go_roundw
          case rel =>
            refine ⟨k + 1, T7, vs ++ vs2, by omega, by go_num, ?_⟩
            rw [HTK.out, endsL_succ, HTK.out, List.length_append, ← HK.out.len, ← HV2.out.1]
            exact HB7.out
          case measure => simp [intOf]; omega
      obtain rfl : k = sn := by omega
      have q1 : ¬ (k : Int) < (k : Int) := by omega
      have HKE : Hid (Bk w3 T wr (es'.flatMap puts) vs (endsL es' k) (.slice aR vs.length cR) (.slice aE (endsL es' k).length cE)) := by
        have := HK.out
        rw [List.take_of_length_le (by rw [HSN.out]; exact Nat.le_refl _)] at this
        exact this
      clear HK
      have hel := endsL_len es' k
      rw [hel]
      clear hel
      obtain ⟨rn, hrn⟩ : ∃ x, vs.length = x := ⟨_, rfl⟩
      rw [hrn]
      have HRL : Hid (rn = (es'.flatMap puts).length ∧ IsD wr aR (es'.flatMap puts)) := by
        have h1 := HKE.out.own
        rw [hrn] at h1
        have h2 : Bk w3 T wr (es'.flatMap puts) vs (endsL es' k) (.slice aR rn cR) (.slice aE (endsL es' k).length cE) := ⟨HKE.out.old, h1, HKE.out.len, HKE.out.ds, HKE.out.en⟩
        exact ⟨h2.isD.2, h2.isD.1⟩
      have HRA : Hid ((aR = none ∧ rn = 0 ∧ cR = 0) ∨ ∃ g, aR = some ⟨g, 0, none⟩) := by
        have h1 := HKE.out.own
        rw [hrn] at h1
        exact own_addr h1
      have hrb : rn ≤ 10000 := by have h1 := HSM.out.flat; have h2 := HSM.out.most; have h3 := HRL.out.1; omega
      have hrc : rn ≤ cR := by have h1 := HKE.out.own; rw [hrn] at h1; have h2 := (OwnK.sk (s := (aR, rn, cR)) h1).2.2.1; dsimp only at h2; omega
      have HBW : Hid (Below w3.heap.size w3 wr) := HKE.out.old.below
      have HPC : ∀ V, Calls Tryd.prog 9 #[.int .i64 n, .int .i64 ((rn : Int) + 1)] V fun e w' => e = .returned (.int .i64 (plc n ((rn : Int) + 1))) ∧ w' = V := fun V => place_any n _ V HN.out (by omega) (by omega)
      have hpb := plc_bound n ((rn : Int) + 1) (by omega)
      obtain ⟨q, hq⟩ : ∃ q : Nat, plc n ((rn : Int) + 1) = (q : Int) := ⟨(plc n ((rn : Int) + 1)).toNat, by omega⟩
      rw [hq] at HPC hpb
      have hqr : q ≤ rn := by omega
      have z9 : IntKind.i64.wrap ((rn : Int) + 1) = (rn : Int) + 1 := IntWalk.i64_in _ (by omega)
      obtain ⟨Wh, hWh⟩ : ∃ x, wholes es' q = x := ⟨_, rfl⟩
      have HWH : Hid ((∀ x, x < k → (((es'.take (x + 1)).flatMap puts).length ≤ q ↔ x < Wh)) ∧ Wh ≤ k) := by
        rw [← hWh]
        exact ⟨fun x hx => wholes_iff es' q x (by rw [← HSN.out]; exact hx), by have h1 := wholes_le es' q; have h2 := HSN.out; omega⟩
      have HG1 : Hid (∀ V, Below wr.heap.size wr V → Calls Tryd.prog 10 #[.slice aR rn cR] V fun e w' => ∃ a1 c1, e = .returned (.tuple #[.slice a1 k c1, .int .i64 0]) ∧ Hid (EdsAt w' (a1, k, c1) es') ∧ Hid (Below V.heap.size V w')) := hidm fun V hV => by
        refine (get_any aR rn cR (es'.flatMap puts) V (HRL.out.2.below hV) HRL.out.1.symm (by omega)).mono ?_
        rintro e w' (⟨e2, ⟨s1, s2, s3⟩, h1, h2, h3, h4⟩ | ⟨h1, _⟩)
        · rw [gets_whole es' HSM.out.ok] at h1
          cases h1
          have h5 : s2 = k := by obtain ⟨_, _, h6, _⟩ := h3; have h7 := HSN.out; dsimp only at h6; omega
          subst h5
          exact ⟨s1, s3, h2, h3, h4⟩
        · rw [gets_whole es' HSM.out.ok] at h1
          cases h1
      have HG2 : Hid (∀ V, Below wr.heap.size wr V → Calls Tryd.prog 10 #[.slice aR q cR] V fun e w' => ∃ a2 c2, e = .returned (.tuple #[.slice a2 Wh c2, .int .i64 0]) ∧ Hid (EdsAt w' (a2, Wh, c2) (es'.take Wh)) ∧ Hid (Below V.heap.size V w')) := hidm fun V hV => by
        refine (get_any aR q cR ((es'.flatMap puts).take q) V ((HRL.out.2.below hV).take q) (by rw [List.length_take]; have := HRL.out.1; omega) (by omega)).mono ?_
        rintro e w' (⟨e2, ⟨s1, s2, s3⟩, h1, h2, h3, h4⟩ | ⟨h1, _⟩)
        · rw [gets_first es' q HSM.out.ok, hWh] at h1
          cases h1
          have h5 : s2 = Wh := by obtain ⟨_, _, h6, _⟩ := h3; dsimp only at h6; rw [List.length_take] at h6; have h7 := HSN.out; have h8 := HWH.out.2; omega
          subst h5
          exact ⟨s1, s3, h2, h3, h4⟩
        · rw [gets_first es' q HSM.out.ok] at h1
          cases h1
      have HLN : Hid (∀ e ∈ es', LenB e) := hidm fun e he => by have h1 := HSM.out.each e he; have h2 := HSM.out.most; exact ⟨by omega, by omega, by omega⟩
      have HSE : Hid (∀ V a1 c1, Below wr.heap.size wr V → EdsAt V (a1, k, c1) es' → Calls Tryd.prog 11 #[.slice a1 k c1, .slice sa k sc] V fun e w' => e = .returned (.bool true) ∧ Below V.heap.size V w') := hidm fun V a1 c1 hV h1 => sameEdits_true V a1 sa k c1 sc es' h1 ((HEA.out.below HBW.out).below hV) HLN.out (by omega)
      have HSF : Hid (∀ V a2 c2, Below wr.heap.size wr V → EdsAt V (a2, Wh, c2) (es'.take Wh) → Calls Tryd.prog 11 #[.slice a2 Wh c2, .slice sa Wh sc] V fun e w' => e = .returned (.bool true) ∧ Below V.heap.size V w') := hidm fun V a2 c2 hV h1 => sameEdits_true V a2 sa Wh c2 sc (es'.take Wh) h1 (((HEA.out.below HBW.out).below hV).take (by have h7 := HSN.out; have h8 := HWH.out.2; omega)) (fun e he => HLN.out e (List.mem_of_mem_take he)) (by have := HWH.out.2; omega)
      have hwk := HWH.out.2
      clear hq hWh hpb HN HLN hrn HKE
      clear iz hiz hz0 hz1 hz2 jz hjz hy0 hy1 hy2
      rcases HRA.out with ⟨rfl, rfl, rfl⟩ | ⟨gR, rfl⟩
      · obtain rfl : q = 0 := by omega
        go_wp2_with (first
          | (go_at_call 9; go_loud (refine (HPC _).mono ?_; rintro e w99 ⟨rfl, hw9⟩; have hw8 := hw9.symm; clear hw9; subst hw8))
          | (go_at_call 10; (have hmk := HE1.out; clear hmk; refine (HG2.out w4 HB4.out).mono ?_; rintro e w5 ⟨a2, c2, rfl, HE2, HB5⟩; have HBT : Hid (Below wr.heap.size wr w5) := HB4.out.trans (HB5.out.mono HB4.out.size)))
          | (go_at_call 10; go_loud (refine (HG1.out wr (Below.refl _ _)).mono ?_; rintro e w4 ⟨a1, c1, rfl, HE1, HB4⟩)))
        clear HPC HG1 HG2
        have HIW : Hid (IsI w5 aE (endsL es' k)) := HIE.out.below HBT.out
        go_loopw [15] (fun i wr => ∃ x : Nat, x ≤ Wh ∧ i = .int .i64 (x : Int) ∧ wr = w5) (fun i _ => Wh - (intOf i).toNat)
        case atStart => exact ⟨0, Nat.zero_le _, rfl, rfl⟩
        case round =>
          obtain ⟨x, hx, rfl, hww⟩ := hrel
          subst wr
          have wx : IntKind.i64.wrap ((x : Int) + 1) = (x : Int) + 1 := IntWalk.i64_in _ (by omega)
          by_cases hxk : x < k
          · have qx : (x : Int) < (k : Int) := by omega
            obtain ⟨bE, oE, rfl, hre⟩ := HIW.out (by intro h0; have h1 := endsL_len es' k; rw [h0] at h1; simp at h1; omega)
            have ce : w5.cell? ⟨bE, oE + x, none⟩ = some (.int .i64 ((endsL es' k).getD x 0)) := hre.cell (by rw [endsL_len]; exact hxk)
            rw [endsL_get es' hxk] at ce
            have hif := HWH.out.1 x hxk
            generalize ((es'.take (x + 1)).flatMap puts).length = ee at ce hif
            clear hre
            by_cases hxw : x < Wh
            · have hle : (ee : Int) ≤ (0 : Int) := by have := hif.2 hxw; omega
              go_wp2
              go_roundw
              case rel => exact ⟨x + 1, by omega, by go_num, by first | rfl | trivial⟩
              case measure => simp [intOf]; omega
            have hle : ¬ (ee : Int) ≤ (0 : Int) := fun h => hxw (hif.1 (by omega))
            obtain rfl : x = Wh := by omega
            rcases HSA.out with ⟨rfl, rfl, rfl⟩ | ⟨gS, rfl⟩
            · obtain rfl : x = 0 := by omega
              go_wp2_with (first | (go_at_call 11; (have hmk := HB6.out; clear hmk; refine (HSF.out w6 a2 c2 (HBT.out.trans (HB6.out.mono HBT.out.size)) (HE2.out.below HB6.out)).mono ?_; rintro e w7 ⟨rfl, hb7⟩; have HB7 : Hid (Below w6.heap.size w6 w7) := hb7; clear hb7)) | (go_at_call 11; go_loud (refine (HSE.out w5 a1 c1 HBT.out (HE1.out.below HB5.out)).mono ?_; rintro e w6 ⟨rfl, hb6⟩; have HB6 : Hid (Below w5.heap.size w5 w6) := hb6; clear hb6)))
              go_ret
              exact ⟨rfl, ends_bel HB3.out HBW.out HBT.out HB6.out HB7.out⟩
            · go_wp2_with (first | (go_at_call 11; (have hmk := HB6.out; clear hmk; refine (HSF.out w6 a2 c2 (HBT.out.trans (HB6.out.mono HBT.out.size)) (HE2.out.below HB6.out)).mono ?_; rintro e w7 ⟨rfl, hb7⟩; have HB7 : Hid (Below w6.heap.size w6 w7) := hb7; clear hb7)) | (go_at_call 11; go_loud (refine (HSE.out w5 a1 c1 HBT.out (HE1.out.below HB5.out)).mono ?_; rintro e w6 ⟨rfl, hb6⟩; have HB6 : Hid (Below w5.heap.size w5 w6) := hb6; clear hb6)))
              go_ret
              exact ⟨rfl, ends_bel HB3.out HBW.out HBT.out HB6.out HB7.out⟩
          have qx : ¬ (x : Int) < (k : Int) := by omega
          obtain rfl : x = Wh := by omega
          rcases HSA.out with ⟨rfl, rfl, rfl⟩ | ⟨gS, rfl⟩
          · obtain rfl : x = 0 := by omega
            go_wp2_with (first | (go_at_call 11; (have hmk := HB6.out; clear hmk; refine (HSF.out w6 a2 c2 (HBT.out.trans (HB6.out.mono HBT.out.size)) (HE2.out.below HB6.out)).mono ?_; rintro e w7 ⟨rfl, hb7⟩; have HB7 : Hid (Below w6.heap.size w6 w7) := hb7; clear hb7)) | (go_at_call 11; go_loud (refine (HSE.out w5 a1 c1 HBT.out (HE1.out.below HB5.out)).mono ?_; rintro e w6 ⟨rfl, hb6⟩; have HB6 : Hid (Below w5.heap.size w5 w6) := hb6; clear hb6)))
            go_ret
            exact ⟨rfl, ends_bel HB3.out HBW.out HBT.out HB6.out HB7.out⟩
          · go_wp2_with (first | (go_at_call 11; (have hmk := HB6.out; clear hmk; refine (HSF.out w6 a2 c2 (HBT.out.trans (HB6.out.mono HBT.out.size)) (HE2.out.below HB6.out)).mono ?_; rintro e w7 ⟨rfl, hb7⟩; have HB7 : Hid (Below w6.heap.size w6 w7) := hb7; clear hb7)) | (go_at_call 11; go_loud (refine (HSE.out w5 a1 c1 HBT.out (HE1.out.below HB5.out)).mono ?_; rintro e w6 ⟨rfl, hb6⟩; have HB6 : Hid (Below w5.heap.size w5 w6) := hb6; clear hb6)))
            go_ret
            exact ⟨rfl, ends_bel HB3.out HBW.out HBT.out HB6.out HB7.out⟩
      · go_wp2_with (first
          | (go_at_call 9; go_loud (refine (HPC _).mono ?_; rintro e w99 ⟨rfl, hw9⟩; have hw8 := hw9.symm; clear hw9; subst hw8))
          | (go_at_call 10; (have hmk := HE1.out; clear hmk; refine (HG2.out w4 HB4.out).mono ?_; rintro e w5 ⟨a2, c2, rfl, HE2, HB5⟩; have HBT : Hid (Below wr.heap.size wr w5) := HB4.out.trans (HB5.out.mono HB4.out.size)))
          | (go_at_call 10; go_loud (refine (HG1.out wr (Below.refl _ _)).mono ?_; rintro e w4 ⟨a1, c1, rfl, HE1, HB4⟩)))
        clear HPC HG1 HG2
        have HIW : Hid (IsI w5 aE (endsL es' k)) := HIE.out.below HBT.out
        go_loopw [15] (fun i wr => ∃ x : Nat, x ≤ Wh ∧ i = .int .i64 (x : Int) ∧ wr = w5) (fun i _ => Wh - (intOf i).toNat)
        case atStart => exact ⟨0, Nat.zero_le _, rfl, rfl⟩
        case round =>
          obtain ⟨x, hx, rfl, hww⟩ := hrel
          subst wr
          have wx : IntKind.i64.wrap ((x : Int) + 1) = (x : Int) + 1 := IntWalk.i64_in _ (by omega)
          by_cases hxk : x < k
          · have qx : (x : Int) < (k : Int) := by omega
            obtain ⟨bE, oE, rfl, hre⟩ := HIW.out (by intro h0; have h1 := endsL_len es' k; rw [h0] at h1; simp at h1; omega)
            have ce : w5.cell? ⟨bE, oE + x, none⟩ = some (.int .i64 ((endsL es' k).getD x 0)) := hre.cell (by rw [endsL_len]; exact hxk)
            rw [endsL_get es' hxk] at ce
            have hif := HWH.out.1 x hxk
            generalize ((es'.take (x + 1)).flatMap puts).length = ee at ce hif
            clear hre
            by_cases hxw : x < Wh
            · have hle : (ee : Int) ≤ (q : Int) := by have := hif.2 hxw; omega
              go_wp2
              go_roundw
              case rel => exact ⟨x + 1, by omega, by go_num, by first | rfl | trivial⟩
              case measure => simp [intOf]; omega
            have hle : ¬ (ee : Int) ≤ (q : Int) := fun h => hxw (hif.1 (by omega))
            obtain rfl : x = Wh := by omega
            rcases HSA.out with ⟨rfl, rfl, rfl⟩ | ⟨gS, rfl⟩
            · obtain rfl : x = 0 := by omega
              go_wp2_with (first | (go_at_call 11; (have hmk := HB6.out; clear hmk; refine (HSF.out w6 a2 c2 (HBT.out.trans (HB6.out.mono HBT.out.size)) (HE2.out.below HB6.out)).mono ?_; rintro e w7 ⟨rfl, hb7⟩; have HB7 : Hid (Below w6.heap.size w6 w7) := hb7; clear hb7)) | (go_at_call 11; go_loud (refine (HSE.out w5 a1 c1 HBT.out (HE1.out.below HB5.out)).mono ?_; rintro e w6 ⟨rfl, hb6⟩; have HB6 : Hid (Below w5.heap.size w5 w6) := hb6; clear hb6)))
              go_ret
              exact ⟨rfl, ends_bel HB3.out HBW.out HBT.out HB6.out HB7.out⟩
            · go_wp2_with (first | (go_at_call 11; (have hmk := HB6.out; clear hmk; refine (HSF.out w6 a2 c2 (HBT.out.trans (HB6.out.mono HBT.out.size)) (HE2.out.below HB6.out)).mono ?_; rintro e w7 ⟨rfl, hb7⟩; have HB7 : Hid (Below w6.heap.size w6 w7) := hb7; clear hb7)) | (go_at_call 11; go_loud (refine (HSE.out w5 a1 c1 HBT.out (HE1.out.below HB5.out)).mono ?_; rintro e w6 ⟨rfl, hb6⟩; have HB6 : Hid (Below w5.heap.size w5 w6) := hb6; clear hb6)))
              go_ret
              exact ⟨rfl, ends_bel HB3.out HBW.out HBT.out HB6.out HB7.out⟩
          have qx : ¬ (x : Int) < (k : Int) := by omega
          obtain rfl : x = Wh := by omega
          rcases HSA.out with ⟨rfl, rfl, rfl⟩ | ⟨gS, rfl⟩
          · obtain rfl : x = 0 := by omega
            go_wp2_with (first | (go_at_call 11; (have hmk := HB6.out; clear hmk; refine (HSF.out w6 a2 c2 (HBT.out.trans (HB6.out.mono HBT.out.size)) (HE2.out.below HB6.out)).mono ?_; rintro e w7 ⟨rfl, hb7⟩; have HB7 : Hid (Below w6.heap.size w6 w7) := hb7; clear hb7)) | (go_at_call 11; go_loud (refine (HSE.out w5 a1 c1 HBT.out (HE1.out.below HB5.out)).mono ?_; rintro e w6 ⟨rfl, hb6⟩; have HB6 : Hid (Below w5.heap.size w5 w6) := hb6; clear hb6)))
            go_ret
            exact ⟨rfl, ends_bel HB3.out HBW.out HBT.out HB6.out HB7.out⟩
          · go_wp2_with (first | (go_at_call 11; (have hmk := HB6.out; clear hmk; refine (HSF.out w6 a2 c2 (HBT.out.trans (HB6.out.mono HBT.out.size)) (HE2.out.below HB6.out)).mono ?_; rintro e w7 ⟨rfl, hb7⟩; have HB7 : Hid (Below w6.heap.size w6 w7) := hb7; clear hb7)) | (go_at_call 11; go_loud (refine (HSE.out w5 a1 c1 HBT.out (HE1.out.below HB5.out)).mono ?_; rintro e w6 ⟨rfl, hb6⟩; have HB6 : Hid (Below w5.heap.size w5 w6) := hb6; clear hb6)))
            go_ret
            exact ⟨rfl, ends_bel HB3.out HBW.out HBT.out HB6.out HB7.out⟩
end ManifestBack
end Go.Proofs.YtjbnnhephagdmaaDoor
