import Derived.Test.YtjbnnhephagdmaaDoorMp6
import Derived.Deep.DeepCutAuto
namespace Go.Proofs.YtjbnnhephagdmaaDoor
namespace Mnf
open Go.RowKit CMath Byt Cod Crw Irw Laws
set_option linter.unusedVariables false
set_option linter.unusedSimpArgs false
set_option maxRecDepth 20000
/-- what Put answers -/
def PtIsN (rs : List (List Nat)) (w : World) (e : Ending) (w' : World) : Prop := ∃ s, e = .returned (svV s) ∧ DsNew w w' s rs ∧ Below w.heap.size w w'
/-- what Put answers -/
def PtIs (rs : List (List Nat)) (w : World) (e : Ending) (w' : World) : Prop := ∃ s, e = .returned (svV s) ∧ DsAt w' s rs ∧ Below w.heap.size w w'
theorem lsP {w : World} {p q : Sv} {l : List ByteArray} {la : Bool} (h : Ls kT w p l) (hq : (if la then p else nS) = q) : Ls kT w q (if la then l else []) := by
  cases la with
  | true => subst hq; exact h
  | false => subst hq; exact ⟨IsK.nil _ _, rfl, fun _ => rfl, Nat.le_refl _, .inl rfl⟩
set_option maxHeartbeats 1000000 in
theorem put_new (ed : Ed) (o i p : Sv) (w : World) (lo : Ls kPl w o ed.out) (li : Ls kPd w i ed.inn) (lp : Ls kT w p ed.ptr) (ok : okE ed) (bo : o.2.2 ≤ 9223372036854775807 ∧ i.2.2 ≤ 9223372036854775807) (hto : ed.out.length ≤ 1000000000) (hti : ed.inn.length ≤ 1000000000) :
    Calls Tryd.prog 8 #[.agg #[.int .u64 (ed.log : Int), .int .u64 (ed.nxt : Int), .int .u64 (ed.seq : Int), .slice o.1 o.2.1 o.2.2, .slice i.1 i.2.1 i.2.2, .slice p.1 p.2.1 p.2.2]] w fun e w' => PtIsN (puts ed) w e w' := by
  obtain ⟨iz, hiz, hz0, hz1, hz2⟩ := info_parts infoD
  have HP0 := Pt.start w ed o i p #[.int .u64 (ed.log : Int), .int .u64 (ed.nxt : Int), .int .u64 (ed.seq : Int), .slice o.1 o.2.1 o.2.2, .slice i.1 i.2.1 i.2.2, .slice p.1 p.2.1 p.2.2] rfl lo li lp ok bo
  obtain ⟨W0, hW0⟩ : ∃ W, w.alloc (.cells #[.int .u64 (ed.log : Int), .int .u64 (ed.nxt : Int), .int .u64 (ed.seq : Int), .slice o.1 o.2.1 o.2.2, .slice i.1 i.2.1 i.2.2, .slice p.1 p.2.1 p.2.2] 34) = W := ⟨_, rfl⟩
  rw [hW0] at HP0
  have HP : Hid (Pt w (upd (fun _ => 0) w.heap.size 2) W0 ed [] nS o i p) := HP0
  have hl1 : o.2.1 = ed.out.length := lo.2.1
  have hl2 : i.2.1 = ed.inn.length := li.2.1
  have HM : Hid (Calls Tryd.prog 20 #[.agg #[.int .u64 (ed.log : Int), .int .u64 (ed.nxt : Int), .int .u64 (ed.seq : Int), .slice o.1 o.2.1 o.2.2, .slice i.1 i.2.1 i.2.2, .slice p.1 p.2.1 p.2.2]] W0 fun e w' => e = .returned (.bool true) ∧ Below W0.heap.size W0 w') := may_ok ed.log ed.nxt ed.seq o.1 o.2.1 o.2.2 i.1 i.2.1 i.2.2 p.1 p.2.1 p.2.2 ed.out ed.inn ed.ptr W0 (lo.below HP0.old.below) (li.below HP0.old.below) (lp.below HP0.old.below) ok (by omega) (by omega)
  have HH : Hid (ed.out.length ≤ 1000000000 ∧ ed.inn.length ≤ 1000000000) := ⟨hto, hti⟩
  have a0 := HP0.box.2.1 0 _ rfl
  have a1 := HP0.box.2.1 1 _ rfl
  have a2 := HP0.box.2.1 2 _ rfl
  have a3 := HP0.box.2.1 3 _ rfl
  have a4 := HP0.box.2.1 4 _ rfl
  have a5 := HP0.box.2.1 5 _ rfl
  clear HP0 lo li lp ok bo hto hti hl1 hl2
  go_enter Tryd.func8, Tryd.ntmps8
  go_upto_region 1 with (fail)
  (try rw [hW0])
  clear hW0
  go_wp2_with (go_at_call 20; go_loud (refine HM.out.mono ?_; rintro e w1 ⟨he, hb1⟩; subst he; have HP1 : Hid (Pt w (upd (fun _ => 0) w.heap.size 2) w1 ed [] nS o i p) := HP.out.below hb1; clear a0 a1 a2 a3 a4 a5 hb1))
  clear HM HP
  generalize upd (fun _ => 0) w.heap.size 2 = T0 at HP1
  go_loopg [3] (tabs ed) (fun gg s3 wr => ∃ (T : Nat → Nat) (ek : Ed) (rs : List (List Nat)) (s o2 i2 p2 : Sv), s3 = .slice s.1 s.2.1 s.2.2 ∧ tabs ek = gg ∧ Hid (Pt w T wr ek rs s o2 i2 p2 ∧ puts ed = rs ++ puts ek ∧ ek.out.length ≤ 1000000000 ∧ ek.inn.length ≤ 1000000000 ∧ rs.length + tabs ek ≤ 2000000000))
  case atStart => exact ⟨T0, ed, [], nS, o, i, p, rfl, rfl, HP1.out, rfl, HH.out.1, HH.out.2, by have := HH.out; unfold tabs; simp; omega⟩
  case round =>
    clear HP1
    obtain ⟨T, ek, rs, s, o2, i2, p2, rfl, hgg, HX⟩ := hrel
    rename World => wr
    have y0 := HX.out.1.box.2.1 0 _ rfl
    have y1 := HX.out.1.box.2.1 1 _ rfl
    have y2 := HX.out.1.box.2.1 2 _ rfl
    have y3 := HX.out.1.box.2.1 3 _ rfl
    have y4 := HX.out.1.box.2.1 4 _ rfl
    have y5 := HX.out.1.box.2.1 5 _ rfl
    have HSP : Hid (Calls Tryd.prog 21 #[.agg #[.int .u64 (ek.log : Int), .int .u64 (ek.nxt : Int), .int .u64 (ek.seq : Int), .slice o2.1 o2.2.1 o2.2.2, .slice i2.1 i2.2.1 i2.2.2, .slice p2.1 p2.2.1 p2.2.2]] wr fun e w' => SpIs ek.log ek.nxt ek.seq o2 i2 p2 ek.out ek.inn (nOut ek) (nIn ek) (lastE ek) wr e w') := split_any ek o2 i2 p2 wr (HX.out.1.lo.below HX.out.1.old.below) (HX.out.1.li.below HX.out.1.old.below) HX.out.1.bo.1 HX.out.1.bo.2 (by have := HX.out.2.2.1; omega) (by have := HX.out.2.2.2.1; omega)
    have HRF : Hid (okR (lastE ek) (firstE ek)) := okR_first HX.out.1.ok
    have HPE : Hid (puts ek = recB (lastE ek) (firstE ek) :: (if lastE ek then [] else puts (restE ek))) := puts_eq ek
    have HTR : Hid (tabs (restE ek) = tabs ek - 256) := tabs_rest ek
    have HLE : Hid (lastE ek = decide (tabs ek ≤ 256)) := lastE_iff ek
    have HFE : Hid (firstE ek = ⟨ek.log, ek.nxt, ek.seq, ek.out.take (nOut ek), ek.inn.take (nIn ek), if lastE ek then ek.ptr else []⟩) := rfl
    obtain ⟨la, hla⟩ : ∃ la, lastE ek = la := ⟨_, rfl⟩
    rw [hla] at HSP HRF HPE HLE HFE
    clear hla
    have HRF2 : Hid (okR la ⟨ek.log, ek.nxt, ek.seq, ek.out.take (nOut ek), ek.inn.take (nIn ek), if la then ek.ptr else []⟩) := by have h0 := HRF.out; rw [HFE.out] at h0; exact h0
    obtain ⟨RB, hRB⟩ : ∃ RB, recB la ⟨ek.log, ek.nxt, ek.seq, ek.out.take (nOut ek), ek.inn.take (nIn ek), if la then ek.ptr else []⟩ = RB := ⟨_, rfl⟩
    have HRB : Hid (recB la ⟨ek.log, ek.nxt, ek.seq, ek.out.take (nOut ek), ek.inn.take (nIn ek), if la then ek.ptr else []⟩ = RB) := hRB
    have HPE2 : Hid (puts ek = RB :: (if la then [] else puts (restE ek))) := by show _ = _; rw [HPE.out, HFE.out, hRB]
    clear hRB HPE HFE HRF
    go_upto_region 6 with (first
      | (go_at_call 21; go_loud (refine HSP.out.mono ?_; rintro e w2 ⟨o3, i3, o4, i4, he, hl3, hl4, hb4, hbw⟩; subst he; unfold recV evV; dsimp only; have HP2 : Hid (Pt w T w2 ek rs s o2 i2 p2) := HX.out.1.below hbw; have HL3 : Hid ((Ls kPl w o3 (ek.out.take (nOut ek)) ∧ Ls kPl w o4 (ek.out.drop (nOut ek))) ∧ (Ls kPd w i3 (ek.inn.take (nIn ek)) ∧ Ls kPd w i4 (ek.inn.drop (nIn ek))) ∧ (o4.2.2 ≤ 9223372036854775807 ∧ i4.2.2 ≤ 9223372036854775807)) := ⟨hl3 w HX.out.1.lo, hl4 w HX.out.1.li, hb4⟩; obtain ⟨p3, hp3⟩ : ∃ q : Sv, (if la then p2 else nS) = q := ⟨_, rfl⟩; have HP3 : Hid ((if la then p2 else nS) = p3) := hp3; rw [hp3]; clear y0 y1 y2 y3 y4 y5 hl3 hl4 hb4 hbw hp3))
      | (go_at_call 22; go_loud (refine (putRecord_any la ek.log ek.nxt ek.seq o3 i3 p3 (ek.out.take (nOut ek)) (ek.inn.take (nIn ek)) (if la then ek.ptr else []) _ (HL3.out.1.1.below (HP2.out.below (((Below.refl _ _).alloc (Nat.le_refl _) _).alloc (by simp) _)).old.below) (HL3.out.2.1.1.below (HP2.out.below (((Below.refl _ _).alloc (Nat.le_refl _) _).alloc (by simp) _)).old.below) (lsP (HX.out.1.lp.below (HP2.out.below (((Below.refl _ _).alloc (Nat.le_refl _) _).alloc (by simp) _)).old.below) HP3.out) HRF2.out.1 HRF2.out.2.1).mono ?_; rintro e w5 hpr; rw [HRB.out] at hpr; obtain ⟨g5, c5, he, hi5, hc5, hm5, hg5, hg5b, hb5⟩ := hpr; subst he; have hb5' := (((Below.refl w2.heap.size w2).alloc (Nat.le_refl _) (.cells #[.bool la, .int .u64 (ek.log : Int), .int .u64 (ek.nxt : Int), .int .u64 (ek.seq : Int), .slice o3.1 o3.2.1 o3.2.2, .slice i3.1 i3.2.1 i3.2.2, .slice p3.1 p3.2.1 p3.2.2] 58)).alloc (by simp) (.cells #[.int .u64 (ek.log : Int), .int .u64 (ek.nxt : Int), .int .u64 (ek.seq : Int), .slice o4.1 o4.2.1 o4.2.2, .slice i4.1 i4.2.1 i4.2.2, .slice p2.1 p2.2.1 p2.2.2] 34)).trans (hb5.mono (by simp; omega)); have HP5 : Hid (Pt w T w5 ek rs s o2 i2 p2) := HP2.out.below hb5'; have HR5 : Hid (DsN w T w5 (some ⟨g5, 0, none⟩, RB.length, c5) RB) := ⟨⟨rfl, hi5, by simp, hc5, hm5, fun b off e => (by cases e; exact ⟨HP2.out.high _ (by simp at hg5; omega), hg5b⟩)⟩, fun b off e => (by cases e; have hz9 := HP2.out.old.below.size; simp at hg5; omega)⟩; have hzr := ((Zb.new w2 #[.bool la, .int .u64 (ek.log : Int), .int .u64 (ek.nxt : Int), .int .u64 (ek.seq : Int), .slice o3.1 o3.2.1 o3.2.2, .slice i3.1 i3.2.1 i3.2.2, .slice p3.1 p3.2.1 p3.2.2] 58).below ((Below.refl _ _).alloc (Nat.le_refl _) _)).below hb5; have hze := (Zb.new (w2.alloc (.cells #[.bool la, .int .u64 (ek.log : Int), .int .u64 (ek.nxt : Int), .int .u64 (ek.seq : Int), .slice o3.1 o3.2.1 o3.2.2, .slice i3.1 i3.2.1 i3.2.2, .slice p3.1 p3.2.1 p3.2.2] 58)) #[.int .u64 (ek.log : Int), .int .u64 (ek.nxt : Int), .int .u64 (ek.seq : Int), .slice o4.1 o4.2.1 o4.2.2, .slice i4.1 i4.2.1 i4.2.2, .slice p2.1 p2.2.1 p2.2.2] 34).below hb5; rw [World.size_alloc] at hze; have HZ5 : Hid (Zb w5 w2.heap.size [.bool la, .int .u64 (ek.log : Int), .int .u64 (ek.nxt : Int), .int .u64 (ek.seq : Int), .slice o3.1 o3.2.1 o3.2.2, .slice i3.1 i3.2.1 i3.2.2, .slice p3.1 p3.2.1 p3.2.2] ∧ Zb w5 (w2.heap.size + 1) [.int .u64 (ek.log : Int), .int .u64 (ek.nxt : Int), .int .u64 (ek.seq : Int), .slice o4.1 o4.2.1 o4.2.2, .slice i4.1 i4.2.1 i4.2.2, .slice p2.1 p2.2.1 p2.2.2] ∧ T w2.heap.size = 0 ∧ T (w2.heap.size + 1) = 0) := ⟨hzr, hze, HP2.out.high _ (Nat.le_refl _), HP2.out.high _ (by omega)⟩; clear hi5 hc5 hm5 hg5 hg5b hb5 hb5' hzr hze))
      | (at_builtin; go_loud (obtain ⟨vs, hv1, hv2, hv3⟩ := HP5.out.own; refine wpList_appK kD _ (by rfl) (.tmp 14) (.tmp 17) 26 (by rfl) iz Tryd.underlying26 hiz hz0 hz1 hz2 1 T (.slice s.1 s.2.1 s.2.2) vs (by rfl) (hv1.below ((Below.refl _ _).alloc (Nat.le_refl _) _)) (some ⟨w5.heap.size, 0, none⟩) 1 1 [(some ⟨g5, 0, none⟩, RB.length, c5)] (by rfl) rfl (by simp) (isK_new kD w5 (some ⟨g5, 0, none⟩, RB.length, c5) _) (by rw [hv2]; have := HX.out.2.2.2.2; simp; omega) ?_; intro a6 c6 T6 w6 hown6 hg6; have hgb := Goes.below (t := fun _ => False) (T := T) ((Below.refl w5.heap.size w5).alloc (Nat.le_refl _) (.cells #[.slice (some ⟨g5, 0, none⟩) RB.length c5] 35)); have HP6 : Hid (Pt w T6 w6 ek (rs ++ [RB]) (a6, vs.length + 1, c6) o2 i2 p2) := (HP5.out.below ((Below.refl w5.heap.size w5).alloc (Nat.le_refl _) (.cells #[.slice (some ⟨g5, 0, none⟩) RB.length c5] 35))).app hg6 vs hv2 (fun j v l hv hl => (hv3 j v l hv hl).goes hgb (fun z => z)) (some ⟨g5, 0, none⟩, RB.length, c5) RB (HR5.out.goes hgb (fun z => z)) hown6; have HZ6 : Hid (Zb w6 w2.heap.size [.bool la, .int .u64 (ek.log : Int), .int .u64 (ek.nxt : Int), .int .u64 (ek.seq : Int), .slice o3.1 o3.2.1 o3.2.2, .slice i3.1 i3.2.1 i3.2.2, .slice p3.1 p3.2.1 p3.2.2] ∧ Zb w6 (w2.heap.size + 1) [.int .u64 (ek.log : Int), .int .u64 (ek.nxt : Int), .int .u64 (ek.seq : Int), .slice o4.1 o4.2.1 o4.2.2, .slice i4.1 i4.2.1 i4.2.2, .slice p2.1 p2.2.1 p2.2.2]) := ⟨(HZ5.out.1.goes hgb (fun z => z)).goes hg6 (by rw [HZ5.out.2.2.1]; decide), (HZ5.out.2.1.goes hgb (fun z => z)).goes hg6 (by rw [HZ5.out.2.2.2]; decide)⟩; clear hown6 hg6 hgb hv1 hv3 hv2)))
    have m0 := HZ6.out.1.2.1 0 _ rfl
    cases la with
    | true =>
      have HE : Hid (puts ed = rs ++ [RB]) := by show _ = _; rw [HX.out.2.1, HPE2.out]; rfl
      go_wp2
      go_ret
      exact ⟨(a6, vs.length + 1, c6), rfl, by rw [HE.out]; exact HP6.out.dsn, HP6.out.old.below⟩
    | false =>
      have HE : Hid (puts ed = (rs ++ [RB]) ++ puts (restE ek)) := by show _ = _; rw [HX.out.2.1, HPE2.out]; simp
      have ht : ¬ tabs ek ≤ 256 := of_decide_eq_false HLE.out.symm
      have k0 := HZ6.out.2.2.1 0 _ rfl
      have k1 := HZ6.out.2.2.1 1 _ rfl
      have k2 := HZ6.out.2.2.1 2 _ rfl
      have k3 := HZ6.out.2.2.1 3 _ rfl
      have k4 := HZ6.out.2.2.1 4 _ rfl
      have k5 := HZ6.out.2.2.1 5 _ rfl
      have n0 := HP6.out.box.2.1 0 _ rfl
      have n1 := HP6.out.box.2.1 1 _ rfl
      have n2 := HP6.out.box.2.1 2 _ rfl
      have n3 := HP6.out.box.2.1 3 _ rfl
      have n4 := HP6.out.box.2.1 4 _ rfl
      have n5 := HP6.out.box.2.1 5 _ rfl
      have nf0 := HP6.out.box.2.2 0
      have nf1 := HP6.out.box.2.2 1
      have nf2 := HP6.out.box.2.2 2
      have nf3 := HP6.out.box.2.2 3
      have nf4 := HP6.out.box.2.2 4
      have nf5 := HP6.out.box.2.2 5
      go_wp2
      go_roundg (tabs (restE ek))
      case measure => rw [HTR.out]; omega
      case rel =>
        have h1 := HX.out.2.2.1
        have h2 := HX.out.2.2.2.1
        have h3 := HX.out.2.2.2.2
        exact ⟨T6, restE ek, rs ++ [RB], (a6, vs.length + 1, c6), o4, i4, p2, rfl, rfl, HP6.out.rest HL3.out.1.2 HL3.out.2.1.2 HL3.out.2.2, HE.out, by show (ek.out.drop _).length ≤ _; simp; omega, by show (ek.inn.drop _).length ≤ _; simp; omega, by rw [HTR.out]; simp; omega⟩
theorem put_ok (ed : Ed) (o i p : Sv) (w : World) (lo : Ls kPl w o ed.out) (li : Ls kPd w i ed.inn) (lp : Ls kT w p ed.ptr) (ok : okE ed) (bo : o.2.2 ≤ 9223372036854775807 ∧ i.2.2 ≤ 9223372036854775807) (hto : ed.out.length ≤ 1000000000) (hti : ed.inn.length ≤ 1000000000) :
    Calls Tryd.prog 8 #[.agg #[.int .u64 (ed.log : Int), .int .u64 (ed.nxt : Int), .int .u64 (ed.seq : Int), .slice o.1 o.2.1 o.2.2, .slice i.1 i.2.1 i.2.2, .slice p.1 p.2.1 p.2.2]] w fun e w' => PtIs (puts ed) w e w' := by
  refine (put_new ed o i p w lo li lp ok bo hto hti).mono ?_
  rintro e w' ⟨s, he, hd, hb⟩
  exact ⟨s, he, hd.ds, hb⟩
end Mnf
end Go.Proofs.YtjbnnhephagdmaaDoor
