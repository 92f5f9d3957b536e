import Derived.Test.YtecgecolghgjoaaZ4
namespace Go.Proofs.Ytecgecolghgjoaa
namespace Vr
open Go.Shelf Go.RowKit Go.Lib Go.Sort Go.Maps Go.ChangeMaps Go.MapKept Laws Irw Crw
set_option linter.unusedVariables false
set_option linter.unusedSimpArgs false
set_option maxRecDepth 20000
/-- does a number stand in the current version, or in one of the first k pinned ones? -/
def Thr (V : Lv) (P : List Pn) (B : List Nat) (k n : Nat) : Prop := n ∈ nums V ∨ ∃ b ∈ B.take k, ∃ p ∈ P, p.vb = b ∧ n ∈ nums p.V
theorem Thr.all {cb : Nat} {V : Lv} {P : List Pn} {B : List Nat} (h : Pk cb V P B) {n k : Nat} (hk : B.length ≤ k) : Thr V P B k n ↔ n ∈ allN V P := by
  rw [mem_allN]
  unfold Thr
  rw [List.take_of_length_le hk]
  constructor
  · rintro (h1 | ⟨b, _, p, hp, _, hx⟩)
    · exact .inl h1
    · exact .inr ⟨p, hp, hx⟩
  · rintro (h1 | ⟨p, hp, hx⟩)
    · exact .inl h1
    · refine .inr ⟨p.vb, ?_, p, hp, rfl, hx⟩
      have h1 := h.cnt p hp
      have h2 := h.pos p hp
      exact List.count_pos_iff.1 (by omega)
theorem Thr.sub {V : Lv} {P : List Pn} {B : List Nat} {n k : Nat} (h : Thr V P B k n) : n ∈ allN V P := by
  rw [mem_allN]
  rcases h with h1 | ⟨b, _, p, hp, _, hx⟩
  · exact .inl h1
  · exact .inr ⟨p, hp, hx⟩
theorem Thr.step {cb : Nat} {V : Lv} {P : List Pn} {B : List Nat} (h : Pk cb V P B) {n k b : Nat} {p : Pn} (hb : B[k]? = some b) (hp : p ∈ P) (e : p.vb = b) (hn : ¬ Thr V P B k n) : Thr V P B (k + 1) n ↔ n ∈ nums p.V := by
  unfold Thr at hn ⊢
  rw [List.take_add_one, hb]
  constructor
  · rintro (h1 | ⟨c, hc, q, hq, e1, hx⟩)
    · exact absurd (.inl h1) hn
    · simp only [Option.toList_some, List.mem_append, List.mem_singleton] at hc
      rcases hc with hc | hc
      · exact absurd (.inr ⟨c, hc, q, hq, e1, hx⟩) hn
      · have : q = p := h.uniq hq hp (by rw [e1, hc, e])
        rw [← this]; exact hx
  · intro hx
    exact .inr ⟨b, by simp, p, hp, e, hx⟩
set_option maxHeartbeats 4000000 in
theorem right13_any {f : Bool} {T : Nat → Nat} {w : World} {sb nb mb bb : Nat} {V : Lv} {P : List Pn} {I G : List Int} {B : List Nat} (h : PAt T w sb nb mb V P) (hq : QAt f T w bb I G B) (hk : Pk nb V P B) (hb : Bk I G (allN V P)) (hI : I.length ≤ 2000000000) (hG : G.length ≤ 2000000000) (hB : B.length ≤ 1000) :
    Calls Try.prog 15 #[.pointer (some ⟨bb, 0, none⟩), .pointer (some ⟨sb, 0, none⟩)] w fun e w' => e = .returned (.bool true) ∧ RowKit.Below w.heap.size w w' := by
  obtain ⟨⟨ia, im, ic⟩, ⟨ga, gm, gc⟩, ⟨pa, pm, pc⟩, hz, oI, oG, oB⟩ := hq.box
  have him := (OwnK.sk oI).1
  have hpm := oB.1.1.2.1
  change im = I.length at him
  change pm = B.length at hpm
  subst him hpm
  have HA : Hid (PAt T w sb nb mb V P ∧ Pk nb V P B ∧ Bk I G (allN V P) ∧ Zb w bb [svV (ia, I.length, ic), svV (ga, gm, gc), svV (pa, B.length, pc)] ∧ Ls kU w (ia, I.length, ic) I ∧ Ls kU w (ga, gm, gc) G ∧ Ls kV w (pa, B.length, pc) B) := ⟨h, hk, hb, hz, Ls.own oI, Ls.own oG, oB.1.1⟩
  clear h hq hk hb hz oI oG oB
  have HF : Hid (∀ W, RowKit.Below w.heap.size w W → W.cell? ⟨bb, 0, none⟩ = some (.slice ia I.length ic) ∧ W.cell? ⟨bb, 1, none⟩ = some (.slice ga gm gc) ∧ W.cell? ⟨bb, 2, none⟩ = some (.slice pa B.length pc)) := fun W hW => ⟨(HA.out.2.2.2.1.below hW).2.1 0 _ rfl, (HA.out.2.2.2.1.below hW).2.1 1 _ rfl, (HA.out.2.2.2.1.below hW).2.1 2 _ rfl⟩
  go_enter Try.func15, Try.ntmps15
  go_wp2_with fail
  go_loopw [5] (fun vi wr => ∃ i : Nat, i ≤ I.length ∧ vi = .int .i64 (i : Int) ∧ Hid (RowKit.Below w.heap.size w wr)) (fun vi _ => I.length - (intOf vi).toNat)
  case atStart => exact ⟨0, Nat.zero_le _, rfl, Below.refl _ _⟩
  case round =>
    obtain ⟨i, hi, rfl, HW⟩ := hrel
    rename World => wr
    obtain ⟨c0, c1, c2⟩ := HF.out wr HW.out
    by_cases hlt : i < I.length
    · have q1 : (i : Int) < (I.length : Int) := by omega
      obtain ⟨x, hx⟩ : ∃ x, I[i]? = some x := ⟨_, List.getElem?_eq_getElem hlt⟩
      obtain ⟨n, rfl⟩ := HA.out.2.2.1.nat x (List.mem_of_getElem? hx)
      obtain ⟨b, off, rfl, hb, y0⟩ := (HA.out.2.2.2.2.1.below HW.out).u hx
      have HI : Hid (((n : Nat) : Int) ∈ I) := List.mem_of_getElem? hx
      have HC : Hid (∀ W, RowKit.Below wr.heap.size wr W → RowKit.Below wr.heap.size wr W ∧ W.cell? ⟨bb, 0, none⟩ = some (.slice (some ⟨b, off, none⟩) I.length ic) ∧ W.cell? ⟨b, off + i, none⟩ = some (.int .u64 (n : Int))) := fun W hW => ⟨hW, (HF.out W (HW.out.trans (hW.mono HW.out.size))).1, (hW.cell (p := ⟨b, off + i, none⟩) hb).trans y0⟩
      have CC : Hid (∀ W, RowKit.Below wr.heap.size wr W → Calls Try.prog 7 #[.pointer (some ⟨sb, 0, none⟩)] W fun e w' => e = .returned (.pointer (some ⟨nb, 0, none⟩)) ∧ w' = W) := fun W hW => currentP ((HA.out.1.below HW.out).below hW)
      have CH : Hid (∀ W, RowKit.Below wr.heap.size wr W → Calls Try.prog 29 #[.pointer (some ⟨nb, 0, none⟩), .int .u64 (n : Int)] W fun e w' => e = .returned (.bool (decide (n ∈ nums V))) ∧ RowKit.Below W.heap.size W w') := fun W hW => has_any nb V n W (((HA.out.1.below HW.out).below hW).ver.at_)
      have HC0 : Hid (∀ W, RowKit.Below w.heap.size w W → W.cell? ⟨b, off + i, none⟩ = some (.int .u64 (n : Int))) := fun W hW => ((HA.out.2.2.2.2.1.below hW).u hx).elim fun b' h1 => h1.elim fun o' h2 => by
        obtain ⟨e, _, h3⟩ := h2
        cases e
        exact h3
      clear hx
      go_wp2_with fail
      clear c0 c1 c2 y0
      go_region_held3 (fun W => RowKit.Below wr.heap.size wr W ∧ W.cell? ⟨bb, 0, none⟩ = some (.slice (some ⟨b, off, none⟩) I.length ic) ∧ W.cell? ⟨b, off + i, none⟩ = some (.int .u64 (n : Int))) (first | assumption | exact HC.out _ (Below.refl _ _).drew | exact keepC HC.out (by assumption) (by assumption))
        (first
          | (go_at_call 7; refine (CC.out _ (And.left (by assumption))).mono ?_; rintro e w' ⟨rfl, hw⟩; have hw2 := hw.symm; clear hw; subst hw2)
          | (go_at_call 29; refine (CH.out _ (And.left (by assumption))).mono ?_; rintro e w8 ⟨rfl, hb8⟩))
      all_goals
        have HB8 : Hid (RowKit.Below w.heap.size w w8) := by rename_i hz; exact HW.out.trans (hz.1.mono HW.out.size)
        obtain ⟨v6, hv6, HT6⟩ : ∃ v6 : Bool, decide (n ∈ nums V) = v6 ∧ Hid (v6 = true ↔ Thr V P B 0 n) := by
          refine ⟨_, rfl, ?_⟩
          show _ ↔ _
          unfold Thr
          simp
        rw [hv6]
        clear hv6
        go_wp2_with fail
        go_loopw [6, 7] (fun vt vk wq => ∃ (k : Nat) (bo : Bool), k ≤ B.length ∧ vt = .bool bo ∧ vk = .int .i64 (k : Int) ∧ Hid (RowKit.Below w.heap.size w wq ∧ (bo = true ↔ Thr V P B k n))) (fun _ vk _ => B.length - (intOf vk).toNat)
        case atStart => exact ⟨0, v6, Nat.zero_le _, rfl, rfl, HB8.out, HT6.out⟩
        case round =>
          clear HB8 HT6
          obtain ⟨k, bo, hk, rfl, rfl, HX⟩ := hrel
          rename World => wq
          obtain ⟨d0, d1, d2⟩ := HF.out wq HX.out.1
          have z0 : wq.cell? ⟨b, off + i, none⟩ = some (.int .u64 (n : Int)) := HC0.out wq HX.out.1
          have CI : Hid (∀ W, RowKit.Below w.heap.size w W → Calls Try.prog 11 #[.slice ga gm gc, .int .u64 (n : Int)] W fun e w' => e = .returned (.bool (decide ((n : Int) ∈ G))) ∧ w' = W) := fun W hW => inside_any ga gc gm G n W (HA.out.2.2.2.2.2.1.below hW) hG
          have CQ0 : ∀ bo' : Bool, (bo' = true ↔ n ∈ allN V P) → ∀ d, Calls Try.prog 11 #[.slice ga gm gc, .int .u64 (n : Int)] (wq.drewN d) fun e w' => e = .returned (.bool (!bo')) ∧ w' = wq.drewN d := fun bo' hbo d => by
            have h1 := CI.out (wq.drewN d) (bl_dn HX.out.1 d)
            have h2 : decide ((n : Int) ∈ G) = !bo' := by
              have h3 := HA.out.2.2.1.iff n HI.out
              cases bo' with
              | true => exact decide_eq_false (h3.1 (hbo.1 rfl))
              | false =>
                refine decide_eq_true (Classical.byContradiction fun h4 => ?_)
                have := hbo.2 (h3.2 h4)
                cases this
            rw [h2] at h1
            exact h1
          by_cases hlk : k < B.length
          · have q2 : (k : Int) < (B.length : Int) := by omega
            cases bo with
            | true =>
              have CQ : Hid (∀ d, Calls Try.prog 11 #[.slice ga gm gc, .int .u64 (n : Int)] (wq.drewN d) fun e w' => e = .returned (.bool false) ∧ w' = wq.drewN d) := CQ0 true ⟨fun _ => (HX.out.2.1 rfl).sub, fun _ => rfl⟩
              clear CQ0 CI
              go_wp2_with fail
              go_quiet ((go_at_call 11; exact Calls.quiet_of_same (CQ.out _)))
              go_wp2_with fail
              go_roundw
              case rel => exact ⟨i + 1, by omega, by go_num, bl_dn HX.out.1 _⟩
              case measure => simp [intOf]; omega
            | false =>
              clear CQ0 CI
              obtain ⟨b', hb'⟩ : ∃ b', B[k]? = some b' := ⟨_, List.getElem?_eq_getElem hlk⟩
              obtain ⟨p, hp, hpb⟩ := HA.out.2.1.has b' (List.mem_of_getElem? hb')
              obtain ⟨g2, o2, e2, hg2, z2⟩ := (HA.out.2.2.2.2.2.2.below HX.out.1).v hb'
              subst e2
              have HST : Hid (Thr V P B (k + 1) n ↔ n ∈ nums p.V) := Thr.step HA.out.2.1 hb' hp hpb (fun h => by have := HX.out.2.2 h; cases this)
              have HC2 : Hid (∀ W, RowKit.Below wq.heap.size wq W → RowKit.Below wq.heap.size wq W ∧ W.cell? ⟨bb, 0, none⟩ = some (.slice (some ⟨b, off, none⟩) I.length ic) ∧ W.cell? ⟨bb, 2, none⟩ = some (.slice (some ⟨g2, o2, none⟩) B.length pc) ∧ W.cell? ⟨b, off + i, none⟩ = some (.int .u64 (n : Int)) ∧ W.cell? ⟨g2, o2 + k, none⟩ = some (.pointer (some ⟨b', 0, none⟩))) := fun W hW => ⟨hW, (HF.out W (HX.out.1.trans (hW.mono HX.out.1.size))).1, (HF.out W (HX.out.1.trans (hW.mono HX.out.1.size))).2.2, HC0.out W (HX.out.1.trans (hW.mono HX.out.1.size)), (hW.cell (p := ⟨g2, o2 + k, none⟩) hg2).trans z2⟩
              have CH2 : Hid (∀ W, RowKit.Below wq.heap.size wq W → Calls Try.prog 29 #[.pointer (some ⟨b', 0, none⟩), .int .u64 (n : Int)] W fun e w' => e = .returned (.bool (decide (n ∈ nums p.V))) ∧ RowKit.Below W.heap.size W w') := fun W hW => by
                have := has_any p.vb p.V n W (((HA.out.1.below HX.out.1).below hW).pin p hp).at_
                rw [hpb] at this
                exact this
              clear hb' hp hpb
              go_wp2_with fail
              clear d0 d1 d2 z0 z2
              go_region_held3 (fun W => RowKit.Below wq.heap.size wq W ∧ W.cell? ⟨bb, 0, none⟩ = some (.slice (some ⟨b, off, none⟩) I.length ic) ∧ W.cell? ⟨bb, 2, none⟩ = some (.slice (some ⟨g2, o2, none⟩) B.length pc) ∧ W.cell? ⟨b, off + i, none⟩ = some (.int .u64 (n : Int)) ∧ W.cell? ⟨g2, o2 + k, none⟩ = some (.pointer (some ⟨b', 0, none⟩))) (first | assumption | exact HC2.out _ (Below.refl _ _).drew | exact keepC HC2.out (by assumption) (by assumption))
                (first | (go_at_call 29; refine (CH2.out _ (And.left (by assumption))).mono ?_; rintro e w9 ⟨rfl, hb9⟩))
              all_goals
                have HB9 : Hid (RowKit.Below w.heap.size w w9) := by rename_i hz; exact HX.out.1.trans (hz.1.mono HX.out.1.size)
                go_wp2_with fail
                go_roundw
                case rel => exact ⟨k + 1, _, by omega, rfl, by go_num, HB9.out, by rw [HST.out]; simp⟩
                case measure => simp [intOf]; omega
          · have q2 : ¬ (k : Int) < (B.length : Int) := by omega
            have q3 : decide ((k : Int) < (B.length : Int)) = false := decide_eq_false q2
            have hall : bo = true ↔ n ∈ allN V P := HX.out.2.trans (Thr.all HA.out.2.1 (by omega))
            have CQ1 := CQ0 bo hall
            clear CQ0 CI hall
            cases bo with
            | true =>
              have CQ : Hid (∀ d, Calls Try.prog 11 #[.slice ga gm gc, .int .u64 (n : Int)] (wq.drewN d) fun e w' => e = .returned (.bool false) ∧ w' = wq.drewN d) := CQ1
              clear CQ1
              go_wp2_with fail
              go_quiet ((go_at_call 11; exact Calls.quiet_of_same (CQ.out _)))
              go_wp2_with fail
              go_roundw
              case rel => exact ⟨i + 1, by omega, by go_num, bl_dn HX.out.1 _⟩
              case measure => simp [intOf]; omega
            | false =>
              have CQ : Hid (∀ d, Calls Try.prog 11 #[.slice ga gm gc, .int .u64 (n : Int)] (wq.drewN d) fun e w' => e = .returned (.bool true) ∧ w' = wq.drewN d) := CQ1
              clear CQ1
              go_wp2_with fail
              go_quiet ((go_at_call 11; exact Calls.quiet_of_same (CQ.out _)))
              go_wp2_with fail
              go_roundw
              case rel => exact ⟨i + 1, by omega, by go_num, bl_dn HX.out.1 _⟩
              case measure => simp [intOf]; omega
    · have q1 : ¬ (i : Int) < (I.length : Int) := by omega
      go_wp2_with fail
      go_ret
      exact ⟨rfl, HW.out⟩
end Vr
end Go.Proofs.Ytecgecolghgjoaa
namespace Go.Proofs.Ytecgecolghgjoaa
namespace Vr
open Go.Shelf Go.RowKit Go.Lib Go.Sort Go.Maps Go.ChangeMaps Go.MapKept Laws Irw Crw
set_option linter.unusedVariables false
set_option linter.unusedSimpArgs false
set_option maxRecDepth 20000
theorem PAt.goes {t : Nat → Prop} {T T' : Nat → Nat} {w w' : World} {sb vb mb : Nat} {V : Lv} {P : List Pn} (h : PAt T w sb vb mb V P) (hg : Goes t T w T' w') (h0 : ¬ t 0) (h1 : ¬ t 1) (h2 : ¬ t 2) (h6 : ¬ t 6) : PAt T' w' sb vb mb V P := by
  obtain ⟨pl, ps, b1, b2⟩ := h.box
  obtain ⟨m, D, hm⟩ := h.map
  exact ⟨(hg.tag sb b1.1 (by rw [h.ts]; exact h1)).trans h.ts, (hg.tag mb hm.lt (by rw [h.tm]; exact h2)).trans h.tm, ⟨pl, ps, b1.goes hg (by rw [h.ts]; exact h1), b2.goes hg h6⟩, h.ver.goes hg h0, fun p hp => (h.pin p hp).goes hg h0, m, D, hm.block (hg.block mb hm.lt (by rw [h.tm]; exact h2))⟩
theorem SetK.goes {t : Nat → Prop} {w0 w w' : World} {T T' : Nat → Nat} {sb vb mb : Nat} {V : Lv} {P : List Pn} {k : Nat} (h : SetK w0 T w sb vb mb V P k) (hg : Goes t T w T' w') (h0 : ¬ t 0) (h1 : ¬ t 1) (h2 : ¬ t 2) (h6 : ¬ t 6) : SetK w0 T' w' sb vb mb V P k :=
  ⟨h.set.goes hg h0 h1 h2 h6, h.old.goes hg h0, h.good, h.num, h.len, h.cnt⟩
/-- what stands between two calls of the script -/
structure GS (f : Bool) (w0 : World) (T : Nat → Nat) (w : World) (sb nb mb bb : Nat) (V : Lv) (P : List Pn) (I G : List Int) (B : List Nat) (k j : Nat) : Prop where
  set : SetK w0 T w sb nb mb V P k
  pins : ∀ p ∈ P, Good p.V ∧ NumOk p.V ∧ (nums p.V).length ≤ 2457600
  pk : Pk nb V P B
  bk : Bk I G (allN V P)
  q : QAt f T w bb I G B
  li : I.length ≤ k * 8192
  lg : G.length ≤ j * 2457600
  lb : B.length ≤ k
  lp : P.length ≤ k
/-- .. and behind the call, ahead of what the statement's book is told -/
structure GM (f : Bool) (w0 : World) (T : Nat → Nat) (w : World) (sb nb mb bb : Nat) (V : Lv) (P : List Pn) (I G : List Int) (B : List Nat) (k j : Nat) (s : Sv) (l : List Int) : Prop where
  set : SetK w0 T w sb nb mb V P k
  pins : ∀ p ∈ P, Good p.V ∧ NumOk p.V ∧ (nums p.V).length ≤ 2457600
  pk : Pk nb V P B
  hy : ∀ y ∈ l, y ∉ G ∧ y ∈ I
  bk : Bk I (G ++ l) (allN V P)
  rise : l.Pairwise (· < ·)
  ll : l.length ≤ 2457600
  ls : Ls kU w s l
  q : QAt f T w bb I G B
  li : I.length ≤ k * 8192
  lg : G.length ≤ j * 2457600
  lb : B.length ≤ k
  lp : P.length ≤ k
theorem GS.below {f : Bool} {w0 w w' : World} {T : Nat → Nat} {sb nb mb bb : Nat} {V : Lv} {P : List Pn} {I G : List Int} {B : List Nat} {k j : Nat} (h : GS f w0 T w sb nb mb bb V P I G B k j) (hb : RowKit.Below w.heap.size w w') : GS f w0 T w' sb nb mb bb V P I G B k j :=
  ⟨h.set.below hb, h.pins, h.pk, h.bk, h.q.below hb, h.li, h.lg, h.lb, h.lp⟩
theorem GM.below {f : Bool} {w0 w w' : World} {T : Nat → Nat} {sb nb mb bb : Nat} {V : Lv} {P : List Pn} {I G : List Int} {B : List Nat} {k j : Nat} {s : Sv} {l : List Int} (h : GM f w0 T w sb nb mb bb V P I G B k j s l) (hb : RowKit.Below w.heap.size w w') : GM f w0 T w' sb nb mb bb V P I G B k j s l :=
  ⟨h.set.below hb, h.pins, h.pk, h.hy, h.bk, h.rise, h.ll, h.ls.below hb, h.q.below hb, h.li, h.lg, h.lb, h.lp⟩
/-- nothing was told -/
theorem GS.mid {f : Bool} {w0 w : World} {T : Nat → Nat} {sb nb mb bb : Nat} {V : Lv} {P : List Pn} {I G : List Int} {B : List Nat} {k j : Nat} (h : GS f w0 T w sb nb mb bb V P I G B k j) : GM f w0 T w sb nb mb bb V P I G B (k + 1) j nS [] :=
  ⟨h.set.more (Nat.le_succ _), h.pins, h.pk, fun y hy => (by cases hy), by rw [List.append_nil]; exact h.bk, List.Pairwise.nil, Nat.zero_le _, ⟨IsK.nil _ _, rfl, fun _ => rfl, Nat.le_refl _, .inl rfl⟩, h.q, Nat.le_trans h.li (Nat.mul_le_mul_right _ (Nat.le_succ _)), h.lg, Nat.le_succ_of_le h.lb, Nat.le_succ_of_le h.lp⟩
theorem told_G {f : Bool} {w0 w : World} {T : Nat → Nat} {sb nb mb bb : Nat} {V : Lv} {P : List Pn} {I G : List Int} {B : List Nat} {k j : Nat} {la : Option Addr} {lm lc : Nat} {l : List Int} (h : GM f w0 T w sb nb mb bb V P I G B k j (la, lm, lc) l) (hk : k ≤ 300) (hj : j ≤ 700) :
    Calls Try.prog 14 #[.pointer (some ⟨bb, 0, none⟩), .slice la lm lc] w fun e w' => e = .returned (.bool true) ∧ ∃ T', GS f w0 T' w' sb nb mb bb V P I (G ++ l) B k (j + 1) := by
  have h1 := h.li
  have h2 := h.lg
  have h3 := h.ll
  refine (told_any h.q la lm lc l h.ls h.hy h.rise (by omega) (by omega) (by omega)).mono ?_
  rintro e w' ⟨rfl, T', hq, hg⟩
  refine ⟨rfl, T', h.set.goes hg (by decide) (by decide) (by decide) (by decide), h.pins, h.pk, h.bk, hq, h.li, ?_, h.lb, h.lp⟩
  rw [List.length_append]
  omega
theorem right_G {f : Bool} {w0 w : World} {T : Nat → Nat} {sb nb mb bb : Nat} {V : Lv} {P : List Pn} {I G : List Int} {B : List Nat} {k j : Nat} (h : GS f w0 T w sb nb mb bb V P I G B k j) (hk : k ≤ 300) (hj : j ≤ 700) :
    Calls Try.prog 15 #[.pointer (some ⟨bb, 0, none⟩), .pointer (some ⟨sb, 0, none⟩)] w fun e w' => e = .returned (.bool true) ∧ RowKit.Below w.heap.size w w' := by
  have h1 := h.li
  have h2 := h.lg
  have h3 := h.lb
  exact right13_any h.set.set h.q h.pk h.bk (by omega) (by omega) (by omega)
/-- the size that the set's calls want -/
theorem GS.sz {f : Bool} {w0 w : World} {T : Nat → Nat} {sb nb mb bb : Nat} {V : Lv} {P : List Pn} {I G : List Int} {B : List Nat} {k j : Nat} (h : GS f w0 T w sb nb mb bb V P I G B k j) (hk : k ≤ 300) : Sz V P := by
  have h1 := h.set.cnt
  have h2 := h.lp
  exact ⟨h.set.num, by omega, fun p hp => ⟨(h.pins p hp).2.1, by have := (h.pins p hp).2.2; omega⟩, by omega⟩
/-- what Apply does -/
def ApG (w0 : World) (T : Nat → Nat) (w : World) (sb nb mb : Nat) (V : Lv) (P : List Pn) (k : Nat) (O : List Pc) (l : List Pi) (e : Ending) (w' : World) : Prop :=
  (∃ er : Int, e = .returned (.tuple #[.slice none 0 0, .int .i64 er]) ∧ er ≠ 0 ∧ RowKit.Below w.heap.size w w') ∨
  ∃ (nb' : Nat) (V' : Lv) (s : Sv) (T' : Nat → Nat), e = .returned (.tuple #[svV s, .int .i64 0]) ∧ SetK w0 T' w' sb nb' mb V' P (k + 1) ∧ Lt kU 7 T' w' s (goneL nb' V' P nb V) ∧ Goes (fun t => t = 1 ∨ t = 2 ∨ t = 7) T w T' w' ∧ nb ≠ nb' ∧ (∀ p ∈ P, p.vb ≠ nb') ∧ edit2 V O l = .ok V'
theorem apply_G {f : Bool} {w0 w : World} {T : Nat → Nat} {sb nb mb bb : Nat} {V : Lv} {P : List Pn} {I G : List Int} {B : List Nat} {k j : Nat} {q : Oq} {O : List Pc} {l : List Pi} {pts : List ByteArray} (h : GS f w0 T w sb nb mb bb V P I G B k j) (hk : k < 300) (he : EdK w0 q O l pts) (hsm : O.length + l.length + pts.length ≤ 8192) :
    Calls Try.prog 9 #[.pointer (some ⟨sb, 0, none⟩), .agg #[.int .u64 q.x, .int .u64 q.y, .int .u64 q.z, svV q.o, svV q.i, svV q.p]] w fun e w' => ApG w0 T w sb nb mb V P k O l e w' := by
  have hcnt := h.set.cnt
  have hsz := h.sz (by omega)
  have he2 := he.below h.set.old.below
  obtain ⟨kd, n, lv, fr, tx, x, y, z, ⟨oa, on, oc⟩, ⟨ia, inn, ic⟩, ⟨pa, pn, pc⟩, sec⟩ := q
  have h1 := he2.lo.2.1
  have h2 := he2.li.2.1
  have h3 := he2.lp.2.1
  change on = O.length at h1
  change inn = l.length at h2
  change pn = pts.length at h3
  subst h1 h2 h3
  simp only [svV]
  by_cases hpl : pts.length = V.length
  · have hpt : Isk kT T w (pa, V.length, pc) pts := by
      rw [← hpl]
      refine ⟨he2.lp.1, rfl, he2.lp.2.2.1, he2.lp.2.2.2.1, he2.lp.2.2.2.2, fun b off e => ?_⟩
      have hne : pts ≠ [] := by
        intro e0
        have := h.set.len
        rw [e0] at hpl
        simp at hpl
        omega
      obtain ⟨b', off', e', hr⟩ := he.lp.1 hne
      change pa = _ at e'
      change pa = _ at e
      rw [e] at e'
      cases e'
      exact ⟨h.set.old.zero b (.inl hr.1), Nat.lt_of_lt_of_le hr.1 h.set.old.below.size⟩
    have := apply2_any x y z oa oc O ia ic pa pc l pts h.set.set hsz (fun b hb => h.set.old.zero b (.inr hb)) h.set.good.half h.set.len (by omega) he2.li he2.ok hpt he2.lo he2.on (by omega)
    rw [← hpl] at this
    refine this.mono fun e w' ha => ?_
    unfold A2Is at ha
    cases hed : edit2 V O l with
    | error er =>
      rw [hed] at ha
      obtain ⟨rfl, hb, hne⟩ := ha
      exact .inl ⟨er, rfl, hne, hb⟩
    | ok V' =>
      rw [hed] at ha
      obtain ⟨nb', s, T', rfl, hP, hO, hg, hnb⟩ := ha
      have E := edit2_facts hed h.set.good.half h.set.num he2.ok
      have hl1 := h.set.set.ver.at_.lt
      refine .inr ⟨nb', V', s, T', rfl, ⟨hP, h.set.old.goes hg (by decide), E.good, E.num, by rw [E.len]; exact h.set.len, ?_⟩, Lt.own hO, hg, by omega, fun p hp => ?_, hed⟩
      · have := E.cnt
        omega
      · have := (h.set.set.pin p hp).at_.lt
        omega
  · refine (apply_bad (.int .u64 x) (.int .u64 y) (.int .u64 z) (.slice oa O.length oc) (.slice ia l.length ic) pa pts.length pc h.set.set hpl (by omega)).mono ?_
    rintro e w' ⟨rfl, hb⟩
    exact .inl ⟨133, rfl, by decide, hb⟩
/-- Pin -/
theorem pin_G {f : Bool} {w0 w : World} {T : Nat → Nat} {sb nb mb bb : Nat} {V : Lv} {P : List Pn} {I G : List Int} {B : List Nat} {k j : Nat} (h : GS f w0 T w sb nb mb bb V P I G B k j) (hk : k < 300) :
    Calls Try.prog 12 #[.pointer (some ⟨sb, 0, none⟩)] w fun e w' => e = .returned (.pointer (some ⟨nb, 0, none⟩)) ∧ ∃ T', SetK w0 T' w' sb nb mb V (pinL nb V P) k ∧ Goes (fun t => t = 1 ∨ t = 6) T w T' w' := by
  have h1 := h.lp
  have h2 := h.lb
  refine (pin_any h.set.set (by omega) (fun p hp => ?_)).mono ?_
  · have q1 := h.pk.cnt p hp
    have q2 := h.pk.pos p hp
    have q3 := List.count_le_length (a := p.vb) (l := B)
    omega
  · rintro e w' ⟨rfl, T', hP, hg⟩
    exact ⟨rfl, T', ⟨hP, h.set.old.goes hg (by decide), h.set.good, h.set.num, h.set.len, h.set.cnt⟩, hg⟩
theorem pinL_pins {nb : Nat} {V : Lv} {P : List Pn} {Q : Lv → Prop} (hV : Q V) (h : ∀ p ∈ P, Q p.V) : ∀ p ∈ pinL nb V P, Q p.V := by
  intro p hp
  unfold pinL at hp
  split at hp
  · obtain ⟨q, hq, _, e⟩ := mem_modify hp
    rw [e]; exact h q hq
  · rcases List.mem_append.1 hp with hp | hp
    · exact h p hp
    · simp at hp; subst hp; exact hV
/-- Unpin of a pin that the statement's book has -/
theorem unpin_G {f : Bool} {w0 w : World} {T : Nat → Nat} {sb nb mb bb : Nat} {V : Lv} {P : List Pn} {I G : List Int} {B : List Nat} {k j n b : Nat} (h : GS f w0 T w sb nb mb bb V P I G B k j) (hk : k ≤ 300) (hn : B[n]? = some b) :
    Calls Try.prog 13 #[.pointer (some ⟨sb, 0, none⟩), .pointer (some ⟨b, 0, none⟩)] w fun e w' => ∃ (s : Sv) (T' : Nat → Nat), e = .returned (svV s) ∧ SetK w0 T' w' sb nb mb V (unpL (some ⟨b, 0, none⟩) P) k ∧ Lt kU 7 T' w' s (unpR (some ⟨b, 0, none⟩) nb V P) ∧ Goes (fun t => t = 1 ∨ t = 2 ∨ t = 6 ∨ t = 7) T w T' w' := by
  have h2 := h.lb
  obtain ⟨p0, hp0, e0⟩ := h.pk.has b (List.mem_of_getElem? hn)
  refine (unpin_any h.set.set (h.sz hk) (fun p hp => ?_) (.inr ⟨b, rfl, by rw [← e0]; exact (h.set.set.pin p0 hp0).blk⟩)).mono ?_
  · have q1 := h.pk.cnt p hp
    have q2 := h.pk.pos p hp
    have q3 := List.count_le_length (a := p.vb) (l := B)
    omega
  · rintro e w' ⟨s, T', rfl, hP, hO, hg⟩
    exact ⟨s, T', rfl, ⟨hP, h.set.old.goes hg (by decide), h.set.good, h.set.num, h.set.len, h.set.cnt⟩, Lt.own hO, hg⟩
/-- .. and what is known behind it, once the book's list is cut -/
theorem GS.unpinned {f f' : Bool} {w0 w w' : World} {T T' : Nat → Nat} {sb nb mb bb : Nat} {V : Lv} {P : List Pn} {I G : List Int} {B : List Nat} {k j n b : Nat} {s : Sv} (h : GS f w0 T w sb nb mb bb V P I G B k j) (hn : B[n]? = some b) (k' : Nat) (hk : k ≤ k')
    (hs : SetK w0 T' w' sb nb mb V (unpL (some ⟨b, 0, none⟩) P) k') (hl : Ls kU w' s (unpR (some ⟨b, 0, none⟩) nb V P)) (hq : QAt f' T' w' bb I G (B.eraseIdx n)) : GM f' w0 T' w' sb nb mb bb V (unpL (some ⟨b, 0, none⟩) P) I G (B.eraseIdx n) k' j s (unpR (some ⟨b, 0, none⟩) nb V P) := by
  obtain ⟨u1, u2, u3⟩ := h.pk.unpin hn
  obtain ⟨v1, v2⟩ := u2 I G h.bk
  obtain ⟨r1, r2⟩ := u3 fun p hp => ⟨(h.pins p hp).1.nod, (h.pins p hp).2.2⟩
  refine ⟨hs, fun p hp => ?_, u1, v1, v2, r1, r2, hl, hq, Nat.le_trans h.li (Nat.mul_le_mul_right _ hk), h.lg, ?_, ?_⟩
  · obtain ⟨p', hp', _, e⟩ := mem_unpL hp
    rw [e]
    exact h.pins p' hp'
  · exact Nat.le_trans (List.length_eraseIdx_le _ _) (Nat.le_trans h.lb hk)
  · exact Nat.le_trans (unpL_len _ _) (Nat.le_trans h.lp hk)
end Vr
end Go.Proofs.Ytecgecolghgjoaa
