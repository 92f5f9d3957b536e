import Derived.Test.YtecgecolghgjoaaZv
namespace Go.Proofs.Ytecgecolghgjoaa
namespace Vr
open Go.Shelf Go.RowKit Go.Lib Go.Sort Go.Maps Go.ChangeMaps Go.MapKept Laws Irw Crw
set_option linter.unusedVariables false
set_option linter.unusedSimpArgs false
set_option maxRecDepth 20000
theorem good_nil (n : Nat) : Good (List.replicate n []) := by
  refine ⟨(half_nil n).nod, (half_nil n).hull, fun i l _ hl => ?_⟩
  rw [List.eq_of_mem_replicate (List.mem_of_getElem? hl)]
  exact List.Pairwise.nil
theorem nums_nil (n : Nat) : (nums (List.replicate n [])).length = 0 := by
  have e : (List.replicate n ([] : List Tb)).flatten = [] := by simp
  unfold nums
  rw [e]
  rfl
theorem small_q {w : World} {q : Oq} {O : List Pc} {l : List Pi} {pts : List ByteArray} (h : EdK w q O l pts) :
    Calls Try.prog 8 #[.agg #[.int .u64 q.x, .int .u64 q.y, .int .u64 q.z, svV q.o, svV q.i, svV q.p]] w fun e w' => SmI O l pts w e w' := by
  obtain ⟨kd, n, lv, fr, tx, x, y, z, ⟨oa, on, oc⟩, ⟨ia, inn, ic⟩, ⟨pa, pn, pc⟩, sec⟩ := q
  have h1 := h.lo.2.1
  have h2 := h.li.2.1
  have h3 := h.lp.2.1
  change on = O.length at h1
  change inn = l.length at h2
  change pn = pts.length at h3
  subst h1 h2 h3
  exact small_any (.int .u64 x) (.int .u64 y) (.int .u64 z) oa oc O ia ic l pa pc pts w h.li h.lp h.no h.ni h.np h.si h.sp
theorem new_K {w0 w : World} (n : Nat) (h1 : 1 ≤ n) (hb : RowKit.Below w0.heap.size w0 w) {e : Ending} {w' : World} (h : NwIs w n e w') : ∃ sb vb mb T, e = .returned (.pointer (some ⟨sb, 0, none⟩)) ∧ SetK w0 T w' sb vb mb (List.replicate n []) [] 0 := by
  obtain ⟨sb, vb, mb, rfl, hs, ho⟩ := h
  refine ⟨sb, vb, mb, _, rfl, hs.pins, ⟨hb.trans (ho.below.mono hb.size), fun b hb' => ho.zero b (by rcases hb' with h | h; exact .inl (Nat.lt_of_lt_of_le h hb.size); exact .inr h)⟩, good_nil n, num_nil n, by simpa using h1, by rw [nums_nil]; exact Nat.zero_le _⟩
theorem keepC {w W W' : World} {S : World → Prop} (h : ∀ W, RowKit.Below w.heap.size w W → RowKit.Below w.heap.size w W ∧ S W) (k : RowKit.Below w.heap.size w W ∧ S W) (hb : RowKit.Below W.heap.size W W') : RowKit.Below w.heap.size w W' ∧ S W' := h W' (k.1.trans (hb.mono k.1.size))
set_option maxHeartbeats 1000000 in
theorem shape_any (lv : Int) (a : Option Addr) (n c : Nat) (S : List Oq) (w : World) (hS : Scr w a S) (hn : S.length = n) (hmx : n ≤ Z48) :
    Calls Try.prog 4 #[.int .i64 lv, .slice a n c] w fun e w' => e = .returned (.bool true) ∧ RowKit.Below w.heap.size w w' := by
  unfold Z48 at hmx
  obtain ⟨m5, hx, h1, h5⟩ : ∃ m : Nat, min (max lv 1) 5 = (m : Int) ∧ 1 ≤ m ∧ m ≤ 5 := ⟨(min (max lv 1) 5).toNat, by omega, by omega, by omega⟩
  have HS : Hid (Scr w a S ∧ S.length = n) := ⟨hS, hn⟩
  clear hS hn
  by_cases hl : n ≤ 300
  · have q0 : ¬ (300 : Int) < (n : Int) := by omega
    have HKn : Hid (Calls Try.prog 5 #[] w fun e w' => e = .returned (.bool true) ∧ RowKit.Below w.heap.size w w') := known_any w
    have HN : Hid (∀ W, RowKit.Below w.heap.size w W → Calls Try.prog 6 #[.int .i64 lv] W fun e w' => ∃ sb vb mb T, e = .returned (.pointer (some ⟨sb, 0, none⟩)) ∧ SetK w T w' sb vb mb (List.replicate m5 []) [] 0) := fun W hW => (new2_any lv m5 W hx h1 h5).mono fun e w' hp => new_K m5 h1 hW hp
    clear hx h1 h5
    go_enter Try.func4, Try.ntmps4
    go_upto_region 5 with (go_at_call 5; go_loud (refine HKn.out.mono ?_; rintro e w1 ⟨rfl, hb1⟩; have HB1 : Hid (RowKit.Below w.heap.size w w1) := hb1; clear hb1))
    go_upto_region 6 with (go_at_call 6; go_loud (refine (HN.out _ HB1.out).mono ?_; rintro e w2 ⟨sb, vb, mb, T, rfl, hk⟩; have HX : Hid (SetK w T w2 sb vb mb (List.replicate m5 []) [] 0) := hk; clear hk))
    clear HN HKn HB1
    have CC : Hid (Calls Try.prog 7 #[.pointer (some ⟨sb, 0, none⟩)] w2 fun e w' => e = .returned (.pointer (some ⟨vb, 0, none⟩)) ∧ w' = w2) := currentP HX.out.set
    go_wp2_with (go_at_call 7; go_loud (refine CC.out.mono ?_; rintro e w99 ⟨rfl, hw99⟩; have hw98 := hw99.symm; clear hw99; subst hw98))
    clear CC
    go_loopw [6] (fun vi wr => ∃ (k vb : Nat) (T : Nat → Nat) (V : Lv), k ≤ n ∧ vi = .int .i64 (k : Int) ∧ Hid (SetK w T wr sb vb mb V [] k)) (fun vi _ => n - (intOf vi).toNat)
    case atStart => exact ⟨0, vb, T, _, Nat.zero_le _, rfl, HX.out⟩
    case round =>
      clear HX
      obtain ⟨k, vb, T, V, hk, rfl, HX⟩ := hrel
      rename World => wr
      by_cases hlt : k < n
      · have q1 : (k : Int) < (n : Int) := by omega
        obtain ⟨q, hq⟩ : ∃ q, S[k]? = some q := ⟨_, List.getElem?_eq_getElem (by rw [HS.out.2]; exact hlt)⟩
        obtain ⟨b, off, e9, hr⟩ := HS.out.1.1 (by intro e; rw [e] at hq; simp at hq)
        subst e9
        obtain ⟨O, l, pts, hE⟩ := HS.out.1.2 q (List.mem_of_getElem? hq)
        have HST : Hid (∀ (j : Nat) u, (oqC q)[j]? = some u → ∀ W, RowKit.Below wr.heap.size wr W → W.cell? ⟨b, off + k * 12 + j, none⟩ = some u) := fun j u hu W hW => (((HX.out.old.below.trans (hW.mono HX.out.old.below.size)).cell (p := ⟨b, off + k * 12 + j, none⟩) hr.1).trans (hr.2 k q hq j u hu))
        have HW0q : Hid (∀ (j : Nat) u, (oqC q)[j]? = some u → ∀ W, RowKit.Below w.heap.size w W → W.cell? ⟨b, off + k * 12 + j, none⟩ = some u) := fun j u hu W hW => (hW.cell (p := ⟨b, off + k * 12 + j, none⟩) hr.1).trans (hr.2 k q hq j u hu)
        have CS : Hid (Calls Try.prog 8 #[.agg #[.int .u64 q.x, .int .u64 q.y, .int .u64 q.z, svV q.o, svV q.i, svV q.p]] wr fun e w' => SmI O l pts wr e w') := small_q (hE.below HX.out.old.below)
        have CAP : Hid (∀ W, RowKit.Below wr.heap.size wr W → k < 300 → O.length + l.length + pts.length ≤ 8192 → Calls Try.prog 9 #[.pointer (some ⟨sb, 0, none⟩), .agg #[.int .u64 q.x, .int .u64 q.y, .int .u64 q.z, svV q.o, svV q.i, svV q.p]] W fun e w' => StepIs w sb mb k e w') := fun W hW h3 hs => step_any (HX.out.below hW) h3 hE hs
        clear hE hr hq
        obtain ⟨kd, qn, lv, fr, tx, x, y, z, ⟨oa, on, oc⟩, ⟨ia, inn, ic⟩, ⟨pa, pn, pc⟩, sec⟩ := q
        have y5 := HST.out 5 _ rfl wr (Below.refl _ _)
        have y6 := HST.out 6 _ rfl wr (Below.refl _ _)
        have y7 := HST.out 7 _ rfl wr (Below.refl _ _)
        have y8 := HST.out 8 _ rfl wr (Below.refl _ _)
        have y9 := HST.out 9 _ rfl wr (Below.refl _ _)
        have y10 := HST.out 10 _ rfl wr (Below.refl _ _)
        simp only [svV] at CS CAP y5 y6 y7 y8 y9 y10
        go_upto_if 33 with (go_at_call 8; go_loud (refine CS.out.mono ?_; rintro e w3 ⟨bo, rfl, hbo, hb3⟩; have H3 : Hid ((bo = true → O.length + l.length + pts.length ≤ 8192) ∧ RowKit.Below wr.heap.size wr w3) := ⟨hbo, hb3⟩; clear hbo hb3))
        clear CS y5 y6 y7 y8 y9 y10
        cases bo with
        | false =>
          go_wp2_with fail
          go_ret
          exact ⟨rfl, HX.out.old.below.trans (H3.out.2.mono HX.out.old.below.size)⟩
        | true =>
          have HX3 : Hid (SetK w T w3 sb vb mb V [] k) := HX.out.below H3.out.2
          have hk3 : k < 300 := by omega
          have CA : Hid (Calls Try.prog 9 #[.pointer (some ⟨sb, 0, none⟩), .agg #[.int .u64 x, .int .u64 y, .int .u64 z, .slice oa on oc, .slice ia inn ic, .slice pa pn pc]] w3 fun e w' => StepIs w sb mb k e w') := CAP.out w3 H3.out.2 (by omega) (H3.out.1 rfl)
          clear CAP
          have y0 := HST.out 0 _ rfl w3 H3.out.2
          have y5 := HST.out 5 _ rfl w3 H3.out.2
          have y6 := HST.out 6 _ rfl w3 H3.out.2
          have y7 := HST.out 7 _ rfl w3 H3.out.2
          have y8 := HST.out 8 _ rfl w3 H3.out.2
          have y9 := HST.out 9 _ rfl w3 H3.out.2
          have y10 := HST.out 10 _ rfl w3 H3.out.2
          simp only [svV, Nat.add_zero] at y0 y5 y6 y7 y8 y9 y10
          have HW0 : Hid (∀ (j : Nat) u, (oqC ⟨kd, qn, lv, fr, tx, x, y, z, (oa, on, oc), (ia, inn, ic), (pa, pn, pc), sec⟩)[j]? = some u → ∀ W, RowKit.Below w.heap.size w W → W.cell? ⟨b, off + k * 12 + j, none⟩ = some u) := HW0q.out
          go_upto_if 39 with fail
          go_cut [] (fun w' => ∃ (T : Nat → Nat) (vb : Nat) (V : Lv), Hid (SetK w T w' sb vb mb V [] (k + 1)))
          case first =>
            by_cases hkd : kd = 1
            · subst hkd
              go_wp2_with (go_at_call 9; go_loud (refine CA.out.mono ?_; rintro e w4 ⟨⟨v4, rfl⟩, T4, vb4, V4, hk4⟩; have HX4 : Hid (SetK w T4 w4 sb vb4 mb V4 [] (k + 1)) := hk4; clear hk4))
              go_meet
              case rel => exact ⟨T4, vb4, V4, HX4.out⟩
            · go_wp2_with fail
              go_meet
              case rel => exact ⟨T, vb, V, HX3.out.more (Nat.le_succ _)⟩
          case rest =>
            obtain ⟨T4, vb4, V4, HX4⟩ := hcut
            rename World => w4
            have HST4 : Hid (∀ W, RowKit.Below w4.heap.size w4 W → RowKit.Below w4.heap.size w4 W ∧ W.cell? ⟨b, off + k * 12 + 3, none⟩ = some (.string fr) ∧ W.cell? ⟨b, off + k * 12 + 4, none⟩ = some (.string tx)) := fun W hW => ⟨hW, HW0.out 3 _ rfl W (HX4.out.old.below.trans (hW.mono HX4.out.old.below.size)), HW0.out 4 _ rfl W (HX4.out.old.below.trans (hW.mono HX4.out.old.below.size))⟩
            have CC : Hid (∀ W, RowKit.Below w4.heap.size w4 W → Calls Try.prog 7 #[.pointer (some ⟨sb, 0, none⟩)] W fun e w' => e = .returned (.pointer (some ⟨vb4, 0, none⟩)) ∧ w' = W) := fun W hW => currentP (HX4.out.set.below hW)
            have CSH : Hid (∀ W, RowKit.Below w4.heap.size w4 W → Calls Try.prog 16 #[.pointer (some ⟨vb4, 0, none⟩), .string fr, .string tx] W fun e w' => e = .returned (.bool true) ∧ RowKit.Below W.heap.size W w') := fun W hW => shaped_any vb4 V4 fr tx W (HX4.out.set.ver.at_.below hW) HX4.out.good
            clear y0 y5 y6 y7 y8 y9 y10 CA HX3 HX H3
            go_wp2_with fail
            go_region_held3 (fun W => RowKit.Below w4.heap.size w4 W ∧ W.cell? ⟨b, off + k * 12 + 3, none⟩ = some (.string fr) ∧ W.cell? ⟨b, off + k * 12 + 4, none⟩ = some (.string tx)) (first | assumption | exact HST4.out _ (Below.refl _ _).drew | exact keepC HST4.out (by assumption) (by assumption))
              (first
                | (go_at_call 7; refine (CC.out _ (And.left (by assumption))).mono ?_; rintro e w' ⟨rfl, hw⟩; have hw2 := hw.symm; clear hw; subst hw2)
                | (go_at_call 16; refine (CSH.out _ (And.left (by assumption))).mono ?_; rintro e w8 ⟨rfl, hb8⟩))
            all_goals
              have HX8 : Hid (SetK w T4 w8 sb vb4 mb V4 [] (k + 1)) := by rename_i hz; exact HX4.out.below hz.1
              go_wp2_with fail
              go_roundw
              case rel => exact ⟨k + 1, vb4, T4, V4, by omega, by go_num, HX8.out⟩
              case measure => simp [intOf]; omega
      · have q1 : ¬ (k : Int) < (n : Int) := by omega
        go_wp2_with fail
        go_ret
        exact ⟨rfl, HX.out.old.below⟩
  · have q0 : (300 : Int) < (n : Int) := by omega
    go_enter Try.func4, Try.ntmps4
    go_wp2_with fail
    go_ret
    exact ⟨rfl, Below.refl _ _⟩
end Vr
end Go.Proofs.Ytecgecolghgjoaa
