import Derived.Test.YtecgecolghgjoaaZm
namespace Go.Proofs.Ytecgecolghgjoaa
namespace Vr
open Go.Shelf Go.RowKit Go.Lib Go.Sort Go.Maps Go.ChangeMaps Go.MapKept Laws Irw Crw
set_option linter.unusedVariables false
set_option linter.unusedSimpArgs false
set_option maxRecDepth 20000
/-- what Unpin makes of the pins -/
def unpL (pv : Option Addr) (P : List Pn) : List Pn := match P.findIdx? (isV pv) with
  | some i => match P[i]? with
    | some p => if p.ti = 1 then P.eraseIdx i else P.modify i (more (-1))
    | none => P
  | none => P
/-- what Unpin tells -/
def unpR (pv : Option Addr) (cb : Nat) (Vc : Lv) (P : List Pn) : List Int := match P.findIdx? (isV pv) with
  | some i => match P[i]? with
    | some p => goneL cb Vc (unpL pv P) p.vb p.V
    | none => []
  | none => []
def UnIs (T : Nat → Nat) (w : World) (sb vb mb : Nat) (V : Lv) (P : List Pn) (pv : Option Addr) (e : Ending) (w' : World) : Prop :=
  ∃ (s : Sv) (T' : Nat → Nat), e = .returned (svV s) ∧ PAt T' w' sb vb mb V (unpL pv P) ∧ OwnK kU 7 T' w' (svV s) (unpR pv vb V P) ∧ Goes (fun t => t = 1 ∨ t = 2 ∨ t = 6 ∨ t = 7) T w T' w'
theorem mem_unpL {pv : Option Addr} {P : List Pn} {q : Pn} (h : q ∈ unpL pv P) : ∃ p ∈ P, q.vb = p.vb ∧ q.V = p.V := by
  unfold unpL at h
  split at h
  · split at h
    · split at h
      · exact ⟨q, List.mem_of_mem_eraseIdx h, rfl, rfl⟩
      · exact mem_modify h
    · exact ⟨q, h, rfl, rfl⟩
  · exact ⟨q, h, rfl, rfl⟩
theorem unpL_len (pv : Option Addr) (P : List Pn) : (unpL pv P).length ≤ P.length := by
  unfold unpL
  split
  · split
    · split
      · exact List.length_eraseIdx_le _ _
      · simp
    · exact Nat.le_refl _
  · exact Nat.le_refl _
theorem unpL_sz {pv : Option Addr} {V : Lv} {P : List Pn} (h : Sz V P) : Sz V (unpL pv P) := by
  refine ⟨h.num, h.len, fun q hq => ?_, Nat.le_trans (unpL_len _ _) h.pins⟩
  obtain ⟨p, hp, e1, e2⟩ := mem_unpL hq
  rw [e2]
  exact h.nums p hp
set_option maxHeartbeats 4000000 in
theorem unpin_any {T : Nat → Nat} {w : World} {sb vb mb : Nat} {V : Lv} {P : List Pn} {pv : Option Addr} (h : PAt T w sb vb mb V P) (hz : Sz V P) (hti : ∀ p ∈ P, 1 ≤ p.ti ∧ p.ti ≤ 1000000) (hpv : VOk w pv) :
    Calls Try.prog 13 #[.pointer (some ⟨sb, 0, none⟩), .pointer pv] w fun e w' => UnIs T w sb vb mb V P pv e w' := by
  obtain ⟨⟨pa, pn, pc⟩, ps, hbox, hown⟩ := h.box
  have hpn := (OwnK.sk hown).1
  change pn = P.length at hpn
  subst hpn
  simp only [svV] at hown
  have hp3 := hz.pins
  have HA : Hid (PAt T w sb vb mb V P ∧ Zb w sb [.pointer (some ⟨vb, 0, none⟩), svV (pa, P.length, pc), svV ps, .map (some mb)] ∧ OwnK kPn 6 T w (.slice pa P.length pc) P ∧ Sz V P) := ⟨h, hbox, hown, hz⟩
  have hF := find_any sb pv _ _ _ (pa, P.length, pc) P w hbox hpv (fun p hp => (h.pin p hp).blk) (Ls.own (s := (pa, P.length, pc)) hown) (by omega)
  cases hfi : P.findIdx? (isV pv) with
  | none =>
    rw [idp_none hfi] at hF
    have HF : Hid (Calls Try.prog 27 #[.pointer (some ⟨sb, 0, none⟩), .pointer pv] w fun e w' => e = .returned (.int .i64 (-1)) ∧ RowKit.Below w.heap.size w w') := hF
    have HE : Hid (unpL pv P = P ∧ unpR pv vb V P = []) := by unfold unpL unpR; rw [hfi]; exact ⟨rfl, rfl⟩
    clear hF hfi h hbox hown hti hz
    go_enter Try.func13, Try.ntmps13
    go_wp2_with (go_at_call 27; go_loud (refine HF.out.mono ?_; rintro e w1 ⟨rfl, hb1⟩; have HB1 : Hid (RowKit.Below w.heap.size w w1) := hb1; clear hb1))
    go_ret
    refine ⟨nS, T, rfl, ?_, ?_, Goes.below HB1.out⟩
    · rw [HE.out.1]; exact HA.out.1.below HB1.out
    · rw [HE.out.2]; exact OwnK.empty _ _ _
  | some i =>
    obtain ⟨e1, hi, p, hp, hpp⟩ := idp_some hfi
    rw [e1] at hF
    subst hpp
    have HF : Hid (Calls Try.prog 27 #[.pointer (some ⟨sb, 0, none⟩), .pointer (some ⟨p.vb, 0, none⟩)] w fun e w' => e = .returned (.int .i64 (i : Int)) ∧ RowKit.Below w.heap.size w w') := hF
    have HE : Hid (unpL (some ⟨p.vb, 0, none⟩) P = (if p.ti = 1 then P.eraseIdx i else P.modify i (more (-1))) ∧ unpR (some ⟨p.vb, 0, none⟩) vb V P = goneL vb V (unpL (some ⟨p.vb, 0, none⟩) P) p.vb p.V) := by unfold unpL unpR; rw [hfi]; dsimp only; rw [hp]; dsimp only; exact ⟨rfl, by unfold unpL; rw [hfi]; dsimp only; rw [hp]⟩
    have HP : Hid (P[i]? = some p) := hp
    obtain ⟨ht1, ht2⟩ := hti p (List.mem_of_getElem? hp)
    obtain ⟨G, rfl⟩ := own_some hown (by omega)
    obtain ⟨Q, hQ⟩ : ∃ Q, unpL (some ⟨p.vb, 0, none⟩) P = Q := ⟨_, rfl⟩
    have HS : Hid (Sz V Q ∧ ∀ q ∈ Q, ∃ p ∈ P, q.vb = p.vb ∧ q.V = p.V) := by rw [← hQ]; exact ⟨unpL_sz hz, fun q hq => mem_unpL hq⟩
    unfold UnIs
    rw [HE.out.2, hQ]
    have HQ : Hid (Q = if p.ti = 1 then P.eraseIdx i else P.modify i (more (-1))) := hQ.symm.trans HE.out.1
    have HPN : Hid (NumOk p.V ∧ (nums p.V).length ≤ 2500000 ∧ VT T w p.vb p.V) := ⟨(hz.nums p (List.mem_of_getElem? hp)).1, (hz.nums p (List.mem_of_getElem? hp)).2, h.pin p (List.mem_of_getElem? hp)⟩
    -- the last call, whatever stands in the list of pins
    have GN : Hid (∀ (W : World) (s : Sv), Goes (fun t => t = 1 ∨ t = 6) T w T W → Zb W sb [.pointer (some ⟨vb, 0, none⟩), svV s, svV ps, .map (some mb)] → OwnK kPn 6 T W (svV s) Q → Calls Try.prog 26 #[.pointer (some ⟨sb, 0, none⟩), .pointer (some ⟨p.vb, 0, none⟩)] W fun e w' => ∃ (s : Sv) (T' : Nat → Nat), e = .returned (svV s) ∧ PAt T' w' sb vb mb V Q ∧ OwnK kU 7 T' w' (svV s) (goneL vb V Q p.vb p.V) ∧ Goes (fun t => t = 1 ∨ t = 2 ∨ t = 6 ∨ t = 7) T w T' w') := by
      intro W s hg hz9 ho9
      obtain ⟨m, D, hm⟩ := HA.out.1.map
      have hpa : PAt T W sb vb mb V Q := ⟨HA.out.1.ts, HA.out.1.tm, ⟨s, ps, hz9, ho9⟩, HA.out.1.ver.goes hg (by decide), fun q hq => by
        obtain ⟨p9, hp9, e8, e9⟩ := HS.out.2 q hq
        rw [e8, e9]
        exact (HA.out.1.pin p9 hp9).goes hg (by decide), m, D, hm.block (hg.block mb hm.lt (by rw [HA.out.1.tm]; decide))⟩
      refine (gone2_any hpa HS.out.1 (HPN.out.2.2.goes hg (by decide)) HPN.out.1 HPN.out.2.1).mono ?_
      rintro e w' ⟨s', T', rfl, ho, hg', htm, hm'⟩
      have hsb : sb < W.heap.size := hz9.1
      refine ⟨s', T', rfl, ⟨(hg'.tag sb hsb (by rw [HA.out.1.ts]; decide)).trans HA.out.1.ts, htm, ⟨s, ps, hz9.goes hg' (by rw [HA.out.1.ts]; decide), ho9.goes hg' (by decide)⟩, hpa.ver.goes hg' (by decide), fun q hq => (hpa.pin q hq).goes hg' (by decide), hm'⟩, ho, (hg.mono ?_).trans (hg'.mono ?_)⟩
      · rintro x (h | h)
        · exact .inl h
        · exact .inr (.inr (.inl h))
      · rintro x (h | h)
        · exact .inr (.inl h)
        · exact .inr (.inr (.inr h))
    clear hF hfi e1 hp h hbox hown hti hz hQ HE
    go_enter Try.func13, Try.ntmps13
    go_upto_region 4 with (go_at_call 27; go_loud (refine HF.out.mono ?_; rintro e w1 ⟨rfl, hb1⟩; have HB1 : Hid (RowKit.Below w.heap.size w w1) := hb1; clear hb1))
    have HO1 : Hid (OwnK kPn 6 T w1 (.slice (some ⟨G, 0, none⟩) P.length pc) P) := HA.out.2.2.1.below HB1.out
    have d1 := (HA.out.2.1.below HB1.out).2.1 1 _ rfl
    simp only [svV] at d1
    obtain ⟨b, off, e1, hb, p', hp', y0, y1⟩ := (Ls.own (s := (some ⟨G, 0, none⟩, P.length, pc)) HO1.out).pn hi
    rw [HP.out] at hp'
    cases hp'
    cases e1
    rw [Nat.zero_add] at y0 y1
    have f1 := World.ownsRow.frozenAt (show w1.ownsRow 0 kPn.ty kPn.size (.slice (some ⟨G, 0, none⟩) P.length pc) P.length (kPn.cells P) from HO1.out.1) (i * 2 + 1)
    have hoc := own_count HO1.out rfl HP.out (-1)
    rw [show p.ti + -1 = p.ti - 1 by omega] at hoc
    go_upto_region 5 with fail
    obtain ⟨W2, hW2⟩ : ∃ W, w1.setCell ⟨G, i * 2 + 1, none⟩ (.int .i64 (p.ti - 1)) = W := ⟨_, rfl⟩
    rw [hW2] at hoc
    rw [hW2]
    have HW2 : Hid (OwnK kPn 6 T W2 (.slice (some ⟨G, 0, none⟩) P.length pc) (P.modify i (more (-1))) ∧ Goes (· = 6) T w T W2 ∧ (P.modify i (more (-1)))[i]? = some (more (-1) p)) := ⟨hoc.1, (Goes.below (t := (· = 6)) HB1.out).trans hoc.2, by rw [modify_at HP.out, List.getElem?_set_self hi]⟩
    have HZ2 : Hid (Zb W2 sb [.pointer (some ⟨vb, 0, none⟩), svV (some ⟨G, 0, none⟩, P.length, pc), svV ps, .map (some mb)]) := HA.out.2.1.goes HW2.out.2.1 (by rw [HA.out.1.ts]; decide)
    clear hoc hW2 d1 y0 y1 f1
    have d1 := HZ2.out.2.1 1 _ rfl
    simp only [svV] at d1
    have y1 : W2.cell? ⟨G, i * 2 + 1, none⟩ = some (.int .i64 (p.ti - 1)) := by
      obtain ⟨b, off, e1, _, p', hp', y0, y1⟩ := (Ls.own (s := (some ⟨G, 0, none⟩, P.length, pc)) (by simpa [svV] using HW2.out.1)).pn (i := i) (by simpa using hi)
      rw [HW2.out.2.2] at hp'
      cases hp'
      cases e1
      rw [Nat.zero_add] at y1
      rw [y1]
      show some (Value.int .i64 (p.ti + -1)) = _
      rw [show p.ti + -1 = p.ti - 1 by omega]
    by_cases h1 : p.ti = 1
    · have hq := HQ.out
      rw [if_pos h1] at hq
      have HQ1 : Hid (Q = P.eraseIdx i) := hq
      have q1 : p.ti - 1 = 0 := by omega
      rw [q1] at y1
      obtain ⟨k, hk⟩ : ∃ k, P.length = k + 1 := ⟨P.length - 1, by omega⟩
      have HK : Hid (P.length = k + 1) := hk
      have hik : i ≤ k := by omega
      have hkk : k ≤ 1000 := by omega
      have HD : Hid (Calls Try.prog 28 #[.slice (some ⟨G, 0, none⟩) (k + 1) pc, .int .i64 (i : Int), .int .i64 ((i : Int) + 1)] W2 fun e w' => DlIs T W2 G k pc Q e w') := by
        have ho := HW2.out.1
        rw [hk] at ho
        have := delete_any (P := P.modify i (more (-1))) (by simpa using hk) ho hik hkk
        rw [HQ1.out]
        have e9 : (P.modify i (more (-1))).eraseIdx i = P.eraseIdx i := by
          rw [modify_at HP.out, List.eraseIdx_set_eq]
        rw [e9] at this
        exact this
      rw [hk] at d1
      clear hq hk h1
      go_upto_region 7 with (go_at_call 28; go_loud (refine HD.out.mono ?_; rintro e w4 ⟨rfl, ho4, hg4⟩; have HX4 : Hid (OwnK kPn 6 T w4 (.slice (some ⟨G, 0, none⟩) k pc) Q ∧ Goes (· = 6) T w T w4) := ⟨ho4, HW2.out.2.1.trans hg4⟩; have k1 := (HA.out.2.1.goes HX4.out.2 (by rw [HA.out.1.ts]; decide)).2.1 1 _ rfl; have k2 := (HA.out.2.1.goes HX4.out.2 (by rw [HA.out.1.ts]; decide)).2.2 1; simp only [svV] at k1; clear ho4 hg4))
      obtain ⟨W5, hW5⟩ : ∃ W, w4.setCell ⟨sb, 1, none⟩ (.slice (some ⟨G, 0, none⟩) k pc) = W := ⟨_, rfl⟩
      have HC : Hid (Calls Try.prog 26 #[.pointer (some ⟨sb, 0, none⟩), .pointer (some ⟨p.vb, 0, none⟩)] W5 fun e w' => ∃ (s : Sv) (T' : Nat → Nat), e = .returned (svV s) ∧ PAt T' w' sb vb mb V Q ∧ OwnK kU 7 T' w' (svV s) (goneL vb V Q p.vb p.V) ∧ Goes (fun t => t = 1 ∨ t = 2 ∨ t = 6 ∨ t = 7) T w T' w') := by
        rw [← hW5]
        have hgs : Goes (· = 1) T w4 T (w4.setCell ⟨sb, 1, none⟩ (.slice (some ⟨G, 0, none⟩) k pc)) := Goes.setCell (t := (· = 1)) HA.out.1.ts
        exact GN.out _ (some ⟨G, 0, none⟩, k, pc) ((HX4.out.2.mono (fun _ h => .inr h)).trans (hgs.mono (fun _ h => .inl h))) ((HA.out.2.1.goes HX4.out.2 (by rw [HA.out.1.ts]; decide)).set 1 _) (HX4.out.1.goes hgs (by decide))
      rw [hW5]
      clear hW5 k1 k2 d1 y1
      go_wp2_with (go_at_call 26; go_loud (refine HC.out.mono ?_; rintro e w6 ⟨⟨s1, s2, s3⟩, T6, rfl, hfin⟩; have HFIN : Hid (PAt T6 w6 sb vb mb V Q ∧ OwnK kU 7 T6 w6 (svV (s1, s2, s3)) (goneL vb V Q p.vb p.V) ∧ Goes (fun t => t = 1 ∨ t = 2 ∨ t = 6 ∨ t = 7) T w T6 w6) := hfin; clear hfin; simp only [svV]))
      go_ret
      exact ⟨(s1, s2, s3), T6, rfl, HFIN.out⟩
    · have hq := HQ.out
      rw [if_neg h1] at hq
      have HQ1 : Hid (Q = P.modify i (more (-1))) := hq
      have q1 : ¬ p.ti - 1 = 0 := by omega
      have q2 : (p.ti - 1 == 0) = false := beq_eq_false_iff_ne.2 q1
      have HC : Hid (Calls Try.prog 26 #[.pointer (some ⟨sb, 0, none⟩), .pointer (some ⟨p.vb, 0, none⟩)] W2 fun e w' => ∃ (s : Sv) (T' : Nat → Nat), e = .returned (svV s) ∧ PAt T' w' sb vb mb V Q ∧ OwnK kU 7 T' w' (svV s) (goneL vb V Q p.vb p.V) ∧ Goes (fun t => t = 1 ∨ t = 2 ∨ t = 6 ∨ t = 7) T w T' w') :=
        GN.out _ (some ⟨G, 0, none⟩, P.length, pc) (HW2.out.2.1.mono (fun _ h => .inr h)) HZ2.out (by rw [HQ1.out]; exact HW2.out.1)
      clear hq
      go_wp2_with (go_at_call 26; go_loud (refine HC.out.mono ?_; rintro e w6 ⟨⟨s1, s2, s3⟩, T6, rfl, hfin⟩; have HFIN : Hid (PAt T6 w6 sb vb mb V Q ∧ OwnK kU 7 T6 w6 (svV (s1, s2, s3)) (goneL vb V Q p.vb p.V) ∧ Goes (fun t => t = 1 ∨ t = 2 ∨ t = 6 ∨ t = 7) T w T6 w6) := hfin; clear hfin; simp only [svV]))
      go_ret
      exact ⟨(s1, s2, s3), T6, rfl, HFIN.out⟩
end Vr
end Go.Proofs.Ytecgecolghgjoaa
