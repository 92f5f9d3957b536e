import Derived.Test.YtbloifnibgdeoaaProg
import Derived.Test.YtbloifnibgdeoaaDCre
import Derived.WalkKit
import Derived.WalkSpells
import Derived.WalkLawsBesides
namespace Go.Proofs.Ytbloifnibgdeoaa
namespace Dsk
open Go.RowKit Go.Maps Go.Sort Byt Laws
set_option linter.unusedVariables false
set_option maxRecDepth 100000

section
variable {T : Nat → Nat} {w : World} {d mb : Nat} {fb : Nat → Nat} {m : Dm} {cv : Value} {D : DataW (Option Addr)}

theorem hasRoom_pd (h : Pdi T w d mb fb m cv D) {i : Nat} {f : Fl} (hf : m.fl[i]? = some f) (n : Nat) (hu : m.used + n ≤ 9223372036854775807) (hn : n ≤ 4611686018427387903) :
    Calls Try.prog 69 #[.pointer (some ⟨d, 0, none⟩), .pointer (some ⟨fb i, 0, none⟩), .int .i64 n] w fun e w' => e = .returned (.bool (roomR m.room m.used f.data.length n)) ∧ Pdi T w' d mb fb m cv D ∧ Goes T T w w' ∧ Below w.heap.size w w' := by
  obtain ⟨a, c, hfa⟩ := h.file i f hf
  have := hfa.big
  refine (hasRoom_any d (fb i) _ a c f n w h.top hfa.fld hu (by omega) h.room).mono ?_
  rintro e w' ⟨rfl, k, rfl⟩
  have hb : Below w.heap.size w (w.drewN k) := below_drewN (Below.refl _ _) _
  exact ⟨rfl, h.below hb, Goes.below hb, hb⟩
end

/-- What an Append leaves that was rigged to fail. -/
def Dm.layPart (m : Dm) (i : Nat) (l : List Nat) : Dm := if roomR m.room m.used (lenOf m.fl i) (min m.rig.part l.length) then m.lay i (l.take (min m.rig.part l.length)) else m

set_option maxHeartbeats 1000000 in
theorem layPart_any {T : Nat → Nat} {w : World} {d mb : Nat} {fb : Nat → Nat} {m : Dm} (h : Pd T w d mb fb m) {i : Nat} {f : Fl} (hf : m.fl[i]? = some f) (hi : i ∈ m.now.map (·.2)) (ab : Option Addr) (n cb : Nat) (l : List Nat) (hb : IsB w ab l) (nb : ab = none → cb = 0) (hn : n = l.length) (hc : n ≤ cb) (hc2 : cb ≤ 9223372036854775807)
    (hu : m.used + l.length ≤ 9223372036854775807) (hl : l.length ≤ 4611686018427387903) :
    Calls Try.prog 68 #[.pointer (some ⟨d, 0, none⟩), .pointer (some ⟨fb i, 0, none⟩), .slice ab n cb] w fun e w' => e = .returned (.tuple #[]) ∧ ∃ T', Pd T' w' d mb fb (m.layPart i l) ∧ Goes T T' w w' := by
  obtain ⟨cv, D, h⟩ := h
  have HH : Hid (Pdi T w d mb fb m cv D) := h
  have HF : Hid (m.fl[i]? = some f) := hf
  have HI : Hid (i ∈ m.now.map (·.2)) := hi
  have HB : Hid (IsB w ab l) := hb
  have NB : Hid (ab = none → cb = 0) := nb
  have c3 := (h.top.1.2 3 (by omega)).1
  simp only [Top.cell] at c3
  have hr := h.top.2.2.2.2
  simp only at hr
  have HE : Hid (m.layPart i l = if roomR m.room m.used f.data.length (min m.rig.part l.length) then m.lay i (l.take (min m.rig.part l.length)) else m) := by show _ = _; unfold Dm.layPart; rw [lenOf_some hf]
  subst hn
  clear h hf hi hb nb
  by_cases hpl : m.rig.part ≤ l.length
  · have hpl' : (m.rig.part : Int) ≤ (l.length : Int) := by omega
    have HK : Hid (m.rig.part = min m.rig.part l.length) := by show _ = _; omega
    have hkl : m.rig.part ≤ l.length := by omega
    go_enter Try.func68, Try.ntmps68
    go_wp2_with fail
    refine (hasRoom_pd HH.out HF.out m.rig.part (by omega) (by omega)).mono ?_
    rintro e w1 ⟨rfl, h1, g1, b1⟩
    have H1 : Hid (Pdi T w1 d mb fb m cv D ∧ Goes T T w w1 ∧ Below w.heap.size w w1) := ⟨h1, g1, b1⟩
    clear h1 g1 b1
    cases hro : roomR m.room m.used f.data.length (m.rig.part)
    · go_wp2
      go_end0
      rw [HE.out, ← HK.out, hro]
      exact ⟨rfl, T, ⟨cv, D, H1.out.1⟩, H1.out.2.1⟩
    · have hbg : f.data.length + m.rig.part ≤ 2147483648 := by
        simp only [roomR, Bool.and_eq_true, decide_eq_true_eq] at hro
        exact hro.2
      have HRO : Hid (roomR m.room m.used f.data.length (m.rig.part) = true) := hro
      clear hro
      have htk : (l.take (m.rig.part)).length = m.rig.part := by rw [List.length_take]; omega
      go_wp2_with fail
      refine (lay_any ⟨cv, D, H1.out.1⟩ HF.out HI.out ab (m.rig.part) cb (l.take (m.rig.part)) ((HB.out.below H1.out.2.2).take _) NB.out htk.symm (by omega) (by omega)).mono ?_
      rintro e w2 ⟨rfl, T2, h2, g2⟩
      have H2 : Hid (Pd T2 w2 d mb fb (m.lay i (l.take (m.rig.part))) ∧ Goes T T2 w w2) := ⟨h2, H1.out.2.1.trans g2⟩
      clear h2 g2 htk
      go_wp2
      go_end0
      rw [HE.out, ← HK.out, HRO.out]
      exact ⟨rfl, T2, H2.out.1, H2.out.2⟩
  · have hpl' : (l.length : Int) < (m.rig.part : Int) := by omega
    have HK : Hid (l.length = min m.rig.part l.length) := by show _ = _; omega
    have hkl : l.length ≤ l.length := by omega
    go_enter Try.func68, Try.ntmps68
    go_wp2_with fail
    refine (hasRoom_pd HH.out HF.out l.length (by omega) (by omega)).mono ?_
    rintro e w1 ⟨rfl, h1, g1, b1⟩
    have H1 : Hid (Pdi T w1 d mb fb m cv D ∧ Goes T T w w1 ∧ Below w.heap.size w w1) := ⟨h1, g1, b1⟩
    clear h1 g1 b1
    cases hro : roomR m.room m.used f.data.length (l.length)
    · go_wp2
      go_end0
      rw [HE.out, ← HK.out, hro]
      exact ⟨rfl, T, ⟨cv, D, H1.out.1⟩, H1.out.2.1⟩
    · have hbg : f.data.length + l.length ≤ 2147483648 := by
        simp only [roomR, Bool.and_eq_true, decide_eq_true_eq] at hro
        exact hro.2
      have HRO : Hid (roomR m.room m.used f.data.length (l.length) = true) := hro
      clear hro
      have htk : (l.take (l.length)).length = l.length := by rw [List.length_take]; omega
      go_wp2_with fail
      refine (lay_any ⟨cv, D, H1.out.1⟩ HF.out HI.out ab (l.length) cb (l.take (l.length)) ((HB.out.below H1.out.2.2).take _) NB.out htk.symm (by omega) (by omega)).mono ?_
      rintro e w2 ⟨rfl, T2, h2, g2⟩
      have H2 : Hid (Pd T2 w2 d mb fb (m.lay i (l.take (l.length))) ∧ Goes T T2 w w2) := ⟨h2, H1.out.2.1.trans g2⟩
      clear h2 g2 htk
      go_wp2
      go_end0
      rw [HE.out, ← HK.out, HRO.out]
      exact ⟨rfl, T2, H2.out.1, H2.out.2⟩
theorem isB_goes {T T' : Nat → Nat} {w w' : World} {ab : Option Addr} {l : List Nat} (h : IsB w ab l) (ho : ∀ ad, ab = some ad → T ad.block = 0) (g : Goes T T' w w') : IsB w' ab l :=
  ⟨fun hne => by
    obtain ⟨b, off, e, hr⟩ := h.1 hne
    exact ⟨b, off, e, hr.keep (g.block b hr.1 (ho _ e)).1 g.size⟩, h.2⟩
theorem spend_le (m : Dm) (n : Nat) : (m.spend n).1 ≤ n := by
  by_cases h : n < m.rig.units
  · simp [Dm.spend, spendR, Rig.charge, h]
  · simp only [Dm.spend, spendR, Rig.charge, if_neg h]
    split
    · simp only; omega
    · exact Nat.zero_le _
theorem look_in {l : List (Key × Nat)} {k : Key} {i : Nat} (h : look l k = some i) : i ∈ l.map (·.2) := List.mem_map.2 ⟨_, look_some h, rfl⟩

/-- P3.2, P3.3, P3.8, P3.9: Append. -/
def Dm.append (m : Dm) (s : ByteArray) (l : List Nat) : Int × Dm :=
  if (m.enter (okN s)).1 ≠ 0 then
    ((m.enter (okN s)).1, if (m.enter (okN s)).1 = 31 then (match look m.now (ky s) with
      | some i => (m.enter (okN s)).2.layPart i l
      | none => (m.enter (okN s)).2) else (m.enter (okN s)).2)
  else match look m.now (ky s) with
    | none => (34, (m.enter (okN s)).2)
    | some i =>
      if roomR m.room m.used (lenOf m.fl i) l.length = false then (32, (m.enter (okN s)).2)
      else if 0 < ((m.enter (okN s)).2.spend (1 + l.length)).1 then (30, ((m.enter (okN s)).2.spend (1 + l.length)).2.lay i (l.take (((m.enter (okN s)).2.spend (1 + l.length)).1 - 1)))
      else (0, ((m.enter (okN s)).2.spend (1 + l.length)).2.lay i l)

set_option maxHeartbeats 2000000 in
theorem append_any {T : Nat → Nat} {w : World} {d mb : Nat} {fb : Nat → Nat} {m : Dm} (h : Pd T w d mb fb m) (s : ByteArray) (hs : s.size ≤ maxLen) (ab : Option Addr) (cb : Nat) (l : List Nat) (hb : IsB w ab l) (nb : ab = none → cb = 0) (hc : l.length ≤ cb) (hc2 : cb ≤ 9223372036854775807) (ho : ∀ ad, ab = some ad → T ad.block = 0)
    (hu : m.used + l.length ≤ 4611686018427387903) :
    Calls Try.prog 27 #[.pointer (some ⟨d, 0, none⟩), .string s, .slice ab l.length cb] w fun e w' => e = .returned (.int .i64 (m.append s l).1) ∧ ∃ T', Pd T' w' d mb fb (m.append s l).2 ∧ Goes T T' w w' := by
  obtain ⟨cv, D, h⟩ := h
  have HH : Hid (Pdi T w d mb fb m cv D) := h
  have HS : Hid (s.size ≤ maxLen) := hs
  have hs9 : s.size ≤ 9223372036854775807 := by unfold maxLen at hs; omega
  have HB : Hid (IsB w ab l) := hb
  have NB : Hid (ab = none → cb = 0) := nb
  have HO : Hid (∀ ad, ab = some ad → T ad.block = 0) := ho
  clear h hs hb nb ho
  go_enter Try.func27, Try.ntmps27
  go_wp2_with fail
  refine (enter_one HH.out s hs9).mono ?_
  rintro e w1 ⟨rfl, h1, g1⟩
  have G1 : Hid (Goes T T w w1) := g1
  obtain ⟨m1, hm1⟩ : ∃ m1, m1 = (m.enter (okN s)).2 := ⟨_, rfl⟩
  have HM1 : Hid (m1 = (m.enter (okN s)).2) := hm1
  rw [← hm1] at h1
  have H1 : Hid (Pdi T w1 d mb fb m1 cv D) := h1
  have HN : Hid (m1.now = m.now ∧ m1.fl = m.fl ∧ m1.room = m.room ∧ m1.used = m.used) := by rw [hm1]; exact ⟨rfl, rfl, rfl, rfl⟩
  have hu1 : m1.used + l.length ≤ 4611686018427387903 := by rw [HN.out.2.2.2]; exact hu
  have c6 := (h1.top.1.2 6 (by omega)).1
  simp only [Top.cell] at c6
  have HB1 : Hid (IsB w1 ab l) := isB_goes HB.out HO.out g1
  clear hm1 h1 g1 HH HB
  obtain ⟨ec, hec⟩ : ∃ ec, ec = (m.enter (okN s)).1 := ⟨_, rfl⟩
  have HEC : Hid (ec = (m.enter (okN s)).1) := hec
  rw [← hec]
  clear hec
  by_cases he : ec = 0
  · subst he
    cases hl : look m1.now (ky s) with
    | none =>
      go_wp2_with (at_lookup; refine wpList_look H1.out s HS.out (by rfl) (.tmp 17) (.tmp 18) (by rfl) (by rfl) (by rfl) ?_; rw [hl]; simp only [pv])
      go_ret
      have e : m.append s l = (34, m1) := by
        rw [HM1.out]; unfold Dm.append
        rw [if_neg (by rw [← HEC.out]; simp), ← HN.out.1, hl]
      rw [e]
      exact ⟨rfl, T, ⟨cv, D, H1.out⟩, G1.out⟩
    | some i =>
      obtain ⟨f, hf⟩ : ∃ f, m1.fl[i]? = some f := ⟨_, List.getElem?_eq_getElem (H1.out.ids _ (look_some hl))⟩
      have HF : Hid (m1.fl[i]? = some f) := hf
      have HI : Hid (i ∈ m1.now.map (·.2)) := look_in hl
      have HLN : Hid (lenOf m.fl i = f.data.length) := by show _ = _; rw [← HN.out.2.1]; exact lenOf_some hf
      clear hf
      go_wp2_with (at_lookup; refine wpList_look H1.out s HS.out (by rfl) (.tmp 17) (.tmp 18) (by rfl) (by rfl) (by rfl) ?_; rw [hl]; simp only [pv])
      refine (hasRoom_pd H1.out HF.out l.length (by omega) (by omega)).mono ?_
      rintro e w2 ⟨rfl, h2, g2, b2⟩
      have H2 : Hid (Pdi T w2 d mb fb m1 cv D) := h2
      have G2 : Hid (Goes T T w w2) := G1.out.trans g2
      have HB2 : Hid (IsB w2 ab l) := HB1.out.below b2
      clear h2 g2 b2
      cases hro : roomR m1.room m1.used f.data.length l.length
      · go_wp2
        go_ret
        have e : m.append s l = (32, m1) := by
          rw [HM1.out]; unfold Dm.append
          rw [if_neg (by rw [← HEC.out]; simp), ← HN.out.1, hl]
          simp only
          rw [if_pos (by rw [HLN.out, ← HN.out.2.2.1, ← HN.out.2.2.2]; exact hro)]
        rw [e]
        exact ⟨rfl, T, ⟨cv, D, H2.out⟩, G2.out⟩
      · have hbg : f.data.length + l.length ≤ 2147483648 := by
          simp only [roomR, Bool.and_eq_true, decide_eq_true_eq] at hro
          exact hro.2
        have HRO : Hid (roomR m1.room m1.used f.data.length l.length = true) := hro
        clear hro
        go_wp2_with fail
        rw [show (1 + (l.length : Int)) = ((1 + l.length : Nat) : Int) by omega]
        refine (spend_pd H2.out (1 + l.length) (by omega)).mono ?_
        rintro e w3 ⟨rfl, h3, g3⟩
        have H3 : Hid (Pdi T w3 d mb fb (m1.spend (1 + l.length)).2 cv D) := h3
        have G3 : Hid (Goes T T w w3) := G2.out.trans g3
        have HB3 : Hid (IsB w3 ab l) := isB_goes HB2.out HO.out g3
        have hle := spend_le m1 (1 + l.length)
        clear h3 g3
        by_cases hp : 0 < (m1.spend (1 + l.length)).1
        · obtain ⟨v, hv⟩ : ∃ v, (m1.spend (1 + l.length)).1 = v + 1 := ⟨_, (Nat.succ_pred_eq_of_pos hp).symm⟩
          have hvl : v ≤ l.length := by omega
          have HV : Hid ((m1.spend (1 + l.length)).1 = v + 1) := hv
          rw [hv]
          clear hle hv hp
          have htk : (l.take v).length = v := by rw [List.length_take]; omega
          go_wp2_with fail
          refine (lay_any ⟨cv, D, H3.out⟩ HF.out HI.out ab v cb (l.take v) (HB3.out.take _) NB.out htk.symm (by omega) (by show m1.used + _ ≤ _; omega)).mono ?_
          rintro e w4 ⟨rfl, T4, h4, g4⟩
          have H4 : Hid (Pd T4 w4 d mb fb ((m1.spend (1 + l.length)).2.lay i (l.take v)) ∧ Goes T T4 w w4) := ⟨h4, G3.out.trans g4⟩
          clear h4 g4 htk
          go_wp2
          go_ret
          have e : m.append s l = (30, (m1.spend (1 + l.length)).2.lay i (l.take v)) := by
            have hv := HV.out
            rw [HM1.out] at hv ⊢
            unfold Dm.append
            rw [if_neg (by rw [← HEC.out]; simp), ← HN.out.1, hl]
            simp only
            rw [if_neg (by rw [HLN.out, ← HN.out.2.2.1, ← HN.out.2.2.2, HRO.out]; simp), if_pos (by omega), hv]
            rfl
          rw [e]
          exact ⟨rfl, T4, H4.out.1, H4.out.2⟩
        · have hp' : (m1.spend (1 + l.length)).1 = 0 := by omega
          rw [hp']
          clear hle
          go_wp2_with fail
          refine (lay_any ⟨cv, D, H3.out⟩ HF.out HI.out ab l.length cb l HB3.out NB.out rfl (by omega) (by show m1.used + _ ≤ _; omega)).mono ?_
          rintro e w4 ⟨rfl, T4, h4, g4⟩
          have H4 : Hid (Pd T4 w4 d mb fb ((m1.spend (1 + l.length)).2.lay i l) ∧ Goes T T4 w w4) := ⟨h4, G3.out.trans g4⟩
          clear h4 g4
          go_wp2
          go_ret
          have e : m.append s l = (0, (m1.spend (1 + l.length)).2.lay i l) := by
            rw [HM1.out] at hp' ⊢
            unfold Dm.append
            rw [if_neg (by rw [← HEC.out]; simp), ← HN.out.1, hl]
            simp only
            rw [if_neg (by rw [HLN.out, ← HN.out.2.2.1, ← HN.out.2.2.2, HRO.out]; simp), if_neg (by omega)]
          rw [e]
          exact ⟨rfl, T4, H4.out.1, H4.out.2⟩
  · have he0 : (ec != 0) = true := by simp [he]
    by_cases he1 : ec = 31
    · subst he1
      cases hl : look m1.now (ky s) with
      | none =>
        go_wp2_with (at_lookup; refine wpList_look H1.out s HS.out (by rfl) (.tmp 17) (.tmp 18) (by rfl) (by rfl) (by rfl) ?_; rw [hl]; simp only [pv])
        go_ret
        have e : m.append s l = (31, m1) := by
          rw [HM1.out]; unfold Dm.append
          rw [if_pos (by rw [← HEC.out]; simp), ← HEC.out, if_pos rfl, ← HN.out.1, hl]
        rw [e]
        exact ⟨rfl, T, ⟨cv, D, H1.out⟩, G1.out⟩
      | some i =>
        obtain ⟨f, hf⟩ : ∃ f, m1.fl[i]? = some f := ⟨_, List.getElem?_eq_getElem (H1.out.ids _ (look_some hl))⟩
        have HF : Hid (m1.fl[i]? = some f) := hf
        have HI : Hid (i ∈ m1.now.map (·.2)) := look_in hl
        clear hf
        go_wp2_with (at_lookup; refine wpList_look H1.out s HS.out (by rfl) (.tmp 17) (.tmp 18) (by rfl) (by rfl) (by rfl) ?_; rw [hl]; simp only [pv])
        refine (layPart_any ⟨cv, D, H1.out⟩ HF.out HI.out ab l.length cb l HB1.out NB.out rfl hc hc2 (by omega) (by omega)).mono ?_
        rintro e w2 ⟨rfl, T2, h2, g2⟩
        have H2 : Hid (Pd T2 w2 d mb fb (m1.layPart i l) ∧ Goes T T2 w w2) := ⟨h2, G1.out.trans g2⟩
        clear h2 g2
        go_wp2
        go_ret
        have e : m.append s l = (31, m1.layPart i l) := by
          rw [HM1.out]; unfold Dm.append
          rw [if_pos (by rw [← HEC.out]; simp), ← HEC.out, if_pos rfl, ← HN.out.1, hl]
        rw [e]
        exact ⟨rfl, T2, H2.out.1, H2.out.2⟩
    · have he1' : (ec == 31) = false := by simp [he1]
      go_wp2_with (at_lookup; refine wpList_look H1.out s HS.out (by rfl) (.tmp 17) (.tmp 18) (by rfl) (by rfl) (by rfl) ?_)
      go_ret
      have e : m.append s l = (ec, m1) := by
        rw [HM1.out]; unfold Dm.append
        rw [if_pos (by rw [← HEC.out]; exact he), ← HEC.out, if_neg he1]
      rw [e]
      exact ⟨rfl, T, ⟨cv, D, H1.out⟩, G1.out⟩
end Dsk
end Go.Proofs.Ytbloifnibgdeoaa
