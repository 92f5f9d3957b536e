import Derived.Test.YtpnomeggdhcbaaaGreatDoorLr2
namespace Go.Proofs.YtpnomeggdhcbaaaGreatDoor
namespace Lin
open Go.RowKit Go.Shelf Laws Irw
set_option linter.unusedVariables false
set_option maxRecDepth 100000

theorem er_step {l : List Int} {k k0 : Nat} (hk : k < l.length) (hne : k ≠ k0) : (l.take (k + 1)).eraseIdx k0 = (l.take k).eraseIdx k0 ++ [l.getD k 0] := by
  have el : (l.take k).length = k := by simp; omega
  rw [take_snoc hk]
  by_cases h : k0 < k
  · rw [List.eraseIdx_append_of_lt_length (by omega)]
  · rw [List.eraseIdx_of_length_le (by simp; omega), List.eraseIdx_of_length_le (by omega)]
theorem er_same {l : List Int} {k0 : Nat} (hk : k0 < l.length) : (l.take (k0 + 1)).eraseIdx k0 = (l.take k0).eraseIdx k0 := by
  have el : (l.take k0).length = k0 := by simp; omega
  rw [take_snoc hk, List.eraseIdx_append_of_length_le (by omega), List.eraseIdx_of_length_le (l := l.take k0) (by omega), el]
  simp
theorem er_len {l : List Int} {k k0 : Nat} (hk : k ≤ l.length) : ((l.take k).eraseIdx k0).length ≤ k := by
  have := List.length_eraseIdx_le (l.take k) k0
  have el : (l.take k).length = k := by simp; omega
  omega
/-- What was made anew gets any tag. -/
theorem own_new {w w' : World} {T T' : Nat → Nat} {v : Value} {l : List Int} (s : Nat) (hg : Goes (· = 0) (fun _ => 1) w T' w') (ho : OwnL 0 T' w' v l) : ∃ T'', Goes (· = s) T w T'' w' ∧ OwnL s T'' w' v l := by
  refine ⟨fun b => if w.heap.size ≤ b ∧ b < w'.heap.size then s else T b, ⟨hg.os, hg.tape, hg.output, hg.size, fun b hb _ => hg.block b hb (by simp), fun b hb _ => if_neg (by omega), fun b hb h0 => by rw [if_neg (by omega)]; exact h0⟩, ho.1, fun g hv => ?_⟩
  have h1 := (ho.1.lt g hv).2
  have h2 : w.heap.size ≤ g := by
    by_cases h : g < w.heap.size
    · have h3 := hg.tag g h (by simp)
      rw [ho.2 g hv] at h3
      omega
    · omega
  exact if_pos ⟨h2, h1⟩

set_option maxHeartbeats 3200000 in
/-- The document's line: Leave. -/
theorem rleave_any (t : Nat) (T : Nat → Nat) (w : World) (p : Nat) (l : List Int) (x : Int) (h : LineAt t T w p l) (hlen : l.length ≤ 100000000000) :
    Calls Tryz.prog 12 #[.pointer (some ⟨p, 0, none⟩), .int .i64 x] w fun e w' => e = .returned (.bool (decide (x ∈ l))) ∧ JoinIs t T w p l (leaveL l x) w' := by
  obtain ⟨i0, hi0, hz0, hz1, hz2⟩ := info_parts infoI
  obtain ⟨a, c, hc, ho, hi, _, hn⟩ := h.form
  have HH : Hid (LineAt t T w p l) := h
  have HA : Hid (IsI w a l) := hi
  have hlt := h.lt
  have hf := h.free
  have HP := plc_ge l x
  clear h ho hi
  by_cases hx : x ∈ l
  · have HX : Hid (x ∈ l) := hx
    obtain ⟨k0, hk0, ek0, _, _⟩ := plc_some hx
    have HK : Hid (leaveL l x = l.eraseIdx k0) := by unfold leaveL; rw [if_pos hx, ek0]; rfl
    have q1 : ¬ (k0 : Int) < 0 := by omega
    clear hx HP
    go_enter Tryz.func12, Tryz.ntmps12
    go_wp2_with (go_at_call 37; refine (rat_any t T _ p l x HH.out (by omega)).mono ?_; rintro e w9 ⟨rfl, hw9⟩; have hw8 := hw9.symm; clear hw9; subst hw8; rw [ek0])
    go_loopw [6, 7] (fun v i wr => ∃ (k : Nat) (a' : Option Addr) (m c' : Nat), k ≤ l.length ∧ i = .int .i64 k ∧ v = .slice a' m c' ∧ Hid (m = ((l.take k).eraseIdx k0).length ∧ ∃ T', OwnL 0 T' wr (.slice a' m c') ((l.take k).eraseIdx k0) ∧ Goes (· = 0) (fun _ => 1) w T' wr)) (fun _ i _ => l.length - (intOf i).toNat)
    case atStart => exact ⟨0, none, 0, 0, Nat.zero_le _, rfl, rfl, by simp, _, by simpa using OwnL.nil _ _ _, Goes.refl _ _ _⟩
    case round =>
      obtain ⟨k, a1, m, c1, hk, rfl, rfl, HG⟩ := hrel
      obtain ⟨hm, T1, ho1, hg1⟩ := HG.out
      have hc1 : wr.cell? ⟨p, 0, none⟩ = some (.slice a l.length c) := (hg1.cell hlt (by simp)).trans hc
      have hf1 : wr.frozen? ⟨p, 0, none⟩ = false := (World.frozen?_of_block (a := ⟨p, 0, none⟩) (hg1.block p hlt (by simp))).trans hf
      have HO1 : Hid (OwnL 0 T1 wr (.slice a1 m c1) ((l.take k).eraseIdx k0)) := ho1
      have HG1 : Hid (Goes (· = 0) (fun _ => 1) w T1 wr) := hg1
      have HM : Hid (((l.take k).eraseIdx k0).length = m) := hm.symm
      have hmk : m ≤ k := hm ▸ er_len hk
      have hsz := hg1.size
      have hlr : p < wr.heap.size := by omega
      clear HG ho1 hm
      by_cases hk2 : k < l.length
      · have q2 : (k : Int) < (l.length : Int) := by omega
        by_cases hkk : k = k0
        · subst hkk
          have HE : Hid ((l.take (k + 1)).eraseIdx k = (l.take k).eraseIdx k) := er_same hk2
          clear hg1
          go_wp2
          refine ⟨⟨k + 1, a1, m, c1, by omega, by go_num, rfl, ?_⟩, by simp [intOf]; omega⟩
          show _ ∧ _
          rw [HE.out]
          exact ⟨HM.out.symm, T1, HO1.out, HG1.out⟩
        · have q3 : ¬ (k : Int) = (k0 : Int) := by omega
          obtain ⟨b, o, rfl, hr⟩ := HA.out.at_ (by omega)
          have c0 := (hr.keep (hg1.block b hr.1 (by simp)) hg1.size).cell hk2
          have HY : Hid ((l.take (k + 1)).eraseIdx k0 = (l.take k).eraseIdx k0 ++ [l.getD k 0]) := er_step hk2 hkk
          have hbl := hr.1
          have zb : ¬ b = wr.heap.size := by omega
          generalize l.getD k 0 = y at *
          clear hg1 hr
          go_wp2_with (at_builtin; go_loud (refine wpList_appL _ (by rfl) (.tmp 25) (.tmp 33) 25 (by rfl) i0 Tryz.underlying25 hi0 hz0 hz1 hz2 0 T1 (.slice a1 m c1) ((l.take k).eraseIdx k0) (by rfl) (HO1.out.below ((Below.refl _ _).alloc (Nat.le_refl _) _)) (some ⟨wr.heap.size, 0, none⟩) 1 1 [y] (by rfl) (by rfl) (by simp) isI_new (by rw [HM.out]; simp; omega) ?_; rw [HM.out]; intro a7 c7 T7 w7 hown7 hgo7 hat7; have hfin : Hid (OwnL 0 T7 w7 (.slice a7 (m + 1) c7) ((l.take k).eraseIdx k0 ++ [y]) ∧ Goes (· = 0) (fun _ => 1) w T7 w7) := ⟨hown7, HG1.out.trans ((Goes.below ((Below.refl _ _).alloc (Nat.le_refl _) _)).trans hgo7)⟩; clear hown7 hgo7 hat7))
          refine ⟨⟨k + 1, a7, m + 1, c7, by omega, by go_num, by simp, ?_⟩, by simp [intOf]; omega⟩
          show _ ∧ _
          rw [HY.out]
          exact ⟨by simp [HM.out], T7, hfin.out⟩
      · have ek : k = l.length := by omega
        subst ek
        have q2 : ¬ (l.length : Int) < (l.length : Int) := by omega
        have h1 := HO1.out
        rw [List.take_length] at h1
        obtain ⟨T2, g2, o2⟩ := own_new (T := T) (t + 1) hg1 h1
        have HF : Hid (LineAt t T2 (wr.setCell ⟨p, 0, none⟩ (.slice a1 m c1)) p (l.eraseIdx k0) ∧ Goes (fun x => x = t ∨ x = t + 1) T w T2 (wr.setCell ⟨p, 0, none⟩ (.slice a1 m c1))) := HH.out.put g2 o2
        clear hg1 h1 g2 o2
        go_wp2
        go_ret
        exact ⟨by simp [HX.out], T2, by rw [HK.out]; exact HF.out.1, HF.out.2⟩
  · have HX : Hid (¬ x ∈ l) := hx
    have q1 : plc l x < 0 := by
      have : ¬ 0 ≤ plc l x := fun z => hx (HP.1 z)
      omega
    clear hx HP
    go_enter Tryz.func12, Tryz.ntmps12
    go_wp2_with (go_at_call 37; refine (rat_any t T _ p l x HH.out (by omega)).mono ?_; rintro e w9 ⟨rfl, hw9⟩; have hw8 := hw9.symm; clear hw9; subst hw8)
    go_ret
    exact ⟨by simp [HX.out], T, by unfold leaveL; rw [if_neg HX.out]; exact HH.out, Goes.refl _ _ _⟩

end Lin
end Go.Proofs.YtpnomeggdhcbaaaGreatDoor
