import Derived.Test.YtebfokjgeknciabGreatDoorPq2
namespace Go.Proofs.YtebfokjgeknciabGreatDoor
namespace Pcm
open Go.RowKit Laws Irw Lin
set_option linter.unusedVariables false
set_option linter.unusedSimpArgs false
set_option maxRecDepth 20000

/-- What was made anew gets any tag. -/
theorem own_anew {w w' : World} {T T' : Nat → Nat} {v : Value} {l : List Int} (s : Nat) (hg : Goes (· = 0) (fun _ => 1) w T' w') (ho : OwnL 0 T' w' v l) : ∃ T'', Goes (· = s) T w T'' w' ∧ OwnL s T'' w' v l := by
  refine ⟨fun b => if w.heap.size ≤ b ∧ b < w'.heap.size then s else T b, ⟨hg.os, hg.tape, hg.output, hg.size, fun b hb _ => hg.block b hb (by simp), fun b hb _ => if_neg (by omega), fun b hb h0 => by rw [if_neg (by omega)]; exact h0⟩, ho.1, fun g hv => ?_⟩
  have h1 := (ho.1.lt g hv).2
  have h2 : w.heap.size ≤ g := by
    by_cases h : g < w.heap.size
    · have h3 := hg.tag g h (by simp)
      rw [ho.2 g hv] at h3
      omega
    · omega
  exact if_pos ⟨h2, h1⟩
/-- who is left when somebody leaves -/
def leaveF (l : List Int) (x : Int) : List Int := l.filter fun z => z != x
theorem leaveF_yes {l : List Int} {k : Nat} {x : Int} (hk : k < l.length) (h : l.getD k 0 ≠ x) : leaveF (l.take (k + 1)) x = leaveF (l.take k) x ++ [l.getD k 0] := by
  have e : l.getD k 0 = l[k] := by simp [hk]
  unfold leaveF
  rw [List.take_succ_eq_append_getElem hk, List.filter_append, e]
  rw [e] at h
  simp [List.filter_cons, h]
theorem leaveF_no {l : List Int} {k : Nat} {x : Int} (hk : k < l.length) (h : l.getD k 0 = x) : leaveF (l.take (k + 1)) x = leaveF (l.take k) x := by
  have e : l.getD k 0 = l[k] := by simp [hk]
  unfold leaveF
  rw [List.take_succ_eq_append_getElem hk, List.filter_append]
  rw [e] at h
  simp [List.filter_cons, h]
theorem leaveF_len {l : List Int} {k : Nat} {x : Int} (hk : k ≤ l.length) : (leaveF (l.take k) x).length ≤ k := by
  have h1 := List.length_filter_le (fun z : Int => z != x) (l.take k)
  have h2 : (l.take k).length = k := by simp; omega
  unfold leaveF
  omega
/-- it is what the program's line does, where nobody stands twice -/
theorem leaveF_eq {l : List Int} {x : Int} (hd : l.Nodup) : leaveF l x = leaveL l x := by
  unfold leaveF leaveL
  by_cases hx : x ∈ l
  · rw [if_pos hx]
    obtain ⟨k, hk, hp, hg, hn⟩ := plc_some hx
    rw [hp, Int.toNat_natCast, erase_eq]
    have e : l[k] = x := by simpa [hk] using hg
    have e1 : l = l.take k ++ x :: l.drop (k + 1) := by
      conv => lhs; rw [← List.take_append_drop k l]
      rw [List.drop_eq_getElem_cons hk, e]
    have ht : (l.take k).filter (fun z => z != x) = l.take k := by
      rw [List.filter_eq_self]
      intro z hz
      obtain ⟨j, hj, rfl⟩ := List.mem_iff_getElem.1 hz
      have hj2 : j < k ∧ j < l.length := by simp at hj; omega
      have := hn j hj2.1
      simpa [hj2.2] using this
    have hdr : (l.drop (k + 1)).filter (fun z => z != x) = l.drop (k + 1) := by
      rw [List.filter_eq_self]
      intro z hz
      obtain ⟨j, hj, rfl⟩ := List.mem_iff_getElem.1 hz
      simp at hj
      have := List.pairwise_iff_getElem.1 hd k (k + 1 + j) hk (by omega) (by omega)
      rw [e] at this
      simp
      exact fun h => this h.symm
    conv => lhs; rw [e1]
    rw [List.filter_append, ht, List.filter_cons_of_neg (by simp), hdr]
  · rw [if_neg hx, List.filter_eq_self]
    intro z hz
    simp
    intro e
    exact hx (e ▸ hz)

set_option maxHeartbeats 3200000 in
theorem rbleave_any (t : Nat) (T : Nat → Nat) (w : World) (p : Nat) (rate burst tok : Int) (l : List Int) (x : Int) (h : RbAt t T w p rate burst tok l) (hlen : l.length ≤ 1000000000) :
    Calls Tryz.prog 30 #[.pointer (some ⟨p, 0, none⟩), .int .i64 x] w fun e w' => e = .returned (.tuple #[]) ∧ RbIs t T w p rate burst tok (leaveF l x) w' := by
  obtain ⟨i0, hi0, hz0, hz1, hz2⟩ := info_parts infoI
  obtain ⟨a, c, hc, ho, hi, _, hn⟩ := h.form
  have HH : Hid (RbAt t T w p rate burst tok l) := h
  have HA : Hid (IsI w a l) := hi
  have hlt := h.lt
  have hf := h.free 3
  clear h ho hi
  go_enter Tryz.func30, Tryz.ntmps30
  go_wp2
  go_loopw [4, 5] (fun v i wr => ∃ (k : Nat) (a' : Option Addr) (m c' : Nat), k ≤ l.length ∧ i = .int .i64 k ∧ v = .slice a' m c' ∧ Hid (m = (leaveF (l.take k) x).length ∧ ∃ T', OwnL 0 T' wr (.slice a' m c') (leaveF (l.take k) x) ∧ Goes (· = 0) (fun _ => 1) w T' wr)) (fun _ i _ => l.length - (intOf i).toNat)
  case atStart => exact ⟨0, none, 0, 0, Nat.zero_le _, rfl, rfl, by simp [leaveF], _, by simpa [leaveF] using OwnL.nil _ _ _, Goes.refl _ _ _⟩
  case round =>
    obtain ⟨k, a1, m, c1, hk, rfl, rfl, HG⟩ := hrel
    obtain ⟨hm, T1, ho1, hg1⟩ := HG.out
    have hc1 : wr.cell? ⟨p, 3, none⟩ = some (.slice a l.length c) := (hg1.cell hlt (by simp)).trans hc
    have hf1 : wr.frozen? ⟨p, 3, none⟩ = false := (World.frozen?_of_block (a := ⟨p, 3, none⟩) (hg1.block p hlt (by simp))).trans hf
    have HO1 : Hid (OwnL 0 T1 wr (.slice a1 m c1) (leaveF (l.take k) x)) := ho1
    have HG1 : Hid (Goes (· = 0) (fun _ => 1) w T1 wr) := hg1
    have HM : Hid ((leaveF (l.take k) x).length = m) := hm.symm
    have hmk : m ≤ k := hm ▸ leaveF_len hk
    have hsz := hg1.size
    have hlr : p < wr.heap.size := by omega
    clear HG ho1 hm
    by_cases hk2 : k < l.length
    · have q2 : (k : Int) < (l.length : Int) := by omega
      obtain ⟨b, o, rfl, hr⟩ := HA.out.at_ (by omega)
      have c0 := (hr.keep (hg1.block b hr.1 (by simp)) hg1.size).cell hk2
      have hbl := hr.1
      have zb : ¬ b = wr.heap.size := by omega
      by_cases hkk : l.getD k 0 = x
      · have HE : Hid (leaveF (l.take (k + 1)) x = leaveF (l.take k) x) := leaveF_no hk2 hkk
        rw [hkk] at c0
        clear hg1 hr hkk
        go_wp2
        refine ⟨⟨k + 1, a1, m, c1, by omega, by go_num, rfl, ?_⟩, by simp [intOf]; omega⟩
        show _ ∧ _
        rw [HE.out]
        exact ⟨HM.out.symm, T1, HO1.out, HG1.out⟩
      · have HY : Hid (leaveF (l.take (k + 1)) x = leaveF (l.take k) x ++ [l.getD k 0]) := leaveF_yes hk2 hkk
        generalize l.getD k 0 = y at *
        clear hg1 hr
        go_wp2_with (at_builtin; go_loud (refine wpList_appL _ (by rfl) (.tmp 24) (.tmp 32) 33 (by rfl) i0 Tryz.underlying33 hi0 hz0 hz1 hz2 0 T1 (.slice a1 m c1) (leaveF (l.take k) x) (by rfl) (HO1.out.below ((Below.refl _ _).alloc (Nat.le_refl _) _)) (some ⟨wr.heap.size, 0, none⟩) 1 1 [y] (by rfl) (by rfl) (by simp) isI_new (by rw [HM.out]; simp; omega) ?_; rw [HM.out]; intro a7 c7 T7 w7 hown7 hgo7 hat7; have hfin : Hid (OwnL 0 T7 w7 (.slice a7 (m + 1) c7) (leaveF (l.take k) x ++ [y]) ∧ Goes (· = 0) (fun _ => 1) w T7 w7) := ⟨hown7, HG1.out.trans ((Goes.below ((Below.refl _ _).alloc (Nat.le_refl _) _)).trans hgo7)⟩; clear hown7 hgo7 hat7))
        refine ⟨⟨k + 1, a7, m + 1, c7, by omega, by go_num, by simp, ?_⟩, by simp [intOf]; omega⟩
        show _ ∧ _
        rw [HY.out]
        exact ⟨by simp [HM.out], T7, hfin.out⟩
    · have ek : k = l.length := by omega
      subst ek
      have q2 : ¬ (l.length : Int) < (l.length : Int) := by omega
      have h1 := HO1.out
      rw [List.take_length] at h1
      obtain ⟨T2, g2, o2⟩ := own_anew (T := T) (t + 1) hg1 h1
      have HF : Hid (RbAt t T2 (wr.setCell ⟨p, 3, none⟩ (.slice a1 m c1)) p rate burst tok (leaveF l x) ∧ Goes (rbT t) T w T2 (wr.setCell ⟨p, 3, none⟩ (.slice a1 m c1))) := HH.out.put g2 o2
      clear hg1 h1 g2 o2
      go_wp2
      exact bodyPost_end (results_none Tryz.results30 _ _ _) rfl ⟨rfl, T2, HF.out.1, HF.out.2⟩

set_option maxHeartbeats 2000000 in
theorem rtake_any (t : Nat) (T : Nat → Nat) (w : World) (p : Nat) (rate burst tok : Int) (l : List Int) (who n : Int) (h : RbAt t T w p rate burst tok l) (hlen : l.length ≤ 1000000000) (hn : R64 n) :
    Calls Tryz.prog 28 #[.pointer (some ⟨p, 0, none⟩), .int .i64 who, .int .i64 n] w fun e w' => e = .returned (.tuple #[]) ∧ RbIs t T w p rate burst (takeV tok n) (leaveF l who) w' := by
  have c2 := h.c2
  have hf := h.free 2
  have HH : Hid (RbAt t T w p rate burst tok l) := h
  have HR3 : Hid (R64 tok) := h.r3
  have HN : Hid (R64 (-(max n 0))) := by unfold R64 at hn; show R64 _; unfold R64; omega
  have hn0 : 0 ≤ max n 0 ∧ max n 0 ≤ 9223372036854775807 := by unfold R64 at hn; omega
  clear h hn
  have HW : Hid (∀ V, Below w.heap.size w V → RbAt t T (V.setCell ⟨p, 2, none⟩ (.int .i64 (takeV tok n))) p rate burst (takeV tok n) l ∧ Goes (rbT t) T w T (V.setCell ⟨p, 2, none⟩ (.int .i64 (takeV tok n)))) := fun V hb => by
    have hs := (HH.out.below hb).set (x := takeV tok n) (sadd_r _ _)
    exact ⟨hs.1, (Goes.below hb).trans hs.2⟩
  obtain ⟨m, hm⟩ : ∃ m, max n 0 = m := ⟨_, rfl⟩
  have HX : Hid (sadd tok (-m) = takeV tok n) := by show _ = _; rw [← hm]; rfl
  have HCn : ∀ V, Calls Tryz.prog 24 #[.int .i64 n] V fun e w' => e = .returned (.int .i64 m) ∧ w' = V := fun V => by rw [← hm]; exact above_any n V
  rw [hm] at HN hn0
  clear hm
  have q1 : IntKind.i64.wrap (-m) = -m := IntWalk.i64_in _ (by omega)
  go_enter Tryz.func28, Tryz.ntmps28
  go_wp2
  go_cut [0, 1] (fun v0 v1 w' => v0 = .pointer (some ⟨p, 0, none⟩) ∧ v1 = .int .i64 who ∧ Hid (RbAt t T w' p rate burst (takeV tok n) l ∧ Goes (rbT t) T w T w'))
  case first =>
    go_region_with (first | (go_at_call 24; refine (HCn _).mono ?_; rintro e w9 ⟨rfl, hw9⟩; have hw8 := hw9.symm; clear hw9; subst hw8) | (go_at_call 6; refine (radd_any tok (-m) HR3.out HN.out _).mono ?_; rintro e w9 ⟨rfl, hw9⟩; have hw8 := hw9.symm; clear hw9; subst hw8))
    all_goals (
      go_wp2
      go_meet
      case rel =>
        rw [HX.out]
        have hf := HW.out w (Below.refl _ _)
        exact ⟨rfl, rfl, hf.1.below (Below.refl _ _).drew, hf.2.trans (Goes.below (Below.refl _ _).drew)⟩)
  case rest =>
    obtain ⟨rfl, rfl, HF2⟩ := hcut
    rename World => w3
    go_wp2_with (go_at_call 30; refine (rbleave_any t T w3 p rate burst (takeV tok n) l who HF2.out.1 hlen).mono ?_; rintro e w7 ⟨rfl, T7, hk7, hg7⟩; have HF : Hid (RbAt t T7 w7 p rate burst (takeV tok n) (leaveF l who) ∧ Goes (rbT t) T w T7 w7) := ⟨hk7, HF2.out.2.trans hg7⟩; clear hk7 hg7)
    exact bodyPost_end (results_none Tryz.results28 _ _ _) rfl ⟨rfl, T7, HF.out.1, HF.out.2⟩

end Pcm
end Go.Proofs.YtebfokjgeknciabGreatDoor
