import Derived.Test.YtpappjcbeibhiaaHp5
namespace Go.Proofs.Ytpappjcbeibhiaa
namespace Hp
open Go.RowKit Laws Irw
set_option linter.unusedVariables false
set_option maxRecDepth 100000
set_option linter.unusedSimpArgs false

theorem zeroI (w : World) : (zeroValue 3).run Try.prog w = .ok (.int .i64 0) w := by kernel_rfl
theorem goes_drew' {t : Nat → Prop} {T T' : Nat → Nat} {w w' : World} (h : Goes t T w T' w') : Goes t T w.drew T' w' := ⟨h.os, h.tape, h.output, h.size, h.block, h.tag, h.high⟩

theorem frozen_own {t : Nat} {T : Nat → Nat} {w : World} {g n c : Nat} {l : List Int} (h : OwnL t T w (.slice (some ⟨g, 0, none⟩) n c) l) (j : Nat) : w.frozen? ⟨g, j, none⟩ = false := by
  have h1 := h.1
  rw [← h.isI.2.1] at h1
  exact h1.frozenAt _

theorem sink_all {f : Int → Int → Int → Bool} (s : Nat) (T : Nat → Nat) (w : World) (h g B : Nat) (o : Int) (hL : Less g f) (hd : Dirs s T w h g B o) (gl n c : Nat) (l : List Int) (ho : OwnL s T w (.slice (some ⟨gl, 0, none⟩) n c) l) (hl : l.length ≤ 100000000000) :
    Calls Try.prog 25 #[.slice (some ⟨gl, 0, none⟩) n c, .func (.func 24) #[.pointer (some ⟨h, 0, none⟩)] #[]] w fun e w' => e = .returned (.tuple #[]) ∧ SinkIs (f o) s T w (.slice (some ⟨gl, 0, none⟩) n c) l w' := by
  have hn := ho.isI.2.1
  by_cases h0 : 0 < l.length
  · exact sink_any s T w h g B o hL hd gl n c l ho hn h0 hl
  · have hz : n = 0 := by omega
    subst hz
    refine (sink_nil w _ c _).mono ?_
    rintro e w' ⟨rfl, rfl⟩
    refine ⟨rfl, l, ho, Goes.refl _ _ _, List.Perm.refl _, fun _ _ i _ hi => ?_⟩
    omega

def PopIs (f : Int → Int → Bool) (t : Nat) (T : Nat → Nat) (w : World) (h g B : Nat) (o : Int) (l : List Int) (w' : World) : Prop :=
  ∃ T' l', HeapAt t T' w' h g B o l' ∧ Goes (fun x => x = t ∨ x = t + 1) T w T' w' ∧ (l.getD 0 0 :: l').Perm l ∧ (Ord f → Heapy f 0 l → Heapy f 0 l')

set_option maxHeartbeats 2000000 in
/-- POP of nothing. -/
theorem pop_none (t : Nat) (T : Nat → Nat) (w : World) (h g B : Nat) (o : Int) (p : HeapAt t T w h g B o []) :
    Calls Try.prog 15 #[.pointer (some ⟨h, 0, none⟩)] w fun e w' => e = .returned (.tuple #[.int .i64 0, .bool false]) ∧ w' = w := by
  go_enter Try.func15, Try.ntmps15
  go_wp2_with (go_at_call 13; refine (top_any t T _ h g B o [] p (by simp)).mono ?_; rintro e w9 ⟨rfl, hw9⟩; have hw8 := hw9.symm; clear hw9; subst hw8; simp only [List.getD_nil, List.length_nil, Nat.lt_irrefl, decide_false])
  go_ret2
  exact ⟨rfl, rfl⟩

set_option maxHeartbeats 4000000 in
/-- POP. -/
theorem pop_any {f : Int → Int → Int → Bool} (t : Nat) (T : Nat → Nat) (w : World) (h g B : Nat) (o : Int) (l : List Int) (hL : Less g f) (p : HeapAt t T w h g B o l) (h0 : 0 < l.length) (hlen : l.length ≤ 10000000000) :
    Calls Try.prog 15 #[.pointer (some ⟨h, 0, none⟩)] w fun e w' => e = .returned (.tuple #[.int .i64 (l.getD 0 0), .bool true]) ∧ PopIs (f o) t T w h g B o l w' := by
  obtain ⟨a, c, hc, ho, hi, hcap, hn⟩ := p.form
  obtain ⟨gl, rfl⟩ := OwnL.some ho h0
  obtain ⟨m, hm⟩ : ∃ m, l.length = m + 1 := ⟨l.length - 1, by omega⟩
  have HP : Hid (HeapAt t T w h g B o l) := p
  have HT : Hid (Calls Try.prog 13 #[.pointer (some ⟨h, 0, none⟩)] w fun e w' => e = .returned (.tuple #[.int .i64 (l.getD 0 0), .bool true]) ∧ w' = w) := by have := top_any t T w h g B o l p (by omega); rwa [decide_eq_true h0] at this
  have hr := IRow.of ho h0
  rw [hm] at hc ho hcap
  have HO : Hid (OwnL (t + 1) T w (.slice (some ⟨gl, 0, none⟩) (m + 1) c) l) := ho
  have HL : Hid (Less g f) := hL
  have HM : Hid (l.length = m + 1) := hm
  have hlt := p.dirs.lth
  have hf := p.free
  have hTg : T gl = t + 1 := ho.2 gl rfl
  have hTh : T h = t := p.tag
  have hne : ¬ gl = h := by rintro rfl; omega
  have hne' : ¬ h = gl := fun e => hne e.symm
  have c0 : w.cell? ⟨gl, 0, none⟩ = some (.int .i64 (l.getD 0 0)) := by have := hr.cell h0; simpa using this
  have cm : w.cell? ⟨gl, m, none⟩ = some (.int .i64 (l.getD m 0)) := by have := hr.cell (i := m) (by omega); simpa using this
  have f0 : w.frozen? ⟨gl, 0, none⟩ = false := frozen_own ho 0
  have hmf : ∀ (fn : Fn) (first cap : Array Value) (w : World), (Instr.makeFunc fn first cap).run Try.prog w = .ok (.func fn first cap) w := fun _ _ _ _ => rfl
  have q1 : IntKind.i64.wrap ((m : Int) + 1 - 1) = (m : Int) := by rw [IntWalk.i64_in _ (by omega)]; omega
  have q2 : (m : Int) < (m : Int) + 1 := by omega
  have q7 : wrap64 (m : Int) = (m : Int) := by unfold wrap64; omega
  have q8 : IntKind.i64.wrap (m : Int) = (m : Int) := IntWalk.i64_in _ (by omega)
  have q3 : (0 : Int) < (m : Int) + 1 := by omega
  have q4 : (m : Int) ≤ (c : Int) := by omega
  have q5 : ¬ c = m := by omega
  have q6 : ¬ c ≤ m := by omega
  have HCut : Hid ((l.set 0 (l.getD m 0)).take m = cutL 0 l) := by unfold cutL; rw [hm]; rfl
  have HSK : Hid (∀ W, Dirs (t + 1) T W h g B o → OwnL (t + 1) T W (.slice (some ⟨gl, 0, none⟩) m c) (cutL 0 l) → Calls Try.prog 25 #[.slice (some ⟨gl, 0, none⟩) m c, .func (.func 24) #[.pointer (some ⟨h, 0, none⟩)] #[]] W fun e w' => e = .returned (.tuple #[]) ∧ SinkIs (f o) (t + 1) T W (.slice (some ⟨gl, 0, none⟩) m c) (cutL 0 l) w') := fun W hd hW => sink_all (t + 1) T W h g B o hL hd gl m c _ hW (by rw [cutL_length]; omega)
  have hcm : (w.setCell ⟨gl, 0, none⟩ (.int .i64 (l.getD m 0))).cell? ⟨gl, m, none⟩ ≠ none := by
    have k1 := HO.out.set 0 (l.getD m 0) (by rw [hm])
    have k2 := (IRow.of k1 (by simp; omega)).cell (i := m) (by simp; omega)
    rw [Nat.zero_add] at k2
    rw [k2]; simp
  obtain ⟨w6, hcl, HX6, hc6, hf6⟩ : ∃ w6 : World, (∀ ty, (Builtin.clear_ #[38] ty #[.slice (some ⟨gl, m, none⟩) 1 (c - m)]).run Try.prog (w.setCell ⟨gl, 0, none⟩ (.int .i64 (l.getD m 0))).drew = .ok (.tuple #[]) w6) ∧ Hid (OwnL (t + 1) T w6 (.slice (some ⟨gl, 0, none⟩) m c) (cutL 0 l) ∧ Goes (· = t + 1) T w T w6) ∧ w6.cell? ⟨h, 1, none⟩ = some (.slice (some ⟨gl, 0, none⟩) (m + 1) c) ∧ w6.frozen? ⟨h, 1, none⟩ = false := by
    have k1 := HO.out.set 0 (l.getD m 0) (by rw [hm])
    have k2 := k1.set m 0 (by rw [List.length_set, hm])
    have g2 : Goes (· = t + 1) T w T ((w.setCell ⟨gl, 0, none⟩ (.int .i64 (l.getD m 0))).setCell ⟨gl, m, none⟩ (.int .i64 0)) := (Goes.setCell (t := (· = t + 1)) (T := T) (p := gl) hTg).trans (Goes.setCell (t := (· = t + 1)) (T := T) (p := gl) hTg)
    refine ⟨((w.setCell ⟨gl, 0, none⟩ (.int .i64 (l.getD m 0))).drew).setCell ⟨gl, m, none⟩ (.int .i64 0), fun ty => ?_, ⟨?_, g2.os, g2.tape, g2.output, g2.size, g2.block, g2.tag, g2.high⟩, ?_, ?_⟩
    · have hj1 : ∀ j, j < 1 → ((w.setCell ⟨gl, 0, none⟩ (.int .i64 (l.getD m 0))).drew.cell? ⟨gl, m + j, none⟩).isSome = true := by
        intro j hj
        have e : j = 0 := by omega
        subst e
        exact Option.isSome_iff_ne_none.2 hcm
      have hj2 : ∀ j, j < 1 → (w.setCell ⟨gl, 0, none⟩ (.int .i64 (l.getD m 0))).drew.frozen? ⟨gl, m + j, none⟩ = false := fun j _ => frozen_own k1 _
      exact Lib.run_clear_slice (P := Try.prog) (w.setCell ⟨gl, 0, none⟩ (.int .i64 (l.getD m 0))).drew 38 3 ty (.int .i64 0) Try.underlying38 zeroI rfl rfl gl m 1 (c - m) (by omega) hj1 hj2
    · have k3 := k2.cut (k := m) (by simp; omega)
      rw [List.take_set_of_le (Nat.le_refl _), HCut.out] at k3
      exact k3
    · exact (g2.cell hlt (by rw [hTh]; omega)).trans hc
    · exact (World.frozen?_of_block (a := ⟨h, 1, none⟩) (g2.block h hlt (by rw [hTh]; omega))).trans hf
  have HFIN : Hid (HeapAt t T (w6.setCell ⟨h, 1, none⟩ (.slice (some ⟨gl, 0, none⟩) m c)) h g B o (cutL 0 l) ∧ Goes (fun x => x = t ∨ x = t + 1) T w T (w6.setCell ⟨h, 1, none⟩ (.slice (some ⟨gl, 0, none⟩) m c))) := p.put HX6.out.2 HX6.out.1
  have HPM : Hid ((l.getD 0 0 :: cutL 0 l).Perm l) := cutL_perm 0 l h0
  have HC6 : Hid ((w6.setCell ⟨h, 1, none⟩ (.slice (some ⟨gl, 0, none⟩) m c)).cell? ⟨h, 1, none⟩ = some (.slice (some ⟨gl, 0, none⟩) m c)) := World.cell?_setCell_same _ _ _ hc6
  have HOW : Hid (OwnL (t + 1) T (w6.setCell ⟨h, 1, none⟩ (.slice (some ⟨gl, 0, none⟩) m c)) (.slice (some ⟨gl, 0, none⟩) m c) (cutL 0 l)) := HX6.out.1.goes (Goes.setCell (t := (· = t)) (T := T) (p := h) hTh) (by omega)
  have HPI : Hid (∀ W, PopIs (f o) t T w h g B o l W → PopIs (f o) t T w h g B o l W) := fun _ z => z
  have HEL : Hid (l.getD 0 0 = l.getD 0 0) := rfl
  clear p ho hL hr hm hcm
  obtain ⟨x, hx⟩ : ∃ x, l.getD 0 0 = x := ⟨_, rfl⟩
  have HXX : Hid (l.getD 0 0 = x) := hx
  rw [hx] at HT c0 ⊢
  clear hx HEL
  generalize l.getD m 0 = y at *
  go_enter Try.func15, Try.ntmps15
  go_wp2_with (go_at_call 13; refine HT.out.mono ?_; rintro e w9 ⟨rfl, hw9⟩; have hw8 := hw9.symm; clear hw9; subst hw8)
  go_region
  go_wp2_with (first
    | (simp only [hcl])
    | (go_at_call 25; go_loud (refine (HSK.out _ HFIN.out.1.dirs HOW.out).mono ?_; rintro e w7 ⟨rfl, l9, k1, k2, k3, k4⟩; have HF9 : Hid (PopIs (f o) t T w h g B o l w7) := ⟨T, l9, HFIN.out.1.turn HC6.out k2 k1, HFIN.out.2.trans (k2.mono fun x hx => .inr hx), (List.Perm.cons _ k3).trans HPM.out, fun ho hh => k4 ho (Dn.pop hh)⟩; clear k1 k2 k3 k4)))
  go_ret2
  exact ⟨rfl, HF9.out⟩

end Hp
end Go.Proofs.Ytpappjcbeibhiaa
