import Derived.Test.YtodgomgacgoliaaBg2
namespace Go.Proofs.Ytodgomgacgoliaa
namespace Hp
open Go.RowKit Laws Irw
set_option linter.unusedVariables false
set_option maxRecDepth 100000
set_option linter.unusedSimpArgs false

theorem wrap64_nat {m : Nat} (h : m ≤ 100000000000) : wrap64 (m : Int) = (m : Int) := by unfold wrap64; omega
theorem i64_nat {m : Nat} (h : m ≤ 100000000000) : IntKind.i64.wrap (m : Int) = (m : Int) := IntWalk.i64_in _ (by omega)
theorem first_at {l : List Int} {x : Int} (h : x ∈ l) : ∃ k, k < l.length ∧ l.getD k 0 = x ∧ ∀ j, j < k → l.getD j 0 ≠ x := by
  induction l with
  | nil => simp at h
  | cons y r ih =>
    by_cases e : y = x
    · exact ⟨0, by simp, by simpa using e, fun j hj => by omega⟩
    · obtain ⟨k, h1, h2, h3⟩ := ih (by simpa [Ne.symm e] using h)
      refine ⟨k + 1, by simp; omega, by simpa using h2, fun j hj => ?_⟩
      cases j with
      | zero => simpa using e
      | succ j => simpa using h3 j (by omega)

set_option maxHeartbeats 4000000 in
/-- TAKE, of one that is there. -/
theorem take_any (t : Nat) (T : Nat → Nat) (w : World) (p : Nat) (o : Int) (l : List Int) (x : Int) (h : BagAt t T w p o l) (hx : x ∈ l) (hlen : l.length ≤ 100000000000) :
    Calls Try.prog 24 #[.pointer (some ⟨p, 0, none⟩), .int .i64 x] w fun e w' => e = .returned (.bool true) ∧ ∃ l', BagIs t T w p o l' w' ∧ (x :: l').Perm l := by
  obtain ⟨k0, hk0, hkx, hkn⟩ := first_at hx
  have HKN : Hid (l.getD k0 0 = x ∧ ∀ j, j < k0 → l.getD j 0 ≠ x) := ⟨hkx, hkn⟩
  clear hkx hkn hx
  have h0 : 0 < l.length := by omega
  obtain ⟨a, c, hc, ho, hi, hcap, hn⟩ := h.form
  obtain ⟨gl, rfl⟩ := OwnL.some ho h0
  obtain ⟨m, hm⟩ : ∃ m, l.length = m + 1 := ⟨l.length - 1, by omega⟩
  have hr : IRow w gl 0 l := IRow.of ho h0
  rw [hm] at hc ho hcap
  have HH : Hid (BagAt t T w p o l) := h
  have HO : Hid (OwnL (t + 1) T w (.slice (some ⟨gl, 0, none⟩) (m + 1) c) l) := ho
  have HR : Hid (IRow w gl 0 l) := hr
  have HM : Hid (l.length = m + 1) := hm
  have hlt := h.lt
  have hf := h.free
  have hTp : T p = t := h.tag
  have hTg : T gl = t + 1 := ho.2 gl rfl
  have hne : ¬ gl = p := by rintro rfl; omega
  have hne' : ¬ p = gl := fun e => hne e.symm
  have hkm : k0 < m + 1 := by omega
  have hml : m ≤ 100000000000 := by omega
  have g5 : Goes (· = t + 1) T w T (w.setCell ⟨gl, k0, none⟩ (.int .i64 (l.getD m 0))) := Goes.setCell (t := (· = t + 1)) (T := T) (p := gl) hTg
  have HX5 : Hid (OwnL (t + 1) T (w.setCell ⟨gl, k0, none⟩ (.int .i64 (l.getD m 0))) (.slice (some ⟨gl, 0, none⟩) m c) (takeB 0 l k0)) := by
    have k1 := HO.out.set k0 (l.getD m 0) (by rw [hm])
    have k3 := k1.cut (k := m) (by simp; omega)
    have e : takeB 0 l k0 = (l.set k0 (l.getD m 0)).take m := by unfold takeB; rw [hm]; rfl
    show OwnL _ _ _ _ _
    rw [e]
    exact k3
  have HFIN : Hid (BagAt t T ((w.setCell ⟨gl, k0, none⟩ (.int .i64 (l.getD m 0))).setCell ⟨p, 1, none⟩ (.slice (some ⟨gl, 0, none⟩) m c)) p o (takeB 0 l k0) ∧ Goes (fun x => x = t ∨ x = t + 1) T w T ((w.setCell ⟨gl, k0, none⟩ (.int .i64 (l.getD m 0))).setCell ⟨p, 1, none⟩ (.slice (some ⟨gl, 0, none⟩) m c))) := h.put g5 HX5.out
  have HPM : Hid ((x :: takeB 0 l k0).Perm l) := by have := takeB_perm 0 l k0 hk0; rwa [HKN.out.1] at this
  have cm : w.cell? ⟨gl, m, none⟩ = some (.int .i64 (l.getD m 0)) := by have := hr.cell (i := m) (by omega); simpa using this
  have fk : w.frozen? ⟨gl, k0, none⟩ = false := frozen_own ho _
  have q7 : wrap64 (m : Int) = (m : Int) := wrap64_nat hml
  have q8 : IntKind.i64.wrap (m : Int) = (m : Int) := i64_nat hml
  have q1 : IntKind.i64.wrap ((m : Int) + 1 - 1) = (m : Int) := by rw [Int.add_sub_cancel]; exact q8
  have q4 : (m : Int) ≤ (c : Int) := by omega
  clear h ho hr hm g5 HX5
  generalize l.getD m 0 = y at *
  go_enter Try.func24, Try.ntmps24
  go_wp2
  go_loopw [5] (fun i wr => ∃ k : Nat, k ≤ k0 ∧ i = .int .i64 (k : Int) ∧ wr = w) (fun i _ => k0 + 1 - (intOf i).toNat)
  case atStart => exact ⟨0, Nat.zero_le _, rfl, rfl⟩
  case round =>
    obtain ⟨k, hk, rfl, hwr⟩ := hrel
    have hw2 := hwr.symm
    clear hwr
    subst hw2
    have ck : w.cell? ⟨gl, k, none⟩ = some (.int .i64 (l.getD k 0)) := by have := HR.out.cell (i := k) (by rw [HM.out]; omega); simpa using this
    have d1 : (k : Int) < (m : Int) + 1 := by omega
    by_cases hkk : k = k0
    · subst hkk
      rw [HKN.out.1] at ck
      go_wp2
      go_region
      go_wp2
      go_region
      go_wp2
      go_ret
      exact ⟨rfl, takeB 0 l k, ⟨T, ⟨HFIN.out.1.tag, HFIN.out.1.lt, HFIN.out.1.ord, HFIN.out.1.free, HFIN.out.1.at_⟩, goes_drew (goes_drew HFIN.out.2)⟩, HPM.out⟩
    · have hnx : ¬ l.getD k 0 = x := HKN.out.2 k (by omega)
      have w4 : IntKind.i64.wrap ((k : Int) + 1) = (k : Int) + 1 := IntWalk.i64_in _ (by omega)
      generalize l.getD k 0 = z at *
      go_wp2
      go_roundw
      case rel => exact ⟨k + 1, by omega, by go_num, by first | trivial | rfl⟩
      case measure => simp [intOf]; omega

end Hp
end Go.Proofs.Ytodgomgacgoliaa
