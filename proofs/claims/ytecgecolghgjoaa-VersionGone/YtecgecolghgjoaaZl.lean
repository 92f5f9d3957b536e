import Derived.Test.YtecgecolghgjoaaZk
import Derived.Deep.RegionWith
namespace Go.Proofs.Ytecgecolghgjoaa
namespace Vr
open Go.Shelf Go.RowKit Go.Lib Go.Sort Go.Maps Go.ChangeMaps Go.MapKept Laws Irw Crw
set_option linter.unusedVariables false
set_option linter.unusedSimpArgs false
set_option maxRecDepth 20000
theorem step_runA {P : Program} (w : World) {ops : Array Oper} {o : Oper} {a : Act} {C : Act → World → Prop} {Q : Exit → Act → World → Prop} {E : Prop} (hgd : o.guard = none) (s x : Operand) (t : TypeId)
    (ho : o.op = .call { callee := .builtin .append, args := #[s, x], argTypes := #[t, t] }) (v1 v2 v : Value) (w' : World) (hs : a.eval s = v1) (hx : a.eval x = v2) (hr : ∀ ty, (Builtin.append_ #[t, t] ty #[v1, v2]).run P w = .ok v w') (h : C (a.put o.dst v) w') :
    if Region.wanted o (yielded ops a.tmps) = true then Oper.wp P o a w C Q else E := by
  have hw : Region.wanted o (yielded ops a.tmps) = true := by simp [Region.wanted, hgd]
  rw [if_pos hw]
  unfold Oper.wp execOp
  simp only [ho, resolve, invoke, builtin, Sem.run_bind, Sem.run_pure, Result.andThen_ok, List.map_toArray, List.map_cons, List.map_nil, hs, hx, hr]
  exact h
def DlIs (T : Nat → Nat) (w : World) (G k c : Nat) (P : List Pn) (e : Ending) (w' : World) : Prop := e = .returned (.slice (some ⟨G, 0, none⟩) k c) ∧ OwnK kPn 6 T w' (.slice (some ⟨G, 0, none⟩) k c) P ∧ Goes (· = 6) T w T w'
set_option maxHeartbeats 2000000 in
theorem delete_any {T : Nat → Nat} {w : World} {G k c i : Nat} {P : List Pn} (hk : P.length = k + 1) (h : OwnK kPn 6 T w (.slice (some ⟨G, 0, none⟩) (k + 1) c) P) (hi : i ≤ k) (hk3 : k ≤ 1000) :
    Calls Try.prog 28 #[.slice (some ⟨G, 0, none⟩) (k + 1) c, .int .i64 (i : Int), .int .i64 ((i : Int) + 1)] w fun e w' => DlIs T w G k c (P.eraseIdx i) e w' := by
  have hsk := OwnK.sk (s := (some ⟨G, 0, none⟩, k + 1, c)) h
  have hkc : k + 1 ≤ c := by have := hsk.2.2.1; rw [hk] at this; exact this
  have HO : Hid (OwnK kPn 6 T w (.slice (some ⟨G, 0, none⟩) (k + 1) c) P ∧ P.length = k + 1) := ⟨h, hk⟩
  have hG := h.2 G rfl
  have HX : ∀ (a : Addr) (c2 : Nat), (i < k → a = ⟨G, (i + 1) * 2, none⟩) → ∃ w', (∀ ty, (Builtin.append_ #[67, 67] ty #[.slice (some ⟨G, 0, none⟩) i c, .slice (some a) (k - i) c2]).run Try.prog w.drew = .ok (.slice (some ⟨G, 0, none⟩) k c) w') ∧ OwnK kPn 6 T w' (.slice (some ⟨G, 0, none⟩) k c) (P.eraseIdx i) ∧ Goes (· = 6) T w T w' ∧ (∀ ty, (Builtin.clear_ #[67] ty #[.slice (some ⟨G, k * 2, none⟩) 1 (c - k)]).run Try.prog w' = .ok (.tuple #[]) (sets w' G (k * 2) [.pointer none, .int .i64 0])) := by
    intro a c2 ha
    obtain ⟨w', h1, h2, h3⟩ := app_fits hk (h.below (Below.refl _ _).drew) hi a c2 ha
    have hel : (P.eraseIdx i).length = k := by rw [List.length_eraseIdx_of_lt (by omega)]; omega
    refine ⟨w', h1, h2, (Goes.below (t := (· = 6)) (Below.refl _ _).drew).trans h3, fun ty => run_clearPn w' G (k * 2) (c - k) (fun j hj => ?_) (fun j hj => ?_) ty⟩
    · have h2r := h2.1
      rw [hel] at h2r
      obtain ⟨q1, q2 | ⟨g', cap, cur, hv, hb, hh, hc1, hc2, hc3, hc4⟩⟩ := h2r
      · cases q2.1
      · cases hv
        have : k * 2 + j < cur.size := by rw [hc3]; show k * 2 + j < c * 2; omega
        unfold World.cell?
        rw [hh]
        simp [this]
    · exact World.ownsRow.frozenAt (show w'.ownsRow 0 kPn.ty kPn.size (.slice (some ⟨G, 0, none⟩) k c) k (kPn.cells (P.eraseIdx i)) from by have := h2.1; rw [hel] at this; exact this) _
  have FIN : Hid (∀ w', OwnK kPn 6 T w' (.slice (some ⟨G, 0, none⟩) k c) (P.eraseIdx i) → Goes (· = 6) T w T w' → DlIs T w G k c (P.eraseIdx i) (.returned (.slice (some ⟨G, 0, none⟩) k c)) (sets w' G (k * 2) [.pointer none, .int .i64 0])) := fun w' h2 h3 => by
    have hel : (P.eraseIdx i).length = k := by rw [List.length_eraseIdx_of_lt (by omega)]; omega
    refine ⟨rfl, ⟨?_, h2.2⟩, h3.trans (Goes.sets (t := (· = 6)) (h2.2 G rfl) _ _ _)⟩
    obtain ⟨q1, q2 | ⟨g', cap, cur, hv, hb, hh, hc1, hc2, hc3, hc4⟩⟩ := h2.1
    · cases q2.1
    · rw [hel] at hv hc4 q1 ⊢
      cases hv
      refine ⟨q1, .inr ⟨G, c, (cur.setIfInBounds (k * 2) (.pointer none)).setIfInBounds (k * 2 + 1) (.int .i64 0), rfl, Nat.zero_le _, ?_, by omega, hc2, by simp [hc3], ?_⟩⟩
      · show ((w'.setCell ⟨G, k * 2, none⟩ (.pointer none)).setCell ⟨G, k * 2 + 1, none⟩ (.int .i64 0)).heap[G]? = _
        rw [setCell_eq, setCell_eq]
        show ((w'.heap.modify G (onCells _)).modify G (onCells _))[G]? = _
        rw [Array.getElem?_modify, if_pos rfl, Array.getElem?_modify, if_pos rfl, hh]
        rfl
      · rw [← hc4, Array.toList_setIfInBounds, Array.toList_setIfInBounds]
        rw [List.take_set_of_le (by show k * 2 ≤ k * 2 + 1; omega), List.take_set_of_le (by show k * 2 ≤ k * 2; omega)]
  have q1 : ¬ (i : Int) = (i : Int) + 1 := by omega
  have q2 : ((i : Int) == (i : Int) + 1) = false := beq_eq_false_iff_ne.2 q1
  have q3 : ¬ c = k := by omega
  have q4 : ¬ k + 1 = i := by omega
  have q5 : ¬ c = i := by omega
  by_cases hik : i < k
  · have q6 : ¬ c = i + 1 := by omega
    obtain ⟨m, hm⟩ : ∃ m, k = i + m := ⟨k - i, by omega⟩
    subst hm
    obtain ⟨w5, hap, ho5, hg5, hcl⟩ := HX ⟨G, (i + 1) * 2, none⟩ (c - (i + 1)) (fun _ => rfl)
    rw [show i + m - i = m by omega] at hap
    have q7 : i ≤ c := by omega
    have q11 : 0 ≤ (i : Int) + 1 := by omega
    have q12 : (i : Int) ≤ (i : Int) + (m : Int) := by omega
    have q8 : i + 1 ≤ c := by omega
    have q9 : i + 1 ≤ i + m + 1 := by omega
    have q10 : i + m + 1 - (i + 1) = m := by omega
    have HF : Hid (DlIs T w G  (i + m) c (P.eraseIdx i) (.returned (.slice (some ⟨G, 0, none⟩)  (i + m) c)) (sets w5 G ((i + m) * 2) [.pointer none, .int .i64 0])) := FIN.out _ ho5 hg5
    obtain ⟨W9, hW9⟩ : ∃ W, sets w5 G ((i + m) * 2) [.pointer none, .int .i64 0] = W := ⟨_, rfl⟩
    rw [hW9] at HF
    simp only [hW9] at hcl
    clear ho5 hg5 HX FIN h hk hsk hW9 HO
    go_enter Try.func28, Try.ntmps28
    go_wp2
    go_region_law (first | (refine step_runA _ (by rfl) (.tmp 22) (.tmp 25) 67 (by rfl) (.slice (some ⟨G, 0, none⟩) i c) (.slice (some ⟨G, (i + 1) * 2, none⟩) m (c - (i + 1))) (.slice (some ⟨G, 0, none⟩) (i + m) c) w5 (by rfl) (by rfl) hap ?_))
    all_goals
      go_wp2
      go_ret
      exact HF.out
  · obtain rfl : i = k := by omega
    have HOW : OwnK kPn 6 T w.drew (.slice (some ⟨G, 0, none⟩) i c) (P.eraseIdx i) ∧ Goes (· = 6) T w T w.drew ∧ (∀ ty, (Builtin.clear_ #[67] ty #[.slice (some ⟨G, i * 2, none⟩) 1 (c - i)]).run Try.prog w.drew = .ok (.tuple #[]) (sets w.drew G (i * 2) [.pointer none, .int .i64 0])) := by
      have hd := h.below (Below.refl _ _).drew
      have e1 : P.eraseIdx i = P.take i := by
        rw [← erase_is (by omega), List.drop_eq_nil_of_le (by omega), List.append_nil]
      refine ⟨by rw [e1]; exact ownK_cut hd (by omega), Goes.below (Below.refl _ _).drew, fun ty => run_clearPn _ G (i * 2) (c - i) (fun j hj => ?_) (fun j hj => ?_) ty⟩
      · have h2r := hd.1
        rw [hk] at h2r
        obtain ⟨q1, q2 | ⟨g', cap, cur, hv, hb, hh, hc1, hc2, hc3, hc4⟩⟩ := h2r
        · cases q2.1
        · cases hv
          have : i * 2 + j < cur.size := by rw [hc3]; show i * 2 + j < c * 2; omega
          unfold World.cell?
          rw [hh]
          simp [this]
      · exact World.ownsRow.frozenAt (show w.drew.ownsRow 0 kPn.ty kPn.size (.slice (some ⟨G, 0, none⟩) (i + 1) c) (i + 1) (kPn.cells P) from by have := hd.1; rw [hk] at this; exact this) _
    by_cases hc1 : c = i + 1
    · subst hc1
      rw [show i + 1 - i = 1 by omega] at HOW
      have HF : Hid (DlIs T w G i (i + 1) (P.eraseIdx i) (.returned (.slice (some ⟨G, 0, none⟩) i (i + 1))) (sets w.drew G (i * 2) [.pointer none, .int .i64 0])) := FIN.out _ HOW.1 HOW.2.1
      have hcl := HOW.2.2
      obtain ⟨W9, hW9⟩ : ∃ W, sets w.drew G (i * 2) [.pointer none, .int .i64 0] = W := ⟨_, rfl⟩
      rw [hW9] at HF
      simp only [hW9] at hcl
      clear HX FIN h hk hsk hW9 HO HOW
      go_enter Try.func28, Try.ntmps28
      go_wp2
      go_region
      all_goals
        go_wp2
        go_ret
        exact HF.out
    · have HF : Hid (DlIs T w G i c (P.eraseIdx i) (.returned (.slice (some ⟨G, 0, none⟩) i c)) (sets w.drew G (i * 2) [.pointer none, .int .i64 0])) := FIN.out _ HOW.1 HOW.2.1
      have hcl := HOW.2.2
      obtain ⟨W9, hW9⟩ : ∃ W, sets w.drew G (i * 2) [.pointer none, .int .i64 0] = W := ⟨_, rfl⟩
      rw [hW9] at HF
      simp only [hW9] at hcl
      clear HX FIN h hk hsk hW9 HO HOW
      go_enter Try.func28, Try.ntmps28
      go_wp2
      go_region
      all_goals
        go_wp2
        go_ret
        exact HF.out
end Vr
end Go.Proofs.Ytecgecolghgjoaa
