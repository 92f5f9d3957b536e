import Derived.Test.YtebfokjgeknciabGreatDoorPq1
namespace Go.Proofs.YtebfokjgeknciabGreatDoor
namespace Pcm
open Go.RowKit Laws Irw Lin
set_option linter.unusedVariables false
set_option linter.unusedSimpArgs false
set_option maxRecDepth 20000

theorem letsB_nil {l : List Int} {who : Int} (h : l.length = 0) : letsB l who = true := by unfold letsB; simp [h]
theorem letsB_cons {l : List Int} {who : Int} (h : ¬ l.length = 0) : letsB l who = (l.getD 0 0 == who) := by unfold letsB; simp [h]
theorem joinL_mem {l : List Int} {x : Int} (h : x ∈ l) : joinL l x = l := by unfold joinL; rw [if_pos h]
theorem joinL_new {l : List Int} {x : Int} (h : ¬ x ∈ l) : joinL l x = l ++ [x] := by unfold joinL; rw [if_neg h]
theorem not_mem_of {l : List Int} {x : Int} {n : Nat} (hn : n = l.length) (h : ∀ j, j < n → l.getD j 0 ≠ x) : ¬ x ∈ l := fun hm => by
  obtain ⟨j, hj, e⟩ := List.mem_iff_getElem.1 hm
  exact h j (by omega) (by simp [hj, e])

set_option maxHeartbeats 4000000 in
theorem rmay_any (t : Nat) (T : Nat → Nat) (w : World) (p : Nat) (rate burst tok : Int) (l : List Int) (who : Int) (h : RbAt t T w p rate burst tok l) (hlen : l.length ≤ 1000000000) :
    Calls Tryz.prog 27 #[.pointer (some ⟨p, 0, none⟩), .int .i64 who] w fun e w' => e = .returned (.bool (mayB tok l who)) ∧ RbIs t T w p rate burst tok (mayL tok l who) w' := by
  obtain ⟨i0, hi0, hz0, hz1, hz2⟩ := info_parts infoI
  have c2 := h.c2
  have hf := h.free 3
  have hpl := h.lt
  obtain ⟨a, c, c3, ho, hi, _, hn⟩ := h.form
  have HH : Hid (RbAt t T w p rate burst tok l) := h
  have HO : Hid (OwnL (t + 1) T w (.slice a l.length c) l) := ho
  have HI : Hid (IsI w a l) := hi
  clear h ho hi
  obtain ⟨N, hN⟩ : ∃ N, l.length = N := ⟨_, rfl⟩
  have HN : Hid (N = l.length) := hN.symm
  rw [hN] at c3 HO hlen
  clear hN
  by_cases h0 : 0 < tok
  · have h0' : decide (0 < tok) = true := by simpa using h0
    by_cases hl0 : N = 0
    · subst hl0
      have HE : Hid (mayB tok l who = true) := by show mayB tok l who = true; unfold mayB; rw [letsB_nil HN.out.symm]; simp [h0]
      go_enter Tryz.func27, Tryz.ntmps27
      go_wp2
      go_ret
      exact ⟨by rw [HE.out]; rfl, T, by unfold mayL; rw [if_pos HE.out]; exact HH.out, Goes.refl _ _ _⟩
    · have q0 : ¬ (N : Int) = 0 := by omega
      have q2 : (0 : Int) < N := by omega
      obtain ⟨b, off, ha, hr⟩ := HI.out.at_ (by rw [← HN.out]; omega)
      have ck0 := hr.cell (i := 0) (by rw [← HN.out]; omega)
      rw [Nat.add_zero] at ck0
      have HLB : Hid (letsB l who = (l.getD 0 0 == who)) := letsB_cons (by rw [← HN.out]; exact hl0)
      clear hr
      by_cases he : l.getD 0 0 = who
      · have HE : Hid (mayB tok l who = true) := by show mayB tok l who = true; unfold mayB; rw [HLB.out, he]; simp [h0]
        rw [he] at ck0
        subst ha
        clear he
        go_enter Tryz.func27, Tryz.ntmps27
        go_wp2
        go_ret
        exact ⟨by rw [HE.out]; rfl, T, by unfold mayL; rw [if_pos HE.out]; exact HH.out, Goes.refl _ _ _⟩
      · have he' : (l.getD 0 0 == who) = false := by simpa using he
        have HE : Hid (mayB tok l who = false) := by show mayB tok l who = false; unfold mayB; rw [HLB.out, he', Bool.and_false]
        obtain ⟨z0, hz0'⟩ : ∃ z, l.getD 0 0 = z := ⟨_, rfl⟩
        rw [hz0'] at ck0 he he'
        clear hz0' HLB
        subst ha
        go_enter Tryz.func27, Tryz.ntmps27
        go_wp2
        go_loop [5] (fun i => ∃ k : Nat, k ≤ N ∧ i = .int .i64 k ∧ ∀ j, j < k → l.getD j 0 ≠ who) (fun i => N - (intOf i).toNat)
        case atStart => exact ⟨0, by omega, rfl, fun j hj => by omega⟩
        case round =>
          obtain ⟨k, hk, rfl, hne⟩ := hrel
          have HNE : Hid (∀ j, j < k → l.getD j 0 ≠ who) := hne
          clear hne
          by_cases hlt : k < N
          · obtain ⟨b', off', e', hr⟩ := HI.out.at_ (by rw [← HN.out]; omega); simp only [Option.some.injEq, Addr.mk.injEq] at e'; obtain ⟨rfl, rfl, _⟩ := e'
            have ck := hr.cell (i := k) (by rw [← HN.out]; exact hlt)
            have q1 : (k : Int) < (N : Int) := by omega
            by_cases he : l.getD k 0 = who
            · have HM : Hid (who ∈ l) := by show who ∈ l; rw [← he]; have : k < l.length := by rw [← HN.out]; exact hlt
                                            simp [this]
              rw [he] at ck
              clear he hr
              go_wp2
              go_ret
              exact ⟨by rw [HE.out]; rfl, T, by unfold mayL; rw [if_neg (by rw [HE.out]; simp), joinL_mem HM.out]; exact HH.out, Goes.refl _ _ _⟩
            · have HX : Hid (l.getD k 0 ≠ who) := he
              have hx : ¬ l.getD k 0 = who := he
              clear he hr
              obtain ⟨z, hz⟩ : ∃ z, l.getD k 0 = z := ⟨_, rfl⟩
              rw [hz] at ck hx
              clear hz
              go_wp2
              go_round
              case rel =>
                refine ⟨k + 1, by omega, by go_num, fun j hj => ?_⟩
                by_cases e : j = k
                · subst e; exact HX.out
                · exact HNE.out j (by omega)
              case measure => simp [intOf]; omega
          · have HM : Hid (¬ who ∈ l) := not_mem_of HN.out (fun j hj => HNE.out j (by omega))
            go_wp2_with (at_builtin; go_loud (refine wpList_appL _ (by rfl) (.tmp 51) (.tmp 53) 33 (by rfl) i0 Tryz.underlying33 hi0 hz0 hz1 hz2 (t + 1) T (.slice (some ⟨b, off, none⟩) N c) l (by rfl) (HO.out.below ((Below.refl _ _).alloc (Nat.le_refl _) _)) (some ⟨w.heap.size, 0, none⟩) 1 1 [who] (by rfl) (by rfl) (by simp) isI_new (by have := HN.out; simp; omega) ?_; intro a7 c7 T7 w7 hown7 hgo7 hat7; have hg' : Goes (· = t + 1) T w T7 w7 := (Goes.below ((Below.refl _ _).alloc (Nat.le_refl _) _)).trans hgo7; have hfin : Hid (RbAt t T7 (w7.setCell ⟨p, 3, none⟩ (.slice a7 (l.length + 1) c7)) p rate burst tok (l ++ [who]) ∧ Goes (rbT t) T w T7 (w7.setCell ⟨p, 3, none⟩ (.slice a7 (l.length + 1) c7))) := HH.out.put hg' hown7; have hb := hg'.block p hpl (by rw [HH.out.tag]; omega); have hc7 : w7.cell? ⟨p, 3, none⟩ = some (.slice (some ⟨b, off, none⟩) N c) := (World.cell?_of_block (a := ⟨p, 3, none⟩) hb).trans c3; have hf7 : w7.frozen? ⟨p, 3, none⟩ = false := (World.frozen?_of_block (a := ⟨p, 3, none⟩) hb).trans hf; clear hg' hown7 hgo7 hat7 hb))
            go_ret
            exact ⟨by rw [HE.out]; rfl, T7, by unfold mayL; rw [if_neg (by rw [HE.out]; simp), joinL_new HM.out]; exact hfin.out.1, hfin.out.2⟩
  · have h0' : decide (0 < tok) = false := by simpa using h0
    have HE : Hid (mayB tok l who = false) := by show mayB tok l who = false; unfold mayB; simp [h0]
    go_enter Tryz.func27, Tryz.ntmps27
    go_wp2
    go_loop [5] (fun i => ∃ k : Nat, k ≤ N ∧ i = .int .i64 k ∧ ∀ j, j < k → l.getD j 0 ≠ who) (fun i => N - (intOf i).toNat)
    case atStart => exact ⟨0, by omega, rfl, fun j hj => by omega⟩
    case round =>
      obtain ⟨k, hk, rfl, hne⟩ := hrel
      have HNE : Hid (∀ j, j < k → l.getD j 0 ≠ who) := hne
      clear hne
      by_cases hlt : k < N
      · obtain ⟨b, off, rfl, hr⟩ := HI.out.at_ (by rw [← HN.out]; omega)
        have ck := hr.cell (i := k) (by rw [← HN.out]; exact hlt)
        have q1 : (k : Int) < (N : Int) := by omega
        by_cases he : l.getD k 0 = who
        · have HM : Hid (who ∈ l) := by show who ∈ l; rw [← he]; have : k < l.length := by rw [← HN.out]; exact hlt
                                        simp [this]
          rw [he] at ck
          clear he hr
          go_wp2
          go_ret
          exact ⟨by rw [HE.out]; rfl, T, by unfold mayL; rw [if_neg (by rw [HE.out]; simp), joinL_mem HM.out]; exact HH.out, Goes.refl _ _ _⟩
        · have HX : Hid (l.getD k 0 ≠ who) := he
          have hx : ¬ l.getD k 0 = who := he
          clear he hr
          obtain ⟨z, hz⟩ : ∃ z, l.getD k 0 = z := ⟨_, rfl⟩
          rw [hz] at ck hx
          clear hz
          go_wp2
          go_round
          case rel =>
            refine ⟨k + 1, by omega, by go_num, fun j hj => ?_⟩
            by_cases e : j = k
            · subst e; exact HX.out
            · exact HNE.out j (by omega)
          case measure => simp [intOf]; omega
      · have HM : Hid (¬ who ∈ l) := not_mem_of HN.out (fun j hj => HNE.out j (by omega))
        go_wp2_with (at_builtin; go_loud (refine wpList_appL _ (by rfl) (.tmp 51) (.tmp 53) 33 (by rfl) i0 Tryz.underlying33 hi0 hz0 hz1 hz2 (t + 1) T (.slice a N c) l (by rfl) (HO.out.below ((Below.refl _ _).alloc (Nat.le_refl _) _)) (some ⟨w.heap.size, 0, none⟩) 1 1 [who] (by rfl) (by rfl) (by simp) isI_new (by have := HN.out; simp; omega) ?_; intro a7 c7 T7 w7 hown7 hgo7 hat7; have hg' : Goes (· = t + 1) T w T7 w7 := (Goes.below ((Below.refl _ _).alloc (Nat.le_refl _) _)).trans hgo7; have hfin : Hid (RbAt t T7 (w7.setCell ⟨p, 3, none⟩ (.slice a7 (l.length + 1) c7)) p rate burst tok (l ++ [who]) ∧ Goes (rbT t) T w T7 (w7.setCell ⟨p, 3, none⟩ (.slice a7 (l.length + 1) c7))) := HH.out.put hg' hown7; have hb := hg'.block p hpl (by rw [HH.out.tag]; omega); have hc7 : w7.cell? ⟨p, 3, none⟩ = some (.slice a N c) := (World.cell?_of_block (a := ⟨p, 3, none⟩) hb).trans c3; have hf7 : w7.frozen? ⟨p, 3, none⟩ = false := (World.frozen?_of_block (a := ⟨p, 3, none⟩) hb).trans hf; clear hg' hown7 hgo7 hat7 hb))
        go_ret
        exact ⟨by rw [HE.out]; rfl, T7, by unfold mayL; rw [if_neg (by rw [HE.out]; simp), joinL_new HM.out]; exact hfin.out.1, hfin.out.2⟩

end Pcm
end Go.Proofs.YtebfokjgeknciabGreatDoor
