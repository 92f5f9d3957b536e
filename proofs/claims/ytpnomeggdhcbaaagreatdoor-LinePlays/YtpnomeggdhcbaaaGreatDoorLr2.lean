import Derived.Test.YtpnomeggdhcbaaaGreatDoorLr1
namespace Go.Proofs.YtpnomeggdhcbaaaGreatDoor
namespace Lin
open Go.RowKit Go.Shelf Laws Irw
set_option linter.unusedVariables false
set_option maxRecDepth 100000

theorem take_snoc {l : List Int} {k : Nat} (h : k < l.length) : l.take (k + 1) = l.take k ++ [l.getD k 0] := by
  rw [List.take_add_one, List.getElem?_eq_getElem h]
  simp [h]

set_option maxHeartbeats 1600000 in
/-- The document's line: All. -/
theorem rall_any (t : Nat) (T : Nat → Nat) (w : World) (p : Nat) (l : List Int) (h : LineAt t T w p l) (hlen : l.length ≤ 100000000000) :
    Calls Tryz.prog 15 #[.pointer (some ⟨p, 0, none⟩)] w fun e w' => ∃ a' c', e = .returned (.slice a' l.length c') ∧ IsI w' a' l ∧ Below w.heap.size w w' := by
  obtain ⟨i0, hi0, hz0, hz1, hz2⟩ := info_parts infoI
  obtain ⟨a, c, hc, ho, hi, _, hn⟩ := h.form
  have HA : Hid (IsI w a l) := hi
  have hlt := h.lt
  clear h ho hi
  go_enter Tryz.func15, Tryz.ntmps15
  go_wp2
  go_loopw [3, 4] (fun v i wr => ∃ (k : Nat) (a' : Option Addr) (c' : Nat), k ≤ l.length ∧ i = .int .i64 k ∧ v = .slice a' k c' ∧ Hid (∃ T', OwnL 0 T' wr (.slice a' k c') (l.take k) ∧ Goes (· = 0) (fun _ => 1) w T' wr)) (fun _ i _ => l.length - (intOf i).toNat)
  case atStart => exact ⟨0, none, 0, Nat.zero_le _, rfl, rfl, _, OwnL.nil _ _ _, Goes.refl _ _ _⟩
  case round =>
    obtain ⟨k, a1, c1, hk, rfl, rfl, HG⟩ := hrel
    obtain ⟨T1, ho1, hg1⟩ := HG.out
    have hc1 : wr.cell? ⟨p, 0, none⟩ = some (.slice a l.length c) := (hg1.cell hlt (by simp)).trans hc
    have HO1 : Hid (OwnL 0 T1 wr (.slice a1 k c1) (l.take k)) := ho1
    have HG1 : Hid (Goes (· = 0) (fun _ => 1) w T1 wr) := hg1
    have hsz := hg1.size
    clear HG ho1
    by_cases hk2 : k < l.length
    · obtain ⟨b, o, rfl, hr⟩ := HA.out.at_ (by omega)
      have c0 := (hr.keep (hg1.block b hr.1 (by simp)) hg1.size).cell hk2
      have q1 : (k : Int) < (l.length : Int) := by omega
      have HY : Hid (l.take (k + 1) = l.take k ++ [l.getD k 0]) := take_snoc hk2
      have hbl := hr.1
      have zb : ¬ b = wr.heap.size := by omega
      have el : (l.take k).length = k := by simp; omega
      have HEL : Hid ((l.take k).length = k) := el
      generalize l.getD k 0 = y at *
      clear hg1 hr el
      go_wp2_with (at_builtin; go_loud (refine wpList_appL _ (by rfl) (.tmp 14) (.tmp 22) 25 (by rfl) i0 Tryz.underlying25 hi0 hz0 hz1 hz2 0 T1 (.slice a1 k c1) (l.take k) (by rfl) (HO1.out.below ((Below.refl _ _).alloc (Nat.le_refl _) _)) (some ⟨wr.heap.size, 0, none⟩) 1 1 [y] (by rfl) (by rfl) (by simp) isI_new (by rw [HEL.out]; simp; omega) ?_; rw [HEL.out]; intro a7 c7 T7 w7 hown7 hgo7 hat7; have hfin : Hid (OwnL 0 T7 w7 (.slice a7 (k + 1) c7) (l.take k ++ [y]) ∧ Goes (· = 0) (fun _ => 1) w T7 w7) := ⟨hown7, HG1.out.trans ((Goes.below ((Below.refl _ _).alloc (Nat.le_refl _) _)).trans hgo7)⟩; clear hown7 hgo7 hat7))
      refine ⟨⟨k + 1, a7, c7, by omega, by go_num, by simp, T7, ?_⟩, by simp [intOf]; omega⟩
      rw [HY.out]
      exact hfin.out
    · have ek : k = l.length := by omega
      subst ek
      go_wp2
      go_ret
      have h1 := HO1.out
      rw [List.take_length] at h1
      exact ⟨a1, c1, rfl, h1.isI.1, hg1.os, hg1.tape, hg1.output, hg1.size, fun b hb => hg1.block b hb (by simp)⟩

set_option maxHeartbeats 1600000 in
/-- The document's line: Join. -/
theorem rjoin_any (t : Nat) (T : Nat → Nat) (w : World) (p : Nat) (l : List Int) (x : Int) (h : LineAt t T w p l) (hlen : l.length ≤ 100000000000) :
    Calls Tryz.prog 8 #[.pointer (some ⟨p, 0, none⟩), .int .i64 x] w fun e w' => e = .returned (.bool (decide (x ∉ l))) ∧ JoinIs t T w p l (joinL l x) w' := by
  obtain ⟨i0, hi0, hz0, hz1, hz2⟩ := info_parts infoI
  obtain ⟨a, c, hc, ho, hi, _, hn⟩ := h.form
  have HH : Hid (LineAt t T w p l) := h
  have HO : Hid (OwnL (t + 1) T w (.slice a l.length c) l) := ho
  have hlt := h.lt
  have hf := h.free
  have HP := plc_ge l x
  clear h ho
  by_cases hx : x ∈ l
  · have HX : Hid (x ∈ l) := hx
    have q1 : 0 ≤ plc l x := HP.2 hx
    clear hx HP
    have HR : Hid (∀ (n : Nat), n = n) := fun _ => rfl
    go_enter Tryz.func8, Tryz.ntmps8
    go_wp2_with (go_at_call 37; refine (rat_any t T _ p l x HH.out (by omega)).mono ?_; rintro e w9 ⟨rfl, hw9⟩; have hw8 := hw9.symm; clear hw9; subst hw8)
    go_ret
    exact ⟨by simp [HX.out], T, by unfold joinL; rw [if_pos HX.out]; exact HH.out, Goes.refl _ _ _⟩
  · have HX : Hid (¬ x ∈ l) := hx
    have q1 : ¬ 0 ≤ plc l x := fun z => hx (HP.1 z)
    clear hx HP
    go_enter Tryz.func8, Tryz.ntmps8
    go_wp2_with (first
      | (go_at_call 37; refine (rat_any t T _ p l x HH.out (by omega)).mono ?_; rintro e w9 ⟨rfl, hw9⟩; have hw8 := hw9.symm; clear hw9; subst hw8)
      | (at_builtin; go_loud (refine wpList_appL _ (by rfl) (.tmp 13) (.tmp 15) 25 (by rfl) i0 Tryz.underlying25 hi0 hz0 hz1 hz2 (t + 1) T (.slice a l.length c) l (by rfl) (HO.out.below ((Below.refl _ _).alloc (Nat.le_refl _) _)) (some ⟨w.heap.size, 0, none⟩) 1 1 [x] (by rfl) (by rfl) (by simp) isI_new (by simp; omega) ?_; intro a7 c7 T7 w7 hown7 hgo7 hat7; have hg' : Goes (· = t + 1) T w T7 w7 := (Goes.below ((Below.refl _ _).alloc (Nat.le_refl _) _)).trans hgo7; have hfin : Hid (LineAt t T7 (w7.setCell ⟨p, 0, none⟩ (.slice a7 (l.length + 1) c7)) p (l ++ [x]) ∧ Goes (fun x => x = t ∨ x = t + 1) T w T7 (w7.setCell ⟨p, 0, none⟩ (.slice a7 (l.length + 1) c7))) := HH.out.put hg' hown7; have hb := hg'.block p hlt (by rw [HH.out.tag]; omega); have hc7 : w7.cell? ⟨p, 0, none⟩ = some (.slice a l.length c) := (World.cell?_of_block (a := ⟨p, 0, none⟩) hb).trans hc; have hf7 : w7.frozen? ⟨p, 0, none⟩ = false := (World.frozen?_of_block (a := ⟨p, 0, none⟩) hb).trans hf; clear hg' hown7 hgo7 hat7 hb)))
    go_ret
    exact ⟨by simp [HX.out], T7, by unfold joinL; rw [if_neg HX.out]; exact hfin.out.1, hfin.out.2⟩

end Lin
end Go.Proofs.YtpnomeggdhcbaaaGreatDoor
