import Derived.Test.YtebfokjgeknciabLp4
namespace Go.Proofs.Ytebfokjgeknciab
namespace Lin
open Go.RowKit Go.Shelf Laws Irw
set_option linter.unusedVariables false
set_option maxRecDepth 100000

set_option maxHeartbeats 1600000 in
/-- LEAVE. -/
theorem leave_any (t : Nat) (T : Nat → Nat) (w : World) (p : Nat) (l : List Int) (x : Int) (h : LineAt t T w p l) (hlen : l.length ≤ 100000000000) :
    Calls Try.prog 25 #[.pointer (some ⟨p, 0, none⟩), .int .i64 x] w fun e w' => e = .returned (.bool (decide (x ∈ l))) ∧ JoinIs t T w p l (leaveL l x) w' := by
  obtain ⟨a, c, hc, ho, hi, _, hn⟩ := h.form
  have HH : Hid (LineAt t T w p l) := h
  have HO : Hid (OwnL (t + 1) T w (.slice a l.length c) l) := ho
  have hlt := h.lt
  have hf := h.free
  clear h ho
  by_cases hx : x ∈ l
  · have HX : Hid (x ∈ l) := hx
    obtain ⟨k, hk, hp, _, _⟩ := plc_some hx
    have HP : Hid (plc l x = k) := hp
    clear hp
    have hk0 : ¬ (k : Int) < 0 := by omega
    have hw1 : IntKind.i64.wrap ((k : Int) + 1) = (k : Int) + 1 := IntWalk.i64_in _ (by omega)
    clear hx
    go_enter Try.func25, Try.ntmps25
    go_wp2_with (first
      | (go_at_call 35; refine (index_any a c _ l x _ hi (by omega) rfl).mono ?_; rintro e w9 ⟨rfl, hw9⟩; have hw8 := hw9.symm; clear hw9; subst hw8; rw [HP.out])
      | (go_at_call 36; go_loud (refine (delete_any (t + 1) T _ (.slice a l.length c) l HO.out k hk (by omega) _ rfl).mono ?_; rintro e w7 ⟨v7, rfl, hown7, hg'⟩; obtain ⟨a7, c7, rfl, _⟩ := hown7.form; have hfin : Hid (LineAt t T (w7.setCell ⟨p, 0, none⟩ (.slice a7 (l.eraseIdx k).length c7)) p (l.eraseIdx k) ∧ Goes (fun x => x = t ∨ x = t + 1) T w T (w7.setCell ⟨p, 0, none⟩ (.slice a7 (l.eraseIdx k).length c7))) := HH.out.put hg' hown7; have hb := hg'.block p hlt (by rw [HH.out.tag]; omega); have hc7 : w7.cell? ⟨p, 0, none⟩ = some (.slice a l.length c) := (World.cell?_of_block (a := ⟨p, 0, none⟩) hb).trans hc; have hf7 : w7.frozen? ⟨p, 0, none⟩ = false := (World.frozen?_of_block (a := ⟨p, 0, none⟩) hb).trans hf; clear hg' hown7 hb)))
    go_ret
    exact ⟨by simp [HX.out], T, by unfold leaveL; rw [if_pos HX.out, HP.out, Int.toNat_natCast]; exact hfin.out.1, hfin.out.2⟩
  · have HX : Hid (¬ x ∈ l) := hx
    have HP : Hid (plc l x = -1) := plc_neg hx
    clear hx
    go_enter Try.func25, Try.ntmps25
    go_wp2_with (go_at_call 35; refine (index_any a c _ l x _ hi (by omega) rfl).mono ?_; rintro e w9 ⟨rfl, hw9⟩; have hw8 := hw9.symm; clear hw9; subst hw8; rw [HP.out])
    go_ret
    exact ⟨by simp [HX.out], T, by unfold leaveL; rw [if_neg HX.out]; exact HH.out, Goes.refl _ _ _⟩

set_option maxHeartbeats 1600000 in
/-- ALL: new memory. -/
theorem all_any (t : Nat) (T : Nat → Nat) (w : World) (p : Nat) (l : List Int) (h : LineAt t T w p l) (hlen : l.length ≤ 100000000000) :
    Calls Try.prog 26 #[.pointer (some ⟨p, 0, none⟩)] w fun e w' => ∃ a' c', e = .returned (.slice a' l.length c') ∧ w'.ownsRow w.heap.size 3 1 (.slice a' l.length c') l.length (cellsI l) ∧ Below w.heap.size w w' := by
  obtain ⟨i0, hi0, hz0, hz1, hz2⟩ := info_parts infoI
  obtain ⟨a, c, hc, ho, hi, _, hn⟩ := h.form
  clear h ho
  go_enter Try.func26, Try.ntmps26
  go_wp2_with (at_builtin; go_loud (refine wpList_appL _ (by rfl) (.const (.slice none 0 0)) (.tmp 6) 32 (by rfl) i0 Try.underlying32 hi0 hz0 hz1 hz2 0 (fun _ => 1) (.slice none 0 0) [] (by rfl) (OwnL.nil _ _ _) a l.length c l (by rfl) (by rfl) hn hi (by simp; omega) ?_; intro a7 c7 T7 w7 hown7 hgo7 hat7; have hfin : Hid (OwnL 0 T7 w7 (.slice a7 (0 + l.length) c7) l ∧ Goes (· = 0) (fun _ => 1) w T7 w7 ∧ ((Value.slice a7 (0 + l.length) c7).ownBlock = none ∨ (Value.slice a7 (0 + l.length) c7).ownBlock = some w.heap.size)) := ⟨hown7, hgo7, hat7⟩; clear hown7 hgo7 hat7))
  go_ret
  have e0 : 0 + l.length = l.length := Nat.zero_add _
  obtain ⟨h1, h2, h3⟩ := hfin.out
  rw [e0] at h1 h3
  refine ⟨a7, c7, by simp, ⟨h1.1.1, ?_⟩, h2.os, h2.tape, h2.output, h2.size, fun b hb => h2.block b hb (by simp)⟩
  rcases h1.1.2 with h4 | ⟨g, cap, cur, hv, _, hr⟩
  · exact .inl h4
  · refine .inr ⟨g, cap, cur, hv, ?_, hr⟩
    rw [hv] at h3
    simp [Value.ownBlock] at h3
    omega

end Lin
end Go.Proofs.Ytebfokjgeknciab
