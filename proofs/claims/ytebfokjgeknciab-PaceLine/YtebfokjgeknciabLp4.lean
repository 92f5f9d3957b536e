import Derived.Test.YtebfokjgeknciabLp3
namespace Go.Proofs.Ytebfokjgeknciab
namespace Lin
open Go.RowKit Go.Shelf Laws Irw
set_option linter.unusedVariables false
set_option maxRecDepth 100000

theorem infoI : (Try.prog.info? 3).map (fun i => (i.zero, i.size, i.bytes)) = some (some (.int .i64 0), 1, 8) := by kernel_rfl

def joinL (l : List Int) (x : Int) : List Int := if x ∈ l then l else l ++ [x]
def leaveL (l : List Int) (x : Int) : List Int := if x ∈ l then l.eraseIdx (plc l x).toNat else l
def JoinIs (t : Nat) (T : Nat → Nat) (w : World) (p : Nat) (l l' : List Int) (w' : World) : Prop := ∃ T', LineAt t T' w' p l' ∧ Goes (fun x => x = t ∨ x = t + 1) T w T' w'

theorem isI_new {w : World} {x : Int} {u : TypeId} : IsI (w.alloc (.cells #[.int .i64 x] u)) (some ⟨w.heap.size, 0, none⟩) [x] := by
  refine IsI.of ⟨by simp, fun i z hz => ?_⟩
  rw [World.cell?_alloc_at _ _ _ _ rfl]
  cases i with
  | zero => simp at hz; subst hz; rfl
  | succ i => simp at hz

set_option maxHeartbeats 1600000 in
/-- JOIN. -/
theorem join_any (t : Nat) (T : Nat → Nat) (w : World) (p : Nat) (l : List Int) (x : Int) (h : LineAt t T w p l) (hlen : l.length ≤ 100000000000) :
    Calls Try.prog 24 #[.pointer (some ⟨p, 0, none⟩), .int .i64 x] w fun e w' => e = .returned (.bool (decide (x ∉ l))) ∧ JoinIs t T w p l (joinL l x) w' := by
  obtain ⟨i0, hi0, hz0, hz1, hz2⟩ := info_parts infoI
  obtain ⟨a, c, hc, ho, hi, _, hn⟩ := h.form
  have HH : Hid (LineAt t T w p l) := h
  have HO : Hid (OwnL (t + 1) T w (.slice a l.length c) l) := ho
  have hlt := h.lt
  have hf := h.free
  clear h ho
  by_cases hx : x ∈ l
  · have HX : Hid (x ∈ l) := hx
    have hcx : l.contains x = true := by simp [hx]
    clear hx
    go_enter Try.func24, Try.ntmps24
    go_wp2_with (go_at_call 34; refine (contains_any a c _ l x _ hi (by omega) rfl).mono ?_; rintro e w9 ⟨rfl, hw9⟩; have hw8 := hw9.symm; clear hw9; subst hw8)
    go_ret
    exact ⟨by simp [HX.out], T, by unfold joinL; rw [if_pos HX.out]; exact HH.out, Goes.refl _ _ _⟩
  · have HX : Hid (¬ x ∈ l) := hx
    have hcx : l.contains x = false := by simp [hx]
    clear hx
    go_enter Try.func24, Try.ntmps24
    go_wp2_with (first
      | (go_at_call 34; refine (contains_any a c _ l x _ hi (by omega) rfl).mono ?_; rintro e w9 ⟨rfl, hw9⟩; have hw8 := hw9.symm; clear hw9; subst hw8)
      | (at_builtin; go_loud (refine wpList_appL _ (by rfl) (.tmp 15) (.tmp 17) 32 (by rfl) i0 Try.underlying32 hi0 hz0 hz1 hz2 (t + 1) T (.slice a l.length c) l (by rfl) (HO.out.below ((Below.refl _ _).alloc (Nat.le_refl _) _)) (some ⟨w.heap.size, 0, none⟩) 1 1 [x] (by rfl) (by rfl) (by simp) isI_new (by simp; omega) ?_; intro a7 c7 T7 w7 hown7 hgo7 hat7; have hg' : Goes (· = t + 1) T w T7 w7 := (Goes.below ((Below.refl _ _).alloc (Nat.le_refl _) _)).trans hgo7; have hfin : Hid (LineAt t T7 (w7.setCell ⟨p, 0, none⟩ (.slice a7 (l.length + 1) c7)) p (l ++ [x]) ∧ Goes (fun x => x = t ∨ x = t + 1) T w T7 (w7.setCell ⟨p, 0, none⟩ (.slice a7 (l.length + 1) c7))) := HH.out.put hg' hown7; have hb := hg'.block p hlt (by rw [HH.out.tag]; omega); have hc7 : w7.cell? ⟨p, 0, none⟩ = some (.slice a l.length c) := (World.cell?_of_block (a := ⟨p, 0, none⟩) hb).trans hc; have hf7 : w7.frozen? ⟨p, 0, none⟩ = false := (World.frozen?_of_block (a := ⟨p, 0, none⟩) hb).trans hf; clear hg' hown7 hgo7 hat7 hb)))
    go_ret
    exact ⟨by simp [HX.out], T7, by unfold joinL; rw [if_neg HX.out]; exact hfin.out.1, hfin.out.2⟩

end Lin
end Go.Proofs.Ytebfokjgeknciab
