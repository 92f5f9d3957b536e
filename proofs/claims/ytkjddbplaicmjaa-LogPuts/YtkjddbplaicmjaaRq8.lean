import Derived.Test.YtkjddbplaicmjaaRq7
import Derived.Test.YtkjddbplaicmjaaVp2
import Derived.Test.YtkjddbplaicmjaaRp1
import Derived.Test.YtkjddbplaicmjaaSam
import Derived.Test.YtkjddbplaicmjaaSg1
namespace Go.Proofs.Ytkjddbplaicmjaa
namespace Rq
open Go.RowKit Laws Irw Crw Grp
set_option linter.unusedVariables false
set_option linter.unusedSimpArgs false
set_option maxRecDepth 100000
theorem GZ.isG {w : World} {a : Option Addr} {gs : List (List Wr)} (h : GZ w a gs) : IsG w a gs := by
  obtain ⟨vs, h1, h2, h3⟩ := h
  exact ⟨vs, h1, h2, fun i v ws hv hw => ⟨(h3 i v ws hv hw).1, (h3 i v ws hv hw).2.1⟩⟩
/-- What was lent is the groups. -/
theorem Ro.lent {w0 w : World} {R : Nat} {vs fs : List Sv} {gs : List (List Wr)} {f a : Option Addr} {d : Nat} (h : Ro w R vs fs gs f d) (hg : GZ w0 a gs) : IsG w f gs := by
  obtain ⟨us, h1, h2, h3⟩ := hg
  have hl : fs.length = gs.length + 40 := h.fl.ln
  refine ⟨fs.take gs.length, by rw [List.length_take]; omega, fun hne => ?_, fun i v ws hv hw => ?_⟩
  · obtain ⟨b, off, e, hr⟩ := h.full.at_ (by omega)
    refine ⟨b, off, e, hr.1, fun i x hx j u hu => hr.2 i x ?_ j u hu⟩
    have hi := (List.getElem?_eq_some_iff.1 hx).1
    rw [List.length_take] at hi
    rw [List.getElem?_take_of_lt (by omega)] at hx
    exact hx
  · have hi := (List.getElem?_eq_some_iff.1 hw).1
    rw [List.getElem?_take_of_lt hi] at hv
    obtain ⟨q1, b, q2, _, q4⟩ := h.fl.ok i v ws hv (by rw [List.getElem?_append_left hi]; exact hw)
    have hu : us[i]? = some (us[i]'(by omega)) := List.getElem?_eq_getElem (by omega)
    obtain ⟨_, p2, _⟩ := h3 i _ ws hu hw
    exact ⟨q1, fun _ => ⟨b, 0, q2, wr_of q4⟩, p2.2.1, p2.2.2⟩
/-- A new room. -/
abbrev roomZ : Obj := .cells #[.slice none 0 0, .slice none 0 0, .slice none 0 0, .slice none 0 0, .slice none 0 0, .slice none 0 0, .slice none 0 0, .slice none 0 0, .slice none 0 0, .slice none 0 0, .slice none 0 0, .slice none 0 0, .slice none 0 0, .slice none 0 0, .slice none 0 0, .slice none 0 0, .slice none 0 0, .slice none 0 0, .slice none 0 0, .slice none 0 0, .slice none 0 0, .slice none 0 0, .slice none 0 0, .slice none 0 0, .slice none 0 0, .slice none 0 0, .slice none 0 0, .slice none 0 0] 41
theorem room_new (w : World) : Rm (Irw.upd (fun _ => 0) w.heap.size 1) (w.alloc roomZ) w.heap.size [] [] := by
  have hc : ∀ j, j < 28 → (w.alloc roomZ).cell? ⟨w.heap.size, j, none⟩ = some (.slice none 0 0) := by
    intro j hj
    rw [World.cell?_alloc_at _ _ _ _ rfl]
    rcases (show j = 0 ∨ j = 1 ∨ j = 2 ∨ j = 3 ∨ j = 4 ∨ j = 5 ∨ j = 6 ∨ j = 7 ∨ j = 8 ∨ j = 9 ∨ j = 10 ∨ j = 11 ∨ j = 12 ∨ j = 13 ∨ j = 14 ∨ j = 15 ∨ j = 16 ∨ j = 17 ∨ j = 18 ∨ j = 19 ∨ j = 20 ∨ j = 21 ∨ j = 22 ∨ j = 23 ∨ j = 24 ∨ j = 25 ∨ j = 26 ∨ j = 27 by omega) with rfl | rfl | rfl | rfl | rfl | rfl | rfl | rfl | rfl | rfl | rfl | rfl | rfl | rfl | rfl | rfl | rfl | rfl | rfl | rfl | rfl | rfl | rfl | rfl | rfl | rfl | rfl | rfl
    all_goals rfl
  have hf : ∀ j, (w.alloc roomZ).frozen? ⟨w.heap.size, j, none⟩ = false := fun j => World.frozen?_alloc_at _ _ _ _ rfl
  exact ⟨by simp, upd_same _ _ _, ⟨_, hc 12 (by omega), OwnK.empty _ _ _⟩, ⟨_, hc 13 (by omega), OwnL.nil _ _ _⟩, fun j q _ _ => hc j q, hf, rfl, fun i v g hv => by simp at hv⟩
set_option maxHeartbeats 1000000 in
theorem groups_any (w : World) (a : Option Addr) (cap n : Nat) (gs : List (List Wr)) (hn : n = gs.length) (hi : GZ w a gs) (hl : n ≤ 100000) (hw : ∀ ws ∈ gs, ws.length ≤ 100000) :
    Calls Try.prog 6 #[.pointer (some ⟨w.heap.size, 0, none⟩), .slice a n cap] (w.alloc roomZ) fun e w' => LgIs w w.heap.size gs n e w' := by
  have HN : Hid (n = gs.length) := hn
  have HI : Hid (GZ w a gs) := hi
  have HW : Hid (∀ ws ∈ gs, ws.length ≤ 100000) := hw
  clear hn hi hw
  go_enter Try.func6, Try.ntmps6
  go_wp2_with fail
  refine (layGroups_any (Irw.upd (fun _ => 0) w.heap.size 1) w _ w.heap.size a cap n gs (room_new w) (fun b hb => upd_other _ _ (by simp at hb; omega)) (fun b hb => upd_other _ _ (by omega)) ((Below.refl _ _).alloc (Nat.le_refl _) _) HN.out HI.out hl HW.out).mono ?_
  rintro e w1 ⟨b, d, vs, fs, rfl, hr, hb⟩
  have HF : Hid (Ro w1 w.heap.size vs fs gs (some ⟨b, 0, none⟩) d ∧ Below w.heap.size w w1) := ⟨hr, hb⟩
  clear hr hb
  go_wp2_with fail
  go_ret
  exact ⟨b, d, vs, fs, rfl, HF.out.1, HF.out.2⟩
theorem bulk_ws (ws : List Wr) : ws.length ≤ bulkS ws := by
  induction ws with
  | nil => simp [bulkS]
  | cons x ws ih =>
    simp only [bulkS, List.map_cons, List.sum_cons, List.length_cons] at ih ⊢
    have : 1 ≤ bulkW x := by unfold bulkW; omega
    omega
theorem bulk_in {gs : List (List Wr)} {ws : List Wr} (h : ws ∈ gs) : bulkS ws ≤ (gs.map bulkS).sum := by
  induction gs with
  | nil => cases h
  | cons x gs ih =>
    simp only [List.map_cons, List.sum_cons]
    rcases List.mem_cons.1 h with rfl | h
    · omega
    · have := ih h
      omega
end Rq
end Go.Proofs.Ytkjddbplaicmjaa
