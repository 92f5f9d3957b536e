import Derived.Test.YtecgecolghgjoaaVf
import Derived.Deep.OwnRows
import Derived.RegionTactic
import Derived.ChangeAlike
import Derived.BigRegion
namespace Go.Proofs.Ytecgecolghgjoaa
namespace Vr
open Go.RowKit Go.Maps Go.ChangeMaps Go.MapKept Laws Irw Crw
set_option linter.unusedVariables false
set_option linter.unusedSimpArgs false
set_option maxRecDepth 20000
/-- the tags of a new set -/
def setT (sb mb : Nat) : Nat → Nat := upd (upd (fun _ => 0) mb 2) sb 1
theorem cells_nil (n : Nat) : kS.cells (List.replicate n nS) = List.replicate n (Value.slice none 0 0) := by
  induction n with
  | zero => rfl
  | succ n ih => rw [List.replicate_succ, Knd.cells, ih]; rfl
theorem new_done {w w' : World} (n sb vb lb pb mb : Nat) (h5 : n ≤ 5) (hs : w'.heap[sb]? = some (Obj.cells #[.pointer (some ⟨vb, 0, none⟩), .slice none 0 0, .slice (some ⟨pb, 0, none⟩) n n, .map (some mb)] 69)) (hv : w'.heap[vb]? = some (Obj.cells #[.slice (some ⟨lb, 0, none⟩) n n] 65))
    (hl : w'.heap[lb]? = some (Obj.cells (madeCells #[.slice none 0 0] n) 58)) (hm : w'.heap[mb]? = some (Obj.map #[] 0)) (hb : Below w.heap.size w w') (hg : w.heap.size ≤ sb ∧ w.heap.size ≤ mb) : SAt (setT sb mb) w' sb vb mb (List.replicate n []) ∧ Old w (setT sb mb) w' := by
  have e1 : vb ≠ sb := by rintro rfl; rw [hs] at hv; simp at hv
  have e2 : vb ≠ mb := by rintro rfl; rw [hm] at hv; simp at hv
  have e3 : lb ≠ sb := by rintro rfl; rw [hs] at hl; simp at hl
  have e4 : lb ≠ mb := by rintro rfl; rw [hm] at hl; simp at hl
  have e5 : mb ≠ sb := by rintro rfl; rw [hs] at hm; simp at hm
  have zs := Zb.heap hs
  have zv := Zb.heap hv
  have zl := Zb.heap hl
  rw [toList_madeCells_one] at zl
  have tl : setT sb mb lb = 0 := by unfold setT; rw [upd_other _ _ e3, upd_other _ _ e4]
  have tv : setT sb mb vb = 0 := by unfold setT; rw [upd_other _ _ e1, upd_other _ _ e2]
  have hsl := zs.1
  have hml := (Array.getElem?_eq_some_iff.1 hm).1
  refine ⟨⟨by unfold setT; rw [upd_same], by unfold setT; rw [upd_other _ _ e5, upd_same], ⟨(some ⟨pb, 0, none⟩, n, n), zs⟩, ⟨⟨by simpa using h5, fun l hl => ?_⟩, tv, ⟨_, _, hv⟩, (some ⟨lb, 0, none⟩, n, n), zv, by simp, List.replicate n nS, by simp, ⟨?_, by simp, by simp, by simp, .inr ⟨_, _, rfl⟩, fun b off e => ?_⟩, fun i v l hv hl => ?_⟩, 0, .map [], ?_⟩, ⟨hb, fun b hb => ?_⟩⟩
  · simp at hl
    rw [hl.2]; simp
  · refine IsK.of ⟨zl.1, fun i e he j u hu => ?_⟩
    have hin : i < n := by have := (List.getElem?_eq_some_iff.1 he).1; simpa using this
    rw [List.getElem?_replicate_of_lt hin] at he
    cases he
    have hj : j = 0 := by have := (List.getElem?_eq_some_iff.1 hu).1; simp [kS] at this; omega
    subst hj
    simp [kS, nS] at hu
    subst hu
    refine zl.2.1 _ _ ?_
    simp [kS, hin]
  · cases e
    exact ⟨tl, zl.1⟩
  · have hin : i < n := by have := (List.getElem?_eq_some_iff.1 hv).1; simpa using this
    rw [List.getElem?_replicate_of_lt hin] at hv hl
    cases hv
    cases hl
    exact ⟨IsK.nil _ _, rfl, fun _ => rfl, Nat.le_refl _, .inl rfl, fun b off e => by cases e⟩
  · exact ⟨#[], 0, hm, ⟨by simp, stamped_empty 0, by simp⟩, Nat.le_refl _, rfl⟩
  · unfold setT
    rw [upd_other _ _ (by omega), upd_other _ _ (by omega)]
/-- what New answers -/
def NwIs (w : World) (n : Nat) (e : Ending) (w' : World) : Prop := ∃ sb vb mb, e = .returned (.pointer (some ⟨sb, 0, none⟩)) ∧ SAt (setT sb mb) w' sb vb mb (List.replicate n []) ∧ Old w (setT sb mb) w'
set_option maxHeartbeats 4000000 in
theorem new_any (n : Nat) (w : World) (h1 : 1 ≤ n) (h5 : n ≤ 5) : Calls Try.prog 6 #[.int .i64 (n : Int)] w fun e w' => NwIs w n e w' := by
  have k1 := run_make_row' (P := Try.prog) 63 58 (.slice none 0 0) 24 Try.underlying63 infoS rfl .i64 .i64 n (by omega) (by omega)
  have k2 := run_make_row' (P := Try.prog) 36 9 (.string ⟨#[]⟩) 16 Try.underlying36 infoT rfl .i64 .i64 n (by omega) (by omega)
  have k3 := @run_makeMap Try.prog
  have al : ∀ (W : World) (o : Obj) (b : Nat), (W.alloc o).heap[b]? = if b = W.heap.size then some o else W.heap[b]? := fun W o b => (by show (W.heap.push o)[b]? = _; rw [Array.getElem?_push])
  have sz : ∀ (W : World) (o : Obj), (W.alloc o).heap.size = W.heap.size + 1 := fun W o => (by show (W.heap.push o).size = _; rw [Array.size_push])
  have dr : ∀ (W : World), W.drew.heap = W.heap := fun W => rfl
  have q1 : max (n : Int) 1 = n := by omega
  have q2 : min (n : Int) 5 = n := by omega
  go_enter Try.func6, Try.ntmps6
  go_wp2
  go_region
  all_goals go_wp2
  all_goals go_ret
  all_goals
    first
    | (refine ⟨_, w.heap.size + 1, w.heap.size + 1 + 1 + 1, rfl, new_done n (w.heap.size + 1 + 1 + 1 + 1) (w.heap.size + 1) (w.heap.size) (w.heap.size + 1 + 1) (w.heap.size + 1 + 1 + 1) h5 ?_ ?_ ?_ ?_ ?_ ?_⟩; (focus (rw [dr]; simp only [al, sz]; (repeat' split) <;> first | rfl | (exfalso; omega) | (exfalso; simp_all; done))); (focus (rw [dr]; simp only [al, sz]; (repeat' split) <;> first | rfl | (exfalso; omega) | (exfalso; simp_all; done))); (focus (rw [dr]; simp only [al, sz]; (repeat' split) <;> first | rfl | (exfalso; omega) | (exfalso; simp_all; done))); (focus (rw [dr]; simp only [al, sz]; (repeat' split) <;> first | rfl | (exfalso; omega) | (exfalso; simp_all; done))); (focus exact (((((((Below.refl _ _).alloc (Nat.le_refl _) _).alloc (by simp) _).alloc (by simp; omega) _).alloc (by simp; omega) _).alloc (by simp; omega) _).drew)); omega)
    | (refine ⟨_, w.heap.size + 1, w.heap.size + 1 + 1, rfl, new_done n (w.heap.size + 1 + 1 + 1 + 1) (w.heap.size + 1) (w.heap.size) (w.heap.size + 1 + 1 + 1) (w.heap.size + 1 + 1) h5 ?_ ?_ ?_ ?_ ?_ ?_⟩; (focus (rw [dr]; simp only [al, sz]; (repeat' split) <;> first | rfl | (exfalso; omega) | (exfalso; simp_all; done))); (focus (rw [dr]; simp only [al, sz]; (repeat' split) <;> first | rfl | (exfalso; omega) | (exfalso; simp_all; done))); (focus (rw [dr]; simp only [al, sz]; (repeat' split) <;> first | rfl | (exfalso; omega) | (exfalso; simp_all; done))); (focus (rw [dr]; simp only [al, sz]; (repeat' split) <;> first | rfl | (exfalso; omega) | (exfalso; simp_all; done))); (focus exact (((((((Below.refl _ _).alloc (Nat.le_refl _) _).alloc (by simp) _).alloc (by simp; omega) _).alloc (by simp; omega) _).alloc (by simp; omega) _).drew)); omega)
    | (refine ⟨_, w.heap.size + 1 + 1, w.heap.size + 1 + 1 + 1, rfl, new_done n (w.heap.size + 1 + 1 + 1 + 1) (w.heap.size + 1 + 1) (w.heap.size) (w.heap.size + 1) (w.heap.size + 1 + 1 + 1) h5 ?_ ?_ ?_ ?_ ?_ ?_⟩; (focus (rw [dr]; simp only [al, sz]; (repeat' split) <;> first | rfl | (exfalso; omega) | (exfalso; simp_all; done))); (focus (rw [dr]; simp only [al, sz]; (repeat' split) <;> first | rfl | (exfalso; omega) | (exfalso; simp_all; done))); (focus (rw [dr]; simp only [al, sz]; (repeat' split) <;> first | rfl | (exfalso; omega) | (exfalso; simp_all; done))); (focus (rw [dr]; simp only [al, sz]; (repeat' split) <;> first | rfl | (exfalso; omega) | (exfalso; simp_all; done))); (focus exact (((((((Below.refl _ _).alloc (Nat.le_refl _) _).alloc (by simp) _).alloc (by simp; omega) _).alloc (by simp; omega) _).alloc (by simp; omega) _).drew)); omega)
    | (refine ⟨_, w.heap.size + 1 + 1 + 1, w.heap.size + 1 + 1, rfl, new_done n (w.heap.size + 1 + 1 + 1 + 1) (w.heap.size + 1 + 1 + 1) (w.heap.size) (w.heap.size + 1) (w.heap.size + 1 + 1) h5 ?_ ?_ ?_ ?_ ?_ ?_⟩; (focus (rw [dr]; simp only [al, sz]; (repeat' split) <;> first | rfl | (exfalso; omega) | (exfalso; simp_all; done))); (focus (rw [dr]; simp only [al, sz]; (repeat' split) <;> first | rfl | (exfalso; omega) | (exfalso; simp_all; done))); (focus (rw [dr]; simp only [al, sz]; (repeat' split) <;> first | rfl | (exfalso; omega) | (exfalso; simp_all; done))); (focus (rw [dr]; simp only [al, sz]; (repeat' split) <;> first | rfl | (exfalso; omega) | (exfalso; simp_all; done))); (focus exact (((((((Below.refl _ _).alloc (Nat.le_refl _) _).alloc (by simp) _).alloc (by simp; omega) _).alloc (by simp; omega) _).alloc (by simp; omega) _).drew)); omega)
    | (refine ⟨_, w.heap.size + 1 + 1, w.heap.size + 1, rfl, new_done n (w.heap.size + 1 + 1 + 1 + 1) (w.heap.size + 1 + 1) (w.heap.size) (w.heap.size + 1 + 1 + 1) (w.heap.size + 1) h5 ?_ ?_ ?_ ?_ ?_ ?_⟩; (focus (rw [dr]; simp only [al, sz]; (repeat' split) <;> first | rfl | (exfalso; omega) | (exfalso; simp_all; done))); (focus (rw [dr]; simp only [al, sz]; (repeat' split) <;> first | rfl | (exfalso; omega) | (exfalso; simp_all; done))); (focus (rw [dr]; simp only [al, sz]; (repeat' split) <;> first | rfl | (exfalso; omega) | (exfalso; simp_all; done))); (focus (rw [dr]; simp only [al, sz]; (repeat' split) <;> first | rfl | (exfalso; omega) | (exfalso; simp_all; done))); (focus exact (((((((Below.refl _ _).alloc (Nat.le_refl _) _).alloc (by simp) _).alloc (by simp; omega) _).alloc (by simp; omega) _).alloc (by simp; omega) _).drew)); omega)
    | (refine ⟨_, w.heap.size + 1 + 1 + 1, w.heap.size + 1, rfl, new_done n (w.heap.size + 1 + 1 + 1 + 1) (w.heap.size + 1 + 1 + 1) (w.heap.size) (w.heap.size + 1 + 1) (w.heap.size + 1) h5 ?_ ?_ ?_ ?_ ?_ ?_⟩; (focus (rw [dr]; simp only [al, sz]; (repeat' split) <;> first | rfl | (exfalso; omega) | (exfalso; simp_all; done))); (focus (rw [dr]; simp only [al, sz]; (repeat' split) <;> first | rfl | (exfalso; omega) | (exfalso; simp_all; done))); (focus (rw [dr]; simp only [al, sz]; (repeat' split) <;> first | rfl | (exfalso; omega) | (exfalso; simp_all; done))); (focus (rw [dr]; simp only [al, sz]; (repeat' split) <;> first | rfl | (exfalso; omega) | (exfalso; simp_all; done))); (focus exact (((((((Below.refl _ _).alloc (Nat.le_refl _) _).alloc (by simp) _).alloc (by simp; omega) _).alloc (by simp; omega) _).alloc (by simp; omega) _).drew)); omega)
    | (refine ⟨_, w.heap.size + 1 + 1, w.heap.size + 1 + 1 + 1, rfl, new_done n (w.heap.size + 1 + 1 + 1 + 1) (w.heap.size + 1 + 1) (w.heap.size + 1) (w.heap.size) (w.heap.size + 1 + 1 + 1) h5 ?_ ?_ ?_ ?_ ?_ ?_⟩; (focus (rw [dr]; simp only [al, sz]; (repeat' split) <;> first | rfl | (exfalso; omega) | (exfalso; simp_all; done))); (focus (rw [dr]; simp only [al, sz]; (repeat' split) <;> first | rfl | (exfalso; omega) | (exfalso; simp_all; done))); (focus (rw [dr]; simp only [al, sz]; (repeat' split) <;> first | rfl | (exfalso; omega) | (exfalso; simp_all; done))); (focus (rw [dr]; simp only [al, sz]; (repeat' split) <;> first | rfl | (exfalso; omega) | (exfalso; simp_all; done))); (focus exact (((((((Below.refl _ _).alloc (Nat.le_refl _) _).alloc (by simp) _).alloc (by simp; omega) _).alloc (by simp; omega) _).alloc (by simp; omega) _).drew)); omega)
    | (refine ⟨_, w.heap.size + 1 + 1 + 1, w.heap.size + 1 + 1, rfl, new_done n (w.heap.size + 1 + 1 + 1 + 1) (w.heap.size + 1 + 1 + 1) (w.heap.size + 1) (w.heap.size) (w.heap.size + 1 + 1) h5 ?_ ?_ ?_ ?_ ?_ ?_⟩; (focus (rw [dr]; simp only [al, sz]; (repeat' split) <;> first | rfl | (exfalso; omega) | (exfalso; simp_all; done))); (focus (rw [dr]; simp only [al, sz]; (repeat' split) <;> first | rfl | (exfalso; omega) | (exfalso; simp_all; done))); (focus (rw [dr]; simp only [al, sz]; (repeat' split) <;> first | rfl | (exfalso; omega) | (exfalso; simp_all; done))); (focus (rw [dr]; simp only [al, sz]; (repeat' split) <;> first | rfl | (exfalso; omega) | (exfalso; simp_all; done))); (focus exact (((((((Below.refl _ _).alloc (Nat.le_refl _) _).alloc (by simp) _).alloc (by simp; omega) _).alloc (by simp; omega) _).alloc (by simp; omega) _).drew)); omega)
    | (refine ⟨_, w.heap.size + 1 + 1 + 1, w.heap.size + 1, rfl, new_done n (w.heap.size + 1 + 1 + 1 + 1) (w.heap.size + 1 + 1 + 1) (w.heap.size + 1 + 1) (w.heap.size) (w.heap.size + 1) h5 ?_ ?_ ?_ ?_ ?_ ?_⟩; (focus (rw [dr]; simp only [al, sz]; (repeat' split) <;> first | rfl | (exfalso; omega) | (exfalso; simp_all; done))); (focus (rw [dr]; simp only [al, sz]; (repeat' split) <;> first | rfl | (exfalso; omega) | (exfalso; simp_all; done))); (focus (rw [dr]; simp only [al, sz]; (repeat' split) <;> first | rfl | (exfalso; omega) | (exfalso; simp_all; done))); (focus (rw [dr]; simp only [al, sz]; (repeat' split) <;> first | rfl | (exfalso; omega) | (exfalso; simp_all; done))); (focus exact (((((((Below.refl _ _).alloc (Nat.le_refl _) _).alloc (by simp) _).alloc (by simp; omega) _).alloc (by simp; omega) _).alloc (by simp; omega) _).drew)); omega)
    | (refine ⟨_, w.heap.size + 1 + 1, w.heap.size, rfl, new_done n (w.heap.size + 1 + 1 + 1 + 1) (w.heap.size + 1 + 1) (w.heap.size + 1) (w.heap.size + 1 + 1 + 1) (w.heap.size) h5 ?_ ?_ ?_ ?_ ?_ ?_⟩; (focus (rw [dr]; simp only [al, sz]; (repeat' split) <;> first | rfl | (exfalso; omega) | (exfalso; simp_all; done))); (focus (rw [dr]; simp only [al, sz]; (repeat' split) <;> first | rfl | (exfalso; omega) | (exfalso; simp_all; done))); (focus (rw [dr]; simp only [al, sz]; (repeat' split) <;> first | rfl | (exfalso; omega) | (exfalso; simp_all; done))); (focus (rw [dr]; simp only [al, sz]; (repeat' split) <;> first | rfl | (exfalso; omega) | (exfalso; simp_all; done))); (focus exact (((((((Below.refl _ _).alloc (Nat.le_refl _) _).alloc (by simp) _).alloc (by simp; omega) _).alloc (by simp; omega) _).alloc (by simp; omega) _).drew)); omega)
    | (refine ⟨_, w.heap.size + 1 + 1 + 1, w.heap.size, rfl, new_done n (w.heap.size + 1 + 1 + 1 + 1) (w.heap.size + 1 + 1 + 1) (w.heap.size + 1) (w.heap.size + 1 + 1) (w.heap.size) h5 ?_ ?_ ?_ ?_ ?_ ?_⟩; (focus (rw [dr]; simp only [al, sz]; (repeat' split) <;> first | rfl | (exfalso; omega) | (exfalso; simp_all; done))); (focus (rw [dr]; simp only [al, sz]; (repeat' split) <;> first | rfl | (exfalso; omega) | (exfalso; simp_all; done))); (focus (rw [dr]; simp only [al, sz]; (repeat' split) <;> first | rfl | (exfalso; omega) | (exfalso; simp_all; done))); (focus (rw [dr]; simp only [al, sz]; (repeat' split) <;> first | rfl | (exfalso; omega) | (exfalso; simp_all; done))); (focus exact (((((((Below.refl _ _).alloc (Nat.le_refl _) _).alloc (by simp) _).alloc (by simp; omega) _).alloc (by simp; omega) _).alloc (by simp; omega) _).drew)); omega)
    | (refine ⟨_, w.heap.size + 1 + 1 + 1, w.heap.size, rfl, new_done n (w.heap.size + 1 + 1 + 1 + 1) (w.heap.size + 1 + 1 + 1) (w.heap.size + 1 + 1) (w.heap.size + 1) (w.heap.size) h5 ?_ ?_ ?_ ?_ ?_ ?_⟩; (focus (rw [dr]; simp only [al, sz]; (repeat' split) <;> first | rfl | (exfalso; omega) | (exfalso; simp_all; done))); (focus (rw [dr]; simp only [al, sz]; (repeat' split) <;> first | rfl | (exfalso; omega) | (exfalso; simp_all; done))); (focus (rw [dr]; simp only [al, sz]; (repeat' split) <;> first | rfl | (exfalso; omega) | (exfalso; simp_all; done))); (focus (rw [dr]; simp only [al, sz]; (repeat' split) <;> first | rfl | (exfalso; omega) | (exfalso; simp_all; done))); (focus exact (((((((Below.refl _ _).alloc (Nat.le_refl _) _).alloc (by simp) _).alloc (by simp; omega) _).alloc (by simp; omega) _).alloc (by simp; omega) _).drew)); omega)
end Vr
end Go.Proofs.Ytecgecolghgjoaa
