import Derived.Test.YtecgecolghgjoaaZn
import Derived.Shelf.SlicesQ.Reverse
import Derived.Ground.SlgnProg
namespace Go.Proofs
open Go.Shelf Go.RowKit Go.Lib
shelf_lay_g SlLaysE0.n35 Slgn 35 at Try 33 as Try.revT
namespace Ytecgecolghgjoaa
namespace Vr
open Go.Shelf Go.RowKit Go.Lib Go.Sort Go.Maps Go.ChangeMaps Go.MapKept Laws Irw Crw
set_option linter.unusedVariables false
set_option linter.unusedSimpArgs false
set_option maxRecDepth 20000
set_option maxHeartbeats 4000000 in
theorem new2_any (x : Int) (n : Nat) (w : World) (hx : min (max x 1) 5 = (n : Int)) (h1 : 1 ≤ n) (h5 : n ≤ 5) : Calls Try.prog 6 #[.int .i64 x] w fun e w' => NwIs w n e w' := by
  have k1 := run_make_row' (P := Try.prog) 63 58 (.slice none 0 0) 24 Try.underlying63 infoS rfl .i64 .i64 n (by omega) (by omega)
  have k2 := run_make_row' (P := Try.prog) 36 9 (.string ⟨#[]⟩) 16 Try.underlying36 infoT rfl .i64 .i64 n (by omega) (by omega)
  have k3 := @run_makeMap Try.prog
  have al : ∀ (W : World) (o : Obj) (b : Nat), (W.alloc o).heap[b]? = if b = W.heap.size then some o else W.heap[b]? := fun W o b => (by show (W.heap.push o)[b]? = _; rw [Array.getElem?_push])
  have sz : ∀ (W : World) (o : Obj), (W.alloc o).heap.size = W.heap.size + 1 := fun W o => (by show (W.heap.push o).size = _; rw [Array.size_push])
  have dr : ∀ (W : World), W.drew.heap = W.heap := fun W => rfl
  obtain ⟨y, q1⟩ : ∃ y, max x 1 = y := ⟨_, rfl⟩
  rw [q1] at hx
  have q2 : min y 5 = (n : Int) := hx
  go_enter Try.func6, Try.ntmps6
  go_wp2
  go_region
  all_goals go_wp2
  all_goals go_ret
  all_goals
    first
    | (refine ⟨_, w.heap.size + 1, w.heap.size + 1 + 1 + 1, rfl, new_done n (w.heap.size + 1 + 1 + 1 + 1) (w.heap.size + 1) (w.heap.size) (w.heap.size + 1 + 1) (w.heap.size + 1 + 1 + 1) h5 ?_ ?_ ?_ ?_ ?_ ?_⟩; (focus (rw [dr]; simp only [al, sz]; (repeat' split) <;> first | rfl | (exfalso; omega) | (exfalso; simp_all; done))); (focus (rw [dr]; simp only [al, sz]; (repeat' split) <;> first | rfl | (exfalso; omega) | (exfalso; simp_all; done))); (focus (rw [dr]; simp only [al, sz]; (repeat' split) <;> first | rfl | (exfalso; omega) | (exfalso; simp_all; done))); (focus (rw [dr]; simp only [al, sz]; (repeat' split) <;> first | rfl | (exfalso; omega) | (exfalso; simp_all; done))); (focus exact (((((((Below.refl _ _).alloc (Nat.le_refl _) _).alloc (by simp) _).alloc (by simp; omega) _).alloc (by simp; omega) _).alloc (by simp; omega) _).drew)); omega)
    | (refine ⟨_, w.heap.size + 1, w.heap.size + 1 + 1, rfl, new_done n (w.heap.size + 1 + 1 + 1 + 1) (w.heap.size + 1) (w.heap.size) (w.heap.size + 1 + 1 + 1) (w.heap.size + 1 + 1) h5 ?_ ?_ ?_ ?_ ?_ ?_⟩; (focus (rw [dr]; simp only [al, sz]; (repeat' split) <;> first | rfl | (exfalso; omega) | (exfalso; simp_all; done))); (focus (rw [dr]; simp only [al, sz]; (repeat' split) <;> first | rfl | (exfalso; omega) | (exfalso; simp_all; done))); (focus (rw [dr]; simp only [al, sz]; (repeat' split) <;> first | rfl | (exfalso; omega) | (exfalso; simp_all; done))); (focus (rw [dr]; simp only [al, sz]; (repeat' split) <;> first | rfl | (exfalso; omega) | (exfalso; simp_all; done))); (focus exact (((((((Below.refl _ _).alloc (Nat.le_refl _) _).alloc (by simp) _).alloc (by simp; omega) _).alloc (by simp; omega) _).alloc (by simp; omega) _).drew)); omega)
    | (refine ⟨_, w.heap.size + 1 + 1, w.heap.size + 1 + 1 + 1, rfl, new_done n (w.heap.size + 1 + 1 + 1 + 1) (w.heap.size + 1 + 1) (w.heap.size) (w.heap.size + 1) (w.heap.size + 1 + 1 + 1) h5 ?_ ?_ ?_ ?_ ?_ ?_⟩; (focus (rw [dr]; simp only [al, sz]; (repeat' split) <;> first | rfl | (exfalso; omega) | (exfalso; simp_all; done))); (focus (rw [dr]; simp only [al, sz]; (repeat' split) <;> first | rfl | (exfalso; omega) | (exfalso; simp_all; done))); (focus (rw [dr]; simp only [al, sz]; (repeat' split) <;> first | rfl | (exfalso; omega) | (exfalso; simp_all; done))); (focus (rw [dr]; simp only [al, sz]; (repeat' split) <;> first | rfl | (exfalso; omega) | (exfalso; simp_all; done))); (focus exact (((((((Below.refl _ _).alloc (Nat.le_refl _) _).alloc (by simp) _).alloc (by simp; omega) _).alloc (by simp; omega) _).alloc (by simp; omega) _).drew)); omega)
    | (refine ⟨_, w.heap.size + 1 + 1 + 1, w.heap.size + 1 + 1, rfl, new_done n (w.heap.size + 1 + 1 + 1 + 1) (w.heap.size + 1 + 1 + 1) (w.heap.size) (w.heap.size + 1) (w.heap.size + 1 + 1) h5 ?_ ?_ ?_ ?_ ?_ ?_⟩; (focus (rw [dr]; simp only [al, sz]; (repeat' split) <;> first | rfl | (exfalso; omega) | (exfalso; simp_all; done))); (focus (rw [dr]; simp only [al, sz]; (repeat' split) <;> first | rfl | (exfalso; omega) | (exfalso; simp_all; done))); (focus (rw [dr]; simp only [al, sz]; (repeat' split) <;> first | rfl | (exfalso; omega) | (exfalso; simp_all; done))); (focus (rw [dr]; simp only [al, sz]; (repeat' split) <;> first | rfl | (exfalso; omega) | (exfalso; simp_all; done))); (focus exact (((((((Below.refl _ _).alloc (Nat.le_refl _) _).alloc (by simp) _).alloc (by simp; omega) _).alloc (by simp; omega) _).alloc (by simp; omega) _).drew)); omega)
    | (refine ⟨_, w.heap.size + 1 + 1, w.heap.size + 1, rfl, new_done n (w.heap.size + 1 + 1 + 1 + 1) (w.heap.size + 1 + 1) (w.heap.size) (w.heap.size + 1 + 1 + 1) (w.heap.size + 1) h5 ?_ ?_ ?_ ?_ ?_ ?_⟩; (focus (rw [dr]; simp only [al, sz]; (repeat' split) <;> first | rfl | (exfalso; omega) | (exfalso; simp_all; done))); (focus (rw [dr]; simp only [al, sz]; (repeat' split) <;> first | rfl | (exfalso; omega) | (exfalso; simp_all; done))); (focus (rw [dr]; simp only [al, sz]; (repeat' split) <;> first | rfl | (exfalso; omega) | (exfalso; simp_all; done))); (focus (rw [dr]; simp only [al, sz]; (repeat' split) <;> first | rfl | (exfalso; omega) | (exfalso; simp_all; done))); (focus exact (((((((Below.refl _ _).alloc (Nat.le_refl _) _).alloc (by simp) _).alloc (by simp; omega) _).alloc (by simp; omega) _).alloc (by simp; omega) _).drew)); omega)
    | (refine ⟨_, w.heap.size + 1 + 1 + 1, w.heap.size + 1, rfl, new_done n (w.heap.size + 1 + 1 + 1 + 1) (w.heap.size + 1 + 1 + 1) (w.heap.size) (w.heap.size + 1 + 1) (w.heap.size + 1) h5 ?_ ?_ ?_ ?_ ?_ ?_⟩; (focus (rw [dr]; simp only [al, sz]; (repeat' split) <;> first | rfl | (exfalso; omega) | (exfalso; simp_all; done))); (focus (rw [dr]; simp only [al, sz]; (repeat' split) <;> first | rfl | (exfalso; omega) | (exfalso; simp_all; done))); (focus (rw [dr]; simp only [al, sz]; (repeat' split) <;> first | rfl | (exfalso; omega) | (exfalso; simp_all; done))); (focus (rw [dr]; simp only [al, sz]; (repeat' split) <;> first | rfl | (exfalso; omega) | (exfalso; simp_all; done))); (focus exact (((((((Below.refl _ _).alloc (Nat.le_refl _) _).alloc (by simp) _).alloc (by simp; omega) _).alloc (by simp; omega) _).alloc (by simp; omega) _).drew)); omega)
    | (refine ⟨_, w.heap.size + 1 + 1, w.heap.size + 1 + 1 + 1, rfl, new_done n (w.heap.size + 1 + 1 + 1 + 1) (w.heap.size + 1 + 1) (w.heap.size + 1) (w.heap.size) (w.heap.size + 1 + 1 + 1) h5 ?_ ?_ ?_ ?_ ?_ ?_⟩; (focus (rw [dr]; simp only [al, sz]; (repeat' split) <;> first | rfl | (exfalso; omega) | (exfalso; simp_all; done))); (focus (rw [dr]; simp only [al, sz]; (repeat' split) <;> first | rfl | (exfalso; omega) | (exfalso; simp_all; done))); (focus (rw [dr]; simp only [al, sz]; (repeat' split) <;> first | rfl | (exfalso; omega) | (exfalso; simp_all; done))); (focus (rw [dr]; simp only [al, sz]; (repeat' split) <;> first | rfl | (exfalso; omega) | (exfalso; simp_all; done))); (focus exact (((((((Below.refl _ _).alloc (Nat.le_refl _) _).alloc (by simp) _).alloc (by simp; omega) _).alloc (by simp; omega) _).alloc (by simp; omega) _).drew)); omega)
    | (refine ⟨_, w.heap.size + 1 + 1 + 1, w.heap.size + 1 + 1, rfl, new_done n (w.heap.size + 1 + 1 + 1 + 1) (w.heap.size + 1 + 1 + 1) (w.heap.size + 1) (w.heap.size) (w.heap.size + 1 + 1) h5 ?_ ?_ ?_ ?_ ?_ ?_⟩; (focus (rw [dr]; simp only [al, sz]; (repeat' split) <;> first | rfl | (exfalso; omega) | (exfalso; simp_all; done))); (focus (rw [dr]; simp only [al, sz]; (repeat' split) <;> first | rfl | (exfalso; omega) | (exfalso; simp_all; done))); (focus (rw [dr]; simp only [al, sz]; (repeat' split) <;> first | rfl | (exfalso; omega) | (exfalso; simp_all; done))); (focus (rw [dr]; simp only [al, sz]; (repeat' split) <;> first | rfl | (exfalso; omega) | (exfalso; simp_all; done))); (focus exact (((((((Below.refl _ _).alloc (Nat.le_refl _) _).alloc (by simp) _).alloc (by simp; omega) _).alloc (by simp; omega) _).alloc (by simp; omega) _).drew)); omega)
    | (refine ⟨_, w.heap.size + 1 + 1 + 1, w.heap.size + 1, rfl, new_done n (w.heap.size + 1 + 1 + 1 + 1) (w.heap.size + 1 + 1 + 1) (w.heap.size + 1 + 1) (w.heap.size) (w.heap.size + 1) h5 ?_ ?_ ?_ ?_ ?_ ?_⟩; (focus (rw [dr]; simp only [al, sz]; (repeat' split) <;> first | rfl | (exfalso; omega) | (exfalso; simp_all; done))); (focus (rw [dr]; simp only [al, sz]; (repeat' split) <;> first | rfl | (exfalso; omega) | (exfalso; simp_all; done))); (focus (rw [dr]; simp only [al, sz]; (repeat' split) <;> first | rfl | (exfalso; omega) | (exfalso; simp_all; done))); (focus (rw [dr]; simp only [al, sz]; (repeat' split) <;> first | rfl | (exfalso; omega) | (exfalso; simp_all; done))); (focus exact (((((((Below.refl _ _).alloc (Nat.le_refl _) _).alloc (by simp) _).alloc (by simp; omega) _).alloc (by simp; omega) _).alloc (by simp; omega) _).drew)); omega)
    | (refine ⟨_, w.heap.size + 1 + 1, w.heap.size, rfl, new_done n (w.heap.size + 1 + 1 + 1 + 1) (w.heap.size + 1 + 1) (w.heap.size + 1) (w.heap.size + 1 + 1 + 1) (w.heap.size) h5 ?_ ?_ ?_ ?_ ?_ ?_⟩; (focus (rw [dr]; simp only [al, sz]; (repeat' split) <;> first | rfl | (exfalso; omega) | (exfalso; simp_all; done))); (focus (rw [dr]; simp only [al, sz]; (repeat' split) <;> first | rfl | (exfalso; omega) | (exfalso; simp_all; done))); (focus (rw [dr]; simp only [al, sz]; (repeat' split) <;> first | rfl | (exfalso; omega) | (exfalso; simp_all; done))); (focus (rw [dr]; simp only [al, sz]; (repeat' split) <;> first | rfl | (exfalso; omega) | (exfalso; simp_all; done))); (focus exact (((((((Below.refl _ _).alloc (Nat.le_refl _) _).alloc (by simp) _).alloc (by simp; omega) _).alloc (by simp; omega) _).alloc (by simp; omega) _).drew)); omega)
    | (refine ⟨_, w.heap.size + 1 + 1 + 1, w.heap.size, rfl, new_done n (w.heap.size + 1 + 1 + 1 + 1) (w.heap.size + 1 + 1 + 1) (w.heap.size + 1) (w.heap.size + 1 + 1) (w.heap.size) h5 ?_ ?_ ?_ ?_ ?_ ?_⟩; (focus (rw [dr]; simp only [al, sz]; (repeat' split) <;> first | rfl | (exfalso; omega) | (exfalso; simp_all; done))); (focus (rw [dr]; simp only [al, sz]; (repeat' split) <;> first | rfl | (exfalso; omega) | (exfalso; simp_all; done))); (focus (rw [dr]; simp only [al, sz]; (repeat' split) <;> first | rfl | (exfalso; omega) | (exfalso; simp_all; done))); (focus (rw [dr]; simp only [al, sz]; (repeat' split) <;> first | rfl | (exfalso; omega) | (exfalso; simp_all; done))); (focus exact (((((((Below.refl _ _).alloc (Nat.le_refl _) _).alloc (by simp) _).alloc (by simp; omega) _).alloc (by simp; omega) _).alloc (by simp; omega) _).drew)); omega)
    | (refine ⟨_, w.heap.size + 1 + 1 + 1, w.heap.size, rfl, new_done n (w.heap.size + 1 + 1 + 1 + 1) (w.heap.size + 1 + 1 + 1) (w.heap.size + 1 + 1) (w.heap.size + 1) (w.heap.size) h5 ?_ ?_ ?_ ?_ ?_ ?_⟩; (focus (rw [dr]; simp only [al, sz]; (repeat' split) <;> first | rfl | (exfalso; omega) | (exfalso; simp_all; done))); (focus (rw [dr]; simp only [al, sz]; (repeat' split) <;> first | rfl | (exfalso; omega) | (exfalso; simp_all; done))); (focus (rw [dr]; simp only [al, sz]; (repeat' split) <;> first | rfl | (exfalso; omega) | (exfalso; simp_all; done))); (focus (rw [dr]; simp only [al, sz]; (repeat' split) <;> first | rfl | (exfalso; omega) | (exfalso; simp_all; done))); (focus exact (((((((Below.refl _ _).alloc (Nat.le_refl _) _).alloc (by simp) _).alloc (by simp; omega) _).alloc (by simp; omega) _).alloc (by simp; omega) _).drew)); omega)
/-- a new set -/
theorem SAt.pins {T : Nat → Nat} {w : World} {sb vb mb : Nat} {V : Lv} (h : SAt T w sb vb mb V) : PAt T w sb vb mb V [] := by
  obtain ⟨ps, hb⟩ := h.box
  exact ⟨h.ts, h.tm, ⟨nS, ps, hb, OwnK.empty _ _ _⟩, h.ver, fun p hp => by simp at hp, h.map⟩
/-- slices.Reverse of tables -/
theorem reverse_any {t : Nat} {T : Nat → Nat} {w : World} {s : Sv} {l : List Tb} (h : OwnK kTb t T w (svV s) l) (hl : l.length ≤ 3000000) :
    Calls Try.prog 33 #[svV s] w fun e w' => e = .returned (.tuple #[]) ∧ OwnK kTb t T w' (svV s) l.reverse ∧ Goes (· = t) T w T w' := by
  obtain ⟨a, n, c⟩ := s
  have hn := (OwnK.sk h).1
  change n = l.length at hn
  subst hn
  cases a with
  | none =>
    have h0 : l = [] := by
      rcases h.1.2 with ⟨h1, h2⟩ | ⟨g, cap, cur, hv, _⟩
      · exact List.eq_nil_of_length_eq_zero h2
      · cases hv
    subst h0
    exact (AnyQ.slices_Reverse_empty Try.revT none c w).mono fun e w' hp => ⟨hp.1, by rw [hp.2]; exact h, by rw [hp.2]; exact Goes.refl _ _ _⟩
  | some a =>
    obtain ⟨G, hG⟩ : ∃ G, a = ⟨G, 0, none⟩ := by
      rcases h.1.2 with ⟨h1, h2⟩ | ⟨g, cap, cur, hv, _⟩
      · cases h1
      · cases hv; exact ⟨g, rfl⟩
    subst hG
    have hH : HoldsK tbC 6 w G 0 l.toArray := by
      intro j hj
      have hj6 : j < l.length * 6 := by simpa using hj
      have hi : j / 6 < l.length := by omega
      have hg := kTb.cells_get l (j / 6) _ (List.getElem?_eq_getElem hi) (j % 6) (Nat.mod_lt _ (by decide))
      rw [show j / 6 * kTb.size + j % 6 = j by show j / 6 * 6 + j % 6 = j; omega] at hg
      have hm : j % 6 < (tbC l[j / 6]).length := Nat.mod_lt _ (by decide)
      refine ⟨?_, (show w.ownsRow 0 kTb.ty kTb.size (.slice (some ⟨G, 0, none⟩) l.length c) l.length (kTb.cells l) from h.1).frozenAt _⟩
      rw [Nat.zero_add, (show w.ownsRow 0 kTb.ty kTb.size (.slice (some ⟨G, 0, none⟩) l.length c) l.length (kTb.cells l) from h.1).cellAt j hj6, hg, get_flatK _ _ _ _ (by simpa using hj6)]
      have e1 : l.toArray[j / 6]! = l[j / 6] := by rw [getElem!_pos l.toArray _ (by simpa using hi)]; simp
      rw [e1]
      show (tbC l[j / 6])[j % 6]? = some (id (tbC l[j / 6])[j % 6]!)
      rw [getElem!_pos (tbC l[j / 6]) (j % 6) hm, List.getElem?_eq_getElem hm]
      rfl
    have := AnyQ.slices_Reverse Try.revT 6 Try.isAgg47 Try.sizeOf47 tbC (fun _ => rfl) (fun x v hv => kTb.one x v hv) G 0 c l.toArray w hH (by simp; omega)
    change Calls Try.prog 33 #[.slice (some ⟨G, 0, none⟩) l.length c] w _ at this
    refine this.mono fun e w' hp => ?_
    obtain ⟨rfl, m, hw⟩ := hp
    have e1 : w' = sortWorldK tbC 6 w G 0 m l.reverse.toArray #[] := by
      rw [hw]
      show _ = grow _ #[]
      rw [grow_empty]
      (try simp)
    have := own_sorted (m := m) (os := #[]) (d := l.reverse.toArray) h (by simp)
    rw [← e1] at this
    simp only [List.toList_toArray] at this
    exact ⟨rfl, this⟩
end Vr
end Ytecgecolghgjoaa
end Go.Proofs
