import Derived.Test.YtnhhalabmmcemaaDoorTaR
import Derived.Defers
import Derived.Recover
import Derived.Laws.Pointers
namespace Go.Proofs.YtnhhalabmmcemaaDoor
namespace Tbl
open Go.RowKit CMath Byt Laws Irw Crw Cod Qb
set_option linter.unusedVariables false
set_option linter.unusedSimpArgs false
set_option maxRecDepth 20000

theorem open1_idle (p q : Addr) (w : World) :
    CallsD Tryd.prog 23 #[.pointer (some p), .pointer (some q)] .returning w fun e u' w' => e = .returned (.tuple #[]) ∧ u' = .returning ∧ w' = w := by
  refine callsD_of_wpS Tryd.func23 rfl fun c₀ cs hu => ?_
  apply wpS_seq
  apply wpS_region
  simp [wpOpsS, go_sem, recoverD, hu, Tryd.ntmps23, Exit.thenS]
  refine wpS_cond (t := false) (by simp [Act.eval, Array.replicate]) ?_
  simp only [Bool.false_eq_true, if_false]
  refine wpS_of_wp (wp_skip ?_)
  cases c₀
  simp_all [bodyPostS, results, Tryd.results23]
/-- What Open answers of good bytes. -/
def OpT (R : Nat) (bits : Int) (L : Ts) (css : List (List En)) (w : World) (e : Ending) (w' : World) : Prop :=
  ∃ B T ps, (∀ b, b < w.heap.size → T b = 0) ∧ e = .returned (.tuple #[.pointer (some ⟨B, 0, none⟩), .int .i64 0]) ∧ w.heap.size ≤ B ∧ TbO 20 T w' B ps (FiO bits L) (rdM ((whole bits L).length : Int) css.flatten) ∧ PsAt R T w' ps css ∧ Below w.heap.size w w'
set_option maxHeartbeats 2000000 in
theorem open_bad (g o n cap : Nat) (x y : List Nat) (w : World) (ha : IsB w (some ⟨g, o, none⟩) (x ++ y)) (hy : y.length = 4) (hx : 5 ≤ x.length) (hn : n = x.length + 4) (hcap : n ≤ cap) (hc9 : cap ≤ 9223372036854775807) (ht : Tab w) (hs : four (crc x) ≠ y) :
    Calls Tryd.prog 10 #[.slice (some ⟨g, o, none⟩) n cap] w fun e w' => e = .returned (.tuple #[.pointer none, .int .i64 103]) ∧ Below w.heap.size w w' := by
  have hmf : ∀ (fn : Fn) (first cap : Array Value) (w : World), (Instr.makeFunc fn first cap).run Tryd.prog w = .ok (.func fn first cap) w := fun _ _ _ _ => rfl
  obtain ⟨E, hE⟩ : ∃ E, E = n - 4 := ⟨_, rfl⟩
  have q1 : ¬ (n : Int) < 9 := by omega
  have q2 : (n : Int) - 4 = (E : Int) := by omega
  have q3 : (E : Int) ≤ (n : Int) := by omega
  have q4 : (E : Int) ≤ (cap : Int) := by omega
  have q5 : (n : Int) ≤ (cap : Int) := by omega
  have q6 : ¬ cap = E := by omega
  have q7 : n - E = 4 := by omega
  have q8 : E ≤ 9223372036854775807 := by omega
  have ix : IsB w (some ⟨g, o, none⟩) x := by have h := ha.take x.length; rw [List.take_left] at h; exact h
  have iy : IsB w (some ⟨g, o + E, none⟩) y := by
    have h := isB_drop ha E
    rw [show E = x.length by omega, List.drop_left] at h
    rw [show E = x.length by omega]
    exact h
  have HX := Qb.hid (And.intro ix (And.intro iy ht))
  have HL : Hid (E = x.length ∧ x.length ≤ 9223372036854775807) := Qb.hid ⟨by omega, by omega⟩
  have HY := Qb.hid hy
  have HS : Hid (decide (four (crc x) = y) = false) := Qb.hid (decide_eq_false hs)
  clear ha hy hx hn hcap hc9 ht hs ix iy hE
  go_enter_defers Tryd.func10, Tryd.ntmps10
  go_wp2
  obtain ⟨W0, hW0⟩ : ∃ W0, (w.alloc (.cells #[.pointer none] 34)).alloc (.cells #[.int .i64 0] 35) = W0 := ⟨_, rfl⟩
  rw [hW0]
  have hB0 : Below w.heap.size w W0 := by rw [← hW0]; exact ((Below.refl _ _).alloc (Nat.le_refl _) _).alloc (by simp) _
  have hs0 : W0.heap.size = w.heap.size + 2 := by rw [← hW0]; simp
  have o0 : W0.heap[w.heap.size]? = some (.cells #[.pointer none] 34) ∧ W0.heap[w.heap.size + 1]? = some (.cells #[.int .i64 0] 35) := by
    rw [← hW0]
    have k1 := World.alloc_heap_new w (.cells #[.pointer none] 34)
    have z1 : (w.alloc (.cells #[.pointer none] 34)).heap.size = w.heap.size + 1 := by simp
    generalize w.alloc (.cells #[.pointer none] 34) = v1 at *
    have k2 := World.alloc_heap_new v1 (.cells #[.int .i64 0] 35)
    have b2 : Below v1.heap.size v1 (v1.alloc (.cells #[.int .i64 0] 35)) := (Below.refl _ _).alloc (Nat.le_refl _) _
    rw [z1] at k2
    exact ⟨(b2.block _ (by omega)).trans k1, k2⟩
  have HW0 := Qb.hid (And.intro hB0 (And.intro hs0 o0))
  clear hW0 hB0 hs0 o0
  refine Code.wp_mono (Q := Exit.then (fun a9 W9 => a9 = { tmps := #[.slice (some ⟨g, o, none⟩) n cap, undef, .pointer (some ⟨w.heap.size, 0, none⟩), .pointer (some ⟨w.heap.size + 1, 0, none⟩), .int .i64 (E : Int), .func (.func 23) #[] #[.pointer (some ⟨w.heap.size, 0, none⟩), .pointer (some ⟨w.heap.size + 1, 0, none⟩)], .slice (some ⟨g, o, none⟩) n cap, .int .i64 (n : Int), .bool false, .slice (some ⟨g, o, none⟩) n cap, .int .i64 (n : Int), .int .i64 (E : Int), .slice (some ⟨g, o, none⟩) n cap, .int .i64 (E : Int), .slice (some ⟨g, o, none⟩) E cap, .slice (some ⟨W0.heap.size, 0, none⟩) 4 4, .slice (some ⟨g, o, none⟩) n cap, .int .i64 (E : Int), .slice (some ⟨g, o + E, none⟩) 4 (cap - E), .bool false, .bool true, undef, undef, undef, undef, undef], defers := [{ target := .fn (.func 23) #[.pointer (some ⟨w.heap.size, 0, none⟩), .pointer (some ⟨w.heap.size + 1, 0, none⟩)], args := #[] }] } ∧ Hid (Below W0.heap.size W0 W9)) (fun _ _ _ => False)) ?mono ?reg
  case reg =>
    go_region_with (first
      | (go_at_call 25; go_loud (refine (sumOf_any (some ⟨g, o, none⟩) cap E x _ ((HX.out.1.below HW0.out.1).below (by first | exact Below.refl _ _ | exact (Below.refl _ _).drew)) ((HX.out.2.2.below HW0.out.1 HX.out.2.2.lt).below (by first | exact Below.refl W0.heap.size _ | exact (Below.refl W0.heap.size _).drew) (by have := HX.out.2.2.lt; have := HW0.out.1.size; omega)) HL.out.2 HL.out.1).mono ?_; rintro e w2 ⟨rfl, hso⟩; have HB2 : Hid (Below W0.heap.size W0 w2) := Qb.hid (bl_step (by first | exact Below.refl _ _ | exact (Below.refl _ _).drew) hso.below); have HSO := Qb.hid (so_isB hso); clear hso))
      | (go_at_call 24; go_loud (have HEQ := Qb.hid (equal_any _ (some ⟨g, o + E, none⟩) 4 4 4 (cap - E) (four (crc x)) y w2 HSO.out ((HX.out.2.1.below HW0.out.1).below HB2.out) rfl HY.out.symm (by simp) (by simp)); rw [HS.out] at HEQ; refine HEQ.out.mono ?_; rintro e w' ⟨rfl, hw⟩; have hw2 := hw.symm; clear hw HEQ; subst hw2)))
    all_goals exact ⟨rfl, HB2⟩
  case mono =>
    intro e a9 W9 q
    cases e with
    | normal =>
      obtain ⟨rfl, HB2⟩ := q
      have e0 := (HB2.out.block w.heap.size (by have := HW0.out.2.1; omega)).trans HW0.out.2.2.1
      have e1 := (HB2.out.block (w.heap.size + 1) (by have := HW0.out.2.1; omega)).trans HW0.out.2.2.2
      have c0 : W9.cell? ⟨w.heap.size, 0, none⟩ = some (.pointer none) := cell_of e0 0
      have c1 : W9.cell? ⟨w.heap.size + 1, 0, none⟩ = some (.int .i64 0) := cell_of e1 0
      have f0 := froz_of e0 0
      have f1 := froz_of e1 0
      have HBA := Qb.hid (bl_step HW0.out.1 HB2.out)
      go_wp2
      refine leaves_cons (f := 23) (args := #[.pointer (some ⟨w.heap.size, 0, none⟩), .pointer (some ⟨w.heap.size + 1, 0, none⟩)]) (by simp) (by simp [go_sem]) ?_
      refine (open1_idle ⟨w.heap.size, 0, none⟩ ⟨w.heap.size + 1, 0, none⟩ _).mono ?_
      rintro e u' w'' ⟨rfl, rfl, rfl⟩
      have hfin := Below.setCell (p := ⟨w.heap.size + 1, 0, none⟩) (Below.setCell (p := ⟨w.heap.size, 0, none⟩) HBA.out (Nat.le_refl _) (.pointer none)) (by show w.heap.size ≤ w.heap.size + 1; omega) (.int .i64 103)
      simp [Leaves, settle, results, Tryd.results10, go_sem, c0, c1, f0, f1]
      exact hfin
    | exit i => exact q.elim
    | goto i => exact q.elim
    | ret => exact q.elim
    | panic c => exact q.elim
    | outgrown => exact q.elim

end Tbl
end Go.Proofs.YtnhhalabmmcemaaDoor
namespace Go.Proofs.YtnhhalabmmcemaaDoor
namespace Tbl
open Go.RowKit CMath Byt Laws Irw Crw Cod Qb
set_option linter.unusedVariables false
set_option linter.unusedSimpArgs false
set_option maxRecDepth 20000

/-- The tags of the two results. -/
def T77 (w : World) : Nat → Nat := upd (upd (fun _ => 0) w.heap.size 7) (w.heap.size + 1) 7
theorem t77_o (w : World) (b : Nat) (h1 : b ≠ w.heap.size) (h2 : b ≠ w.heap.size + 1) : T77 w b = 0 := by unfold T77; rw [upd_other _ _ h2, upd_other _ _ h1]
theorem t77_0 (w : World) : T77 w w.heap.size = 7 := by unfold T77; rw [upd_other _ _ (by omega), upd_same]
theorem t77_1 (w : World) : T77 w (w.heap.size + 1) = 7 := by unfold T77; rw [upd_same]
theorem t77_g {w W9 : World} {g : Nat} (hg : g < w.heap.size) (h0 : 0 < w.heap.size) (l1 : w.heap.size + 1 < W9.heap.size) (e0 : W9.heap[w.heap.size]? = some (.cells #[.pointer none] 34)) (e1 : W9.heap[w.heap.size + 1]? = some (.cells #[.int .i64 0] 35)) : Tg (T77 w) W9 g := by
  refine ⟨fun b hb => t77_o w b (by omega) (by omega), fun b ob hbo ho => ?_, fun b => ?_, t77_o w g (by omega) (by omega), t77_o w 0 (by omega) (by omega)⟩
  · by_cases h1 : b = w.heap.size
    · subst h1; rw [e0] at hbo; cases hbo; cases ho
    by_cases h2 : b = w.heap.size + 1
    · subst h2; rw [e1] at hbo; cases hbo; cases ho
    exact t77_o w b h1 h2
  · by_cases h1 : b = w.heap.size
    · right; rw [h1, t77_0]
    by_cases h2 : b = w.heap.size + 1
    · right; rw [h2, t77_1]
    left; exact t77_o w b h1 h2
theorem op_fin {w W9 W6 : World} {R : Nat} {bits : Int} {L : Ts} {css : List (List En)} {B : Nat} {T6 : Nat → Nat} {ps : List (ByteArray × Nat)} (hA : Below w.heap.size w W9) (hT6 : ∀ b, b < W9.heap.size → T6 b = T77 w b) (q1 : TbO 20 T6 W6 B ps (FiO bits L) (rdM ((whole bits L).length : Int) css.flatten)) (q2 : PsAt R T6 W6 ps css) (hB : W9.heap.size ≤ B) (hb : Below W9.heap.size W9 W6) (l1 : w.heap.size + 1 < W9.heap.size) :
    OpT R bits L css w (.returned (.tuple #[.pointer (some ⟨B, 0, none⟩), .int .i64 0])) ((W6.setCell ⟨w.heap.size, 0, none⟩ (.pointer (some ⟨B, 0, none⟩))).setCell ⟨w.heap.size + 1, 0, none⟩ (.int .i64 0)) := by
  have k0 : T6 w.heap.size = 7 := (hT6 _ (by omega)).trans (t77_0 w)
  have k1 : T6 (w.heap.size + 1) = 7 := (hT6 _ (by omega)).trans (t77_1 w)
  have hg : Goes (· = 7) T6 W6 T6 ((W6.setCell ⟨w.heap.size, 0, none⟩ (.pointer (some ⟨B, 0, none⟩))).setCell ⟨w.heap.size + 1, 0, none⟩ (.int .i64 0)) := (Goes.setCell k0).trans (Goes.setCell k1)
  have hs := hA.size
  refine ⟨B, T6, ps, fun b hb' => (hT6 b (by omega)).trans (t77_o w b (by omega) (by omega)), rfl, by omega, q1.goes hg (by omega) (by omega) (by omega), q2.goes hg (by omega), ?_⟩
  exact Below.setCell (p := ⟨w.heap.size + 1, 0, none⟩) (Below.setCell (p := ⟨w.heap.size, 0, none⟩) (bl_step hA hb) (Nat.le_refl _) _) (by show w.heap.size ≤ w.heap.size + 1; omega) _
set_option maxHeartbeats 2000000 in
theorem open_ok (g o n cap : Nat) (R : Nat) (bits : Int) (L : Ts) (css : List (List En)) (w : World) (hW : Wh R bits L css) (ha : IsB w (some ⟨g, o, none⟩) (whole bits L)) (hn : n = (whole bits L).length) (hcap : n ≤ cap) (hc9 : cap ≤ 9223372036854775807) (ht : Tab w) :
    Calls Tryd.prog 10 #[.slice (some ⟨g, o, none⟩) n cap] w fun e w' => OpT R bits L css w e w' := by
  obtain ⟨x, hx0⟩ : ∃ x, whole0 bits L = x := ⟨_, rfl⟩
  obtain ⟨y, hy0⟩ : ∃ y, four (crc x) = y := ⟨_, rfl⟩
  have hwx : whole bits L = x ++ y := by unfold whole; rw [hx0, hy0]
  have hy : y.length = 4 := by rw [← hy0]; exact Qb.four_len _
  have hx : 5 ≤ x.length := by
    rw [← hx0]
    unfold whole0 foot
    simp only [List.length_append, List.length_cons, List.length_nil]
    omega
  rw [hwx] at ha hn
  rw [List.length_append, hy] at hn
  have hmf : ∀ (fn : Fn) (first cap : Array Value) (w : World), (Instr.makeFunc fn first cap).run Tryd.prog w = .ok (.func fn first cap) w := fun _ _ _ _ => rfl
  obtain ⟨E, hE⟩ : ∃ E, E = n - 4 := ⟨_, rfl⟩
  have q1 : ¬ (n : Int) < 9 := by omega
  have q2 : (n : Int) - 4 = (E : Int) := by omega
  have q3 : (E : Int) ≤ (n : Int) := by omega
  have q4 : (E : Int) ≤ (cap : Int) := by omega
  have q5 : (n : Int) ≤ (cap : Int) := by omega
  have q6 : ¬ cap = E := by omega
  have q7 : n - E = 4 := by omega
  have q8 : E ≤ 9223372036854775807 := by omega
  have ix : IsB w (some ⟨g, o, none⟩) x := by have h := ha.take x.length; rw [List.take_left] at h; exact h
  have iy : IsB w (some ⟨g, o + E, none⟩) y := by
    have h := isB_drop ha E
    rw [show E = x.length by omega, List.drop_left] at h
    rw [show E = x.length by omega]
    exact h
  have HX := Qb.hid (And.intro ix (And.intro iy ht))
  have HL : Hid (E = x.length ∧ x.length ≤ 9223372036854775807) := Qb.hid ⟨by omega, by omega⟩
  have HY := Qb.hid hy
  have HS : Hid (decide (four (crc x) = y) = true) := Qb.hid (decide_eq_true hy0)
  have HGL : Hid (g < w.heap.size ∧ 0 < w.heap.size) := by
    obtain ⟨b', o', e', hr⟩ := ix.1 (by intro e; rw [e] at hx; simp at hx)
    cases e'
    exact Qb.hid ⟨hr.1, ht.lt⟩
  have HRD : Hid (∀ (T : Nat → Nat) W, Tg T W g → Below w.heap.size w W → Calls Tryd.prog 26 #[.slice (some ⟨g, o, none⟩) E E] W fun e w' => RdIs R bits L css T W e w') := by
    apply Qb.hid
    intro T W hTg hb
    exact read_ok T g o E R bits L css W hTg hW (by rw [hx0]; exact ix.below hb) (by rw [hx0]; omega) (ht.below hb ht.lt)
  clear ha hy hx hn hcap hc9 ht ix iy hE hx0 hy0 hwx hW
  go_enter_defers Tryd.func10, Tryd.ntmps10
  go_wp2
  obtain ⟨W0, hW0⟩ : ∃ W0, (w.alloc (.cells #[.pointer none] 34)).alloc (.cells #[.int .i64 0] 35) = W0 := ⟨_, rfl⟩
  rw [hW0]
  have hB0 : Below w.heap.size w W0 := by rw [← hW0]; exact ((Below.refl _ _).alloc (Nat.le_refl _) _).alloc (by simp) _
  have hs0 : W0.heap.size = w.heap.size + 2 := by rw [← hW0]; simp
  have o0 : W0.heap[w.heap.size]? = some (.cells #[.pointer none] 34) ∧ W0.heap[w.heap.size + 1]? = some (.cells #[.int .i64 0] 35) := by
    rw [← hW0]
    have k1 := World.alloc_heap_new w (.cells #[.pointer none] 34)
    have z1 : (w.alloc (.cells #[.pointer none] 34)).heap.size = w.heap.size + 1 := by simp
    generalize w.alloc (.cells #[.pointer none] 34) = v1 at *
    have k2 := World.alloc_heap_new v1 (.cells #[.int .i64 0] 35)
    have b2 : Below v1.heap.size v1 (v1.alloc (.cells #[.int .i64 0] 35)) := (Below.refl _ _).alloc (Nat.le_refl _) _
    rw [z1] at k2
    exact ⟨(b2.block _ (by omega)).trans k1, k2⟩
  have HW0 := Qb.hid (And.intro hB0 (And.intro hs0 o0))
  clear hW0 hB0 hs0 o0
  refine Code.wp_mono (Q := Exit.then (fun a9 W9 => a9 = { tmps := #[.slice (some ⟨g, o, none⟩) n cap, undef, .pointer (some ⟨w.heap.size, 0, none⟩), .pointer (some ⟨w.heap.size + 1, 0, none⟩), .int .i64 (E : Int), .func (.func 23) #[] #[.pointer (some ⟨w.heap.size, 0, none⟩), .pointer (some ⟨w.heap.size + 1, 0, none⟩)], .slice (some ⟨g, o, none⟩) n cap, .int .i64 (n : Int), .bool false, .slice (some ⟨g, o, none⟩) n cap, .int .i64 (n : Int), .int .i64 (E : Int), .slice (some ⟨g, o, none⟩) n cap, .int .i64 (E : Int), .slice (some ⟨g, o, none⟩) E cap, .slice (some ⟨W0.heap.size, 0, none⟩) 4 4, .slice (some ⟨g, o, none⟩) n cap, .int .i64 (E : Int), .slice (some ⟨g, o + E, none⟩) 4 (cap - E), .bool true, .bool false, undef, undef, undef, undef, undef], defers := [{ target := .fn (.func 23) #[.pointer (some ⟨w.heap.size, 0, none⟩), .pointer (some ⟨w.heap.size + 1, 0, none⟩)], args := #[] }] } ∧ Hid (Below W0.heap.size W0 W9)) (fun _ _ _ => False)) ?mono ?reg
  case reg =>
    go_region_with (first
      | (go_at_call 25; go_loud (refine (sumOf_any (some ⟨g, o, none⟩) cap E x _ ((HX.out.1.below HW0.out.1).below (by first | exact Below.refl _ _ | exact (Below.refl _ _).drew)) ((HX.out.2.2.below HW0.out.1 HX.out.2.2.lt).below (by first | exact Below.refl W0.heap.size _ | exact (Below.refl W0.heap.size _).drew) (by have := HX.out.2.2.lt; have := HW0.out.1.size; omega)) HL.out.2 HL.out.1).mono ?_; rintro e w2 ⟨rfl, hso⟩; have HB2 : Hid (Below W0.heap.size W0 w2) := Qb.hid (bl_step (by first | exact Below.refl _ _ | exact (Below.refl _ _).drew) hso.below); have HSO := Qb.hid (so_isB hso); clear hso))
      | (go_at_call 24; go_loud (have HEQ := Qb.hid (equal_any _ (some ⟨g, o + E, none⟩) 4 4 4 (cap - E) (four (crc x)) y w2 HSO.out ((HX.out.2.1.below HW0.out.1).below HB2.out) rfl HY.out.symm (by simp) (by simp)); rw [HS.out] at HEQ; refine HEQ.out.mono ?_; rintro e w' ⟨rfl, hw⟩; have hw2 := hw.symm; clear hw HEQ; subst hw2)))
    all_goals exact ⟨rfl, HB2⟩
  case mono =>
    intro e a9 W9 q
    cases e with
    | normal =>
      obtain ⟨rfl, HB2⟩ := q
      have e0 := (HB2.out.block w.heap.size (by have := HW0.out.2.1; omega)).trans HW0.out.2.2.1
      have e1 := (HB2.out.block (w.heap.size + 1) (by have := HW0.out.2.1; omega)).trans HW0.out.2.2.2
      have l0 : w.heap.size < W9.heap.size := (Array.getElem?_eq_some_iff.1 e0).1
      have l1 : w.heap.size + 1 < W9.heap.size := (Array.getElem?_eq_some_iff.1 e1).1
      have HE := Qb.hid (And.intro e0 e1)
      have HBA := Qb.hid (bl_step HW0.out.1 HB2.out)
      clear e0 e1
      go_wp2_with (go_at_call 26; go_loud (refine (HRD.out (T77 w) _ (t77_g HGL.out.1 HGL.out.2 l1 HE.out.1 HE.out.2) HBA.out).mono ?_; rintro e W6 ⟨B, T6, ps6, hT6, rfl, hB6, q1, q2, hb6⟩; have HQ := Qb.hid (And.intro q1 (And.intro q2 (And.intro hB6 (And.intro hb6 hT6)))); have e0 := (hb6.block _ l0).trans HE.out.1; have e1 := (hb6.block _ l1).trans HE.out.2; have c0 : W6.cell? ⟨w.heap.size, 0, none⟩ = some (.pointer none) := cell_of e0 0; have c1 : W6.cell? ⟨w.heap.size + 1, 0, none⟩ = some (.int .i64 0) := cell_of e1 0; have f0 := froz_of e0 0; have f1 := froz_of e1 0; clear q1 q2 hB6 hb6 hT6 e0 e1))
      refine leaves_cons (f := 23) (args := #[.pointer (some ⟨w.heap.size, 0, none⟩), .pointer (some ⟨w.heap.size + 1, 0, none⟩)]) (by simp) (by simp [go_sem]) ?_
      refine (open1_idle ⟨w.heap.size, 0, none⟩ ⟨w.heap.size + 1, 0, none⟩ _).mono ?_
      rintro e u' w'' ⟨rfl, rfl, rfl⟩
      have hfin := op_fin HBA.out HQ.out.2.2.2.2 HQ.out.1 HQ.out.2.1 HQ.out.2.2.1 HQ.out.2.2.2.1 l1
      simp [Leaves, settle, results, Tryd.results10, go_sem, c0, c1, f0, f1]
      exact hfin
    | exit i => exact q.elim
    | goto i => exact q.elim
    | ret => exact q.elim
    | panic c => exact q.elim
    | outgrown => exact q.elim

end Tbl
end Go.Proofs.YtnhhalabmmcemaaDoor
