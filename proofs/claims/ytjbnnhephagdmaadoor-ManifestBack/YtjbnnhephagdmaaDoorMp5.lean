import Derived.Test.YtjbnnhephagdmaaDoorMp4
import Derived.Deep.DeepCutAuto
import Derived.Deep.RegionLaw
import Derived.BigRegion
namespace Go.Proofs.YtjbnnhephagdmaaDoor
namespace Mnf
open Go.RowKit CMath Byt Cod Crw Irw Laws
set_option linter.unusedVariables false
set_option linter.unusedSimpArgs false
set_option maxRecDepth 20000
theorem Ls.take {α : Type} {K : Knd α} {w : World} {a : Option Addr} {m c : Nat} {l : List α} (h : Ls K w (a, m, c) l) (n : Nat) (hn : n ≤ l.length) : Ls K w (a, n, n) (l.take n) := by
  obtain ⟨h1, h2, h3, h4, h5⟩ := h
  refine ⟨fun hne => ?_, by simp; omega, fun e => ?_, by simp; omega, h5⟩
  · obtain ⟨b, off, e, hr⟩ := h1 (by rintro rfl; simp at hne)
    refine ⟨b, off, e, hr.1, fun i x hx => hr.2 i x ?_⟩
    rw [List.getElem?_take] at hx
    split at hx
    · exact hx
    · cases hx
  · have hl : l = [] := by
      by_cases hl : l = []
      · exact hl
      · obtain ⟨b, off, e', _⟩ := h1 hl
        dsimp only at e e'
        rw [e] at e'
        cases e'
    subst hl
    simpa using hn
theorem Ls.drop {α : Type} {K : Knd α} {w : World} {b off m c : Nat} {l : List α} (h : Ls K w (some ⟨b, off, none⟩, m, c) l) (n : Nat) (hn : n ≤ l.length) (A : Option Addr) (hA : (if c = n then some ⟨b, off, none⟩ else some ⟨b, off + n * K.size, none⟩) = A) : Ls K w (A, m - n, c - n) (l.drop n) := by
  obtain ⟨h1, h2, h3, h4, h5⟩ := h
  dsimp only at h1 h2 h3 h4
  by_cases hc : c = n
  · rw [if_pos hc] at hA
    subst hA
    have hd : l.drop n = [] := List.drop_eq_nil_of_le (by omega)
    rw [hd]
    exact ⟨IsK.nil _ _, by simp; omega, by simp, by simp, .inr ⟨_, _, rfl⟩⟩
  · rw [if_neg hc] at hA
    subst hA
    refine ⟨fun hne => ?_, by simp; omega, by simp, by simp; omega, .inr ⟨_, _, rfl⟩⟩
    obtain ⟨b', off', e, hr⟩ := h1 (by rintro rfl; simp at hne)
    cases e
    refine ⟨b, _, rfl, hr.1, fun i x hx j u hu => ?_⟩
    rw [List.getElem?_drop] at hx
    have := hr.2 (n + i) x hx j u hu
    rw [Nat.add_mul, ← Nat.add_assoc] at this
    exact this
theorem Ls.nilD {α : Type} {K : Knd α} {w : World} {m c : Nat} {l : List α} (h : Ls K w (none, m, c) l) : l = [] ∧ m = 0 ∧ c = 0 := by
  obtain ⟨h1, h2, h3, h4, h5⟩ := h
  have := h1.none
  subst this
  exact ⟨rfl, h2, h3 rfl⟩
/-- what split answers -/
def SpIs (x y z : Nat) (o i p : Sv) (os : List Pl) (is : List Pd) (n1 n2 : Nat) (last : Bool) (w : World) (e : Ending) (w' : World) : Prop := ∃ o1 i1 o2 i2 : Sv, e = .returned (.tuple #[recV last x y z o1 i1 (if last then p else nS), evV x y z o2 i2 p]) ∧ (∀ w0, Ls kPl w0 o os → Ls kPl w0 o1 (os.take n1) ∧ Ls kPl w0 o2 (os.drop n1)) ∧ (∀ w0, Ls kPd w0 i is → Ls kPd w0 i1 (is.take n2) ∧ Ls kPd w0 i2 (is.drop n2)) ∧ (o2.2.2 ≤ 9223372036854775807 ∧ i2.2.2 ≤ 9223372036854775807) ∧ Below w.heap.size w w'
theorem res_two {fn : Func} {p u : Tmp} (h : fn.results = #[.cell p 58, .cell u 34]) (tmps : Array Value) (w : World) (B C : Nat) (last : Bool) (x y z : Nat) (o i q : Sv) (x' y' z' : Nat) (o' i' q' : Sv) (hp : tmps.getD p undef = .pointer (some ⟨B, 0, none⟩)) (hu : tmps.getD u undef = .pointer (some ⟨C, 0, none⟩)) (hz : Zb w B (recC last x y z o i q)) (hy : Zb w C (evC x' y' z' o' i' q')) :
    (results fn tmps).run Tryd.prog w = .ok (.tuple #[recV last x y z o i q, evV x' y' z' o' i' q']) w := by
  have c0 := hz.2.1 0 _ rfl
  have c1 := hz.2.1 1 _ rfl
  have c2 := hz.2.1 2 _ rfl
  have c3 := hz.2.1 3 _ rfl
  have c4 := hz.2.1 4 _ rfl
  have c5 := hz.2.1 5 _ rfl
  have c6 := hz.2.1 6 _ rfl
  have d0 := hy.2.1 0 _ rfl
  have d1 := hy.2.1 1 _ rfl
  have d2 := hy.2.1 2 _ rfl
  have d3 := hy.2.1 3 _ rfl
  have d4 := hy.2.1 4 _ rfl
  have d5 := hy.2.1 5 _ rfl
  simp only [results, h]
  have hp' : tmps[p]?.getD undef = .pointer (some ⟨B, 0, none⟩) := by simpa using hp
  have hu' : tmps[u]?.getD undef = .pointer (some ⟨C, 0, none⟩) := by simpa using hu
  simp [Sem.run_bind, Result.andThen, hp', hu', go_sem, c0, c1, c2, c3, c4, c5, c6, d0, d1, d2, d3, d4, d5, recV, evV]
/-- four boxes -/
structure Sq (w wr : World) (e0 r1 e2 r3 : List Value) : Prop where
  z0 : Zb wr w.heap.size e0
  z1 : Zb wr (w.heap.size + 1) r1
  z2 : Zb wr (w.heap.size + 2) e2
  z3 : Zb wr (w.heap.size + 3) r3
  b : Below w.heap.size w wr
theorem Sq.below {w wr w' : World} {e0 r1 e2 r3 : List Value} (h : Sq w wr e0 r1 e2 r3) (hb : Below wr.heap.size wr w') : Sq w w' e0 r1 e2 r3 := ⟨h.z0.below hb, h.z1.below hb, h.z2.below hb, h.z3.below hb, h.b.trans (hb.mono h.b.size)⟩
theorem Sq.set3 {w wr : World} {e0 r1 e2 r3 : List Value} (h : Sq w wr e0 r1 e2 r3) (k : Nat) (v : Value) : Sq w (wr.setCell ⟨w.heap.size + 3, k, none⟩ v) e0 r1 e2 (r3.set k v) :=
  ⟨h.z0.other (w' := wr) _ _ (by omega), h.z1.other (w' := wr) _ _ (by omega), h.z2.other (w' := wr) _ _ (by omega), h.z3.set k v, h.b.setCell (p := ⟨w.heap.size + 3, k, none⟩) (by simp) _⟩
theorem Sq.new (w : World) (e0 r1 e2 r3 : Array Value) (t0 t1 t2 t3 : TypeId) : Sq w ((((w.alloc (.cells e0 t0)).alloc (.cells r1 t1)).alloc (.cells e2 t2)).alloc (.cells r3 t3)) e0.toList r1.toList e2.toList r3.toList := by
  have b1 := (Below.refl w.heap.size w).alloc (Nat.le_refl _) (.cells e0 t0)
  have z1 := Zb.new w e0 t0
  have z2 := Zb.new (w.alloc (.cells e0 t0)) r1 t1
  generalize hw1 : w.alloc (.cells e0 t0) = w1 at *
  have s1 : w1.heap.size = w.heap.size + 1 := by rw [← hw1]; simp
  rw [s1] at z2
  clear hw1
  have b2 := (Below.refl w1.heap.size w1).alloc (Nat.le_refl _) (.cells r1 t1)
  have z3 := Zb.new (w1.alloc (.cells r1 t1)) e2 t2
  generalize hw2 : w1.alloc (.cells r1 t1) = w2 at *
  have s2 : w2.heap.size = w.heap.size + 2 := by rw [← hw2]; simp; omega
  rw [s2] at z3
  clear hw2
  have b3 := (Below.refl w2.heap.size w2).alloc (Nat.le_refl _) (.cells e2 t2)
  have z4 := Zb.new (w2.alloc (.cells e2 t2)) r3 t3
  generalize hw3 : w2.alloc (.cells e2 t2) = w3 at *
  have s3 : w3.heap.size = w.heap.size + 3 := by rw [← hw3]; simp; omega
  rw [s3] at z4
  clear hw3
  have b4 := (Below.refl w3.heap.size w3).alloc (Nat.le_refl _) (.cells r3 t3)
  exact ⟨((z1.below b2).below b3).below b4, (z2.below b3).below b4, z3.below b4, z4, ((b1.trans (b2.mono (by omega))).trans (b3.mono (by omega))).trans (b4.mono (by omega))⟩
end Mnf
end Go.Proofs.YtjbnnhephagdmaaDoor
