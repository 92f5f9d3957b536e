import Derived.Test.YtanpbknjnpmmnaaMr7
import Derived.ScopeJumps
import Derived.WalkMore
namespace Go.Proofs.Ytanpbknjnpmmnaa
namespace Mnf
open Go.RowKit CMath Byt Cod Crw Irw Laws
set_option linter.unusedVariables false
set_option linter.unusedSimpArgs false
set_option maxRecDepth 20000
/-- a scope in which the run jumps forward to one label alone -/
theorem wp_scope_fwd {P : Program} {a : Act} {w : World} {Q : Exit → Act → World → Prop} {c rest : Code} (l : Nat) (hf : findLabel c l = some rest)
    (first : c.wp P (Exit.jump l (fun a w => rest.wp P (Exit.noGoto Q) a w) Q) a w) : (Code.scope c).wp P Q a w :=
  wp_scope_jumps l (fun a w => rest.wp P (Exit.noGoto Q) a w) (fun _ _ => 0) hf first (fun a w h => Code.wp_mono (fun e a' w' (hq : Exit.noGoto Q e a' w') => by
    cases e <;> first | exact hq | exact hq.elim) h)
abbrev Sv := Option Addr × Nat × Nat
def svV (s : Sv) : Value := .slice s.1 s.2.1 s.2.2
/-- an edit as a value -/
def evV (x y z : Nat) (o i p : Sv) : Value := .agg #[.int .u64 (x : Int), .int .u64 (y : Int), .int .u64 (z : Int), .slice o.1 o.2.1 o.2.2, .slice i.1 i.2.1 i.2.2, .slice p.1 p.2.1 p.2.2]
def evC (x y z : Nat) (o i p : Sv) : List Value := [.int .u64 (x : Int), .int .u64 (y : Int), .int .u64 (z : Int), .slice o.1 o.2.1 o.2.2, .slice i.1 i.2.1 i.2.2, .slice p.1 p.2.1 p.2.2]
set_option maxHeartbeats 1000000 in
theorem tables_any (x y z : Nat) (o i p : Sv) (w : World) (ho : o.2.1 ≤ 1000000000000) (hi : i.2.1 ≤ 1000000000000) :
    Calls Try.prog 50 #[evV x y z o i p] w fun e w' => e = .returned (.int .i64 ((o.2.1 + i.2.1 : Nat) : Int)) ∧ Below w.heap.size w w' := by
  obtain ⟨oa, ol, oc⟩ := o
  obtain ⟨ia, il, ic⟩ := i
  obtain ⟨pa, pl, pc⟩ := p
  dsimp only at ho hi
  unfold evV
  dsimp only
  go_enter Try.func50, Try.ntmps50
  go_wp2
  go_ret
  exact ⟨by first | rfl | (congr 2), (Below.refl _ _).alloc (Nat.le_refl _) _⟩
set_option maxHeartbeats 1000000 in
theorem full_any (x y z : Nat) (o i p : Sv) (w : World) (ho : o.2.1 ≤ 1000000000000) (hi : i.2.1 ≤ 1000000000000) :
    Calls Try.prog 49 #[evV x y z o i p] w fun e w' => e = .returned (.bool (decide (o.2.1 + i.2.1 = 256) && decide (p.2.1 = 0))) ∧ Below w.heap.size w w' := by
  have HT : Hid (∀ w, Calls Try.prog 50 #[evV x y z o i p] w fun e w' => e = .returned (.int .i64 ((o.2.1 + i.2.1 : Nat) : Int)) ∧ Below w.heap.size w w') := fun w => tables_any x y z o i p w ho hi
  obtain ⟨oa, ol, oc⟩ := o
  obtain ⟨ia, il, ic⟩ := i
  obtain ⟨pa, pl, pc⟩ := p
  dsimp only at ho hi
  unfold evV at HT ⊢
  dsimp only at HT ⊢
  obtain ⟨t, ht⟩ : ∃ t, ol + il = t := ⟨_, rfl⟩
  rw [ht] at HT ⊢
  clear ht
  by_cases h1 : t = 256
  · subst h1
    go_enter Try.func49, Try.ntmps49
    go_wp2_with (go_at_call 50; go_loud (refine (HT.out _).mono ?_; rintro e w1 ⟨rfl, hb1⟩; have HB : Hid (Below w.heap.size w w1) := ((Below.refl _ _).alloc (Nat.le_refl _) _).trans (hb1.mono (by simp)); have d5 := ((Zb.new w #[.int .u64 (x : Int), .int .u64 (y : Int), .int .u64 (z : Int), .slice oa ol oc, .slice ia il ic, .slice pa pl pc] 61).below hb1).2.1 5 _ rfl; clear hb1))
    go_ret
    refine ⟨?_, HB.out⟩
    by_cases hp : pl = 0
    · subst hp; rfl
    · have : ¬ (pl : Int) = 0 := by omega
      simp [hp]
  · have q1 : ((t : Int) == 256) = false := beq_eq_false_iff_ne.2 (by omega)
    go_enter Try.func49, Try.ntmps49
    go_wp2_with (go_at_call 50; go_loud (refine (HT.out _).mono ?_; rintro e w1 ⟨rfl, hb1⟩; have HB : Hid (Below w.heap.size w w1) := ((Below.refl _ _).alloc (Nat.le_refl _) _).trans (hb1.mono (by simp)); clear hb1))
    go_ret
    refine ⟨?_, HB.out⟩
    simp [h1]
/-- a record as it lies -/
def recC (last : Bool) (x y z : Nat) (o i p : Sv) : List Value := .bool last :: evC x y z o i p
def recV (last : Bool) (x y z : Nat) (o i p : Sv) : Value := .agg #[.bool last, .int .u64 (x : Int), .int .u64 (y : Int), .int .u64 (z : Int), .slice o.1 o.2.1 o.2.2, .slice i.1 i.2.1 i.2.2, .slice p.1 p.2.1 p.2.2]
def nS : Sv := (none, 0, 0)
theorem res_rec {fn : Func} {p u : Tmp} (h : fn.results = #[.cell p 65, .tmp u]) (tmps : Array Value) (w : World) (B : Nat) (last : Bool) (x y z : Nat) (o i q : Sv) (hp : tmps.getD p undef = .pointer (some ⟨B, 0, none⟩)) (hz : Zb w B (recC last x y z o i q)) :
    (results fn tmps).run Try.prog w = .ok (.tuple #[recV last x y z o i q, tmps.getD u undef]) w := by
  have c0 := hz.2.1 0 _ rfl
  have c1 := hz.2.1 1 _ rfl
  have c2 := hz.2.1 2 _ rfl
  have c3 := hz.2.1 3 _ rfl
  have c4 := hz.2.1 4 _ rfl
  have c5 := hz.2.1 5 _ rfl
  have c6 := hz.2.1 6 _ rfl
  simp only [results, h]
  have hp' : tmps[p]?.getD undef = .pointer (some ⟨B, 0, none⟩) := by simpa using hp
  simp [Sem.run_bind, Result.andThen, hp', go_sem, c0, c1, c2, c3, c4, c5, c6, recV]
/-- the record while it is read: the answer's block, its own -/
structure Rr (w wr : World) (last : Bool) (x y z : Nat) (o i p : Sv) : Prop where
  z0 : Zb wr w.heap.size (recC false 0 0 0 nS nS nS)
  z4 : Zb wr (w.heap.size + 1) (recC last x y z o i p)
  b : Below w.heap.size w wr
theorem Rr.below {w wr w' : World} {last : Bool} {x y z : Nat} {o i p : Sv} (h : Rr w wr last x y z o i p) (hb : Below wr.heap.size wr w') : Rr w w' last x y z o i p :=
  ⟨h.z0.below hb, h.z4.below hb, h.b.trans (hb.mono h.b.size)⟩
theorem Rr.set {w wr : World} {last : Bool} {x y z : Nat} {o i p : Sv} (h : Rr w wr last x y z o i p) (k : Nat) (v : Value) (last' : Bool) (x' y' z' : Nat) (o' i' p' : Sv) (hk : (recC last x y z o i p).set k v = recC last' x' y' z' o' i' p') : Rr w (wr.setCell ⟨w.heap.size + 1, k, none⟩ v) last' x' y' z' o' i' p' :=
  ⟨h.z0.other (w' := wr) _ _ (by omega), hk ▸ h.z4.set k v, h.b.setCell (p := ⟨w.heap.size + 1, k, none⟩) (by simp) _⟩
theorem Rr.end_ {w wr : World} {last : Bool} {x y z : Nat} {o i p : Sv} (h : Rr w wr last x y z o i p) (last' : Bool) (x' y' z' : Nat) (o' i' p' : Sv) : Zb (sets wr w.heap.size 0 (recC last' x' y' z' o' i' p')) w.heap.size (recC last' x' y' z' o' i' p') ∧ Below w.heap.size w (sets wr w.heap.size 0 (recC last' x' y' z' o' i' p')) :=
  ⟨h.z0.sets (by simp [recC, evC]), sets_below w.heap.size (Nat.le_refl _) _ 0 h.b⟩
end Mnf
end Go.Proofs.Ytanpbknjnpmmnaa
