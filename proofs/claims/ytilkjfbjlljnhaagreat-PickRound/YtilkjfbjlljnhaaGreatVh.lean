import Derived.Test.YtilkjfbjlljnhaaGreatVg
import Derived.Deep.RegionWith
import Derived.Deep.RegionHeld3
import Derived.Deep.Cut
import Derived.Deep.DeepCutAuto
import Derived.Deep.QuietTactic
import Derived.BigQuiet
namespace Go.Proofs.YtilkjfbjlljnhaaGreat
namespace Vr
open Go.RowKit Go.Maps Go.ChangeMaps Go.MapKept Laws Irw Crw
set_option linter.unusedVariables false
set_option linter.unusedSimpArgs false
set_option maxRecDepth 20000
def U64 : Nat := 18446744073709551616
theorem law64 : Keyed Tryz.prog 41 := int_keyed Tryz.underlying41
theorem wf64 {n : Nat} (h : n < U64) : (Lit.int .u64 (n : Int)).wf = true := by
  unfold U64 at h
  exact WalkArith.wf_u64 (by omega)
theorem key64 {n : Nat} (h : n < U64) : keyOf Tryz.prog 41 (.int .u64 (n : Int)) = some (.int .u64 (n : Int)) := keyOf_int_mk Tryz.underlying41 (wf64 h)
theorem zeroI (w : World) : (zeroValue 3).run Tryz.prog w = .ok (.int .i64 0) w := by kernel_rfl
abbrev OwnM (w : World) (mb m : Nat) (D : Dat) : Prop := w.ownsMap Tryz.prog 41 (plainElem Tryz.prog 3) mb m D
theorem OwnM.block {w w' : World} {mb m : Nat} {D : Dat} (h : OwnM w mb m D) (hb : w'.heap[mb]? = w.heap[mb]?) : OwnM w' mb m D := by
  obtain ⟨es, c, h1, h2⟩ := h
  exact ⟨es, c, hb.trans h1, h2⟩
/-- which numbers stand -/
structure WAt (T : Nat → Nat) (w : World) (t mb : Nat) (ns : List Nat) : Prop where
  tag : T mb = t
  own : ∃ D : Dat, OwnM w mb ns.length D ∧ ∀ n : Nat, n < U64 → Maps.has D (.int .u64 (n : Int)) = decide (n ∈ ns)
theorem WAt.lt {T : Nat → Nat} {w : World} {t mb : Nat} {ns : List Nat} (h : WAt T w t mb ns) : mb < w.heap.size := by
  obtain ⟨D, h1, _⟩ := h.own
  exact h1.lt
theorem WAt.goes {p : Nat → Prop} {T T' : Nat → Nat} {w w' : World} {t mb : Nat} {ns : List Nat} (h : WAt T w t mb ns) (hg : Goes p T w T' w') (ht : ¬ p t) : WAt T' w' t mb ns := by
  have hlt := h.lt
  obtain ⟨D, h1, h2⟩ := h.own
  exact ⟨(hg.tag mb hlt (by rw [h.tag]; exact ht)).trans h.tag, D, h1.block (hg.block mb hlt (by rw [h.tag]; exact ht)), h2⟩
theorem goes_map {T : Nat → Nat} {w w' : World} {t mb : Nat} (hT : T mb = t) (hg : w.grownBy w' (some mb)) : Goes (· = t) T w T w' :=
  ⟨hg.os, hg.tape, hg.output, hg.size, fun b hb ht => hg.block b hb (fun e => ht (by cases e; exact hT)), fun _ _ _ => rfl, fun _ _ h => h⟩
theorem lit_ne {a b : Nat} (h : a ≠ b) : (Lit.int .u64 (a : Int)) ≠ .int .u64 (b : Int) := by
  intro e
  simp only [Lit.int.injEq, true_and] at e
  omega
theorem WAt.put {T : Nat → Nat} {w : World} {t mb : Nat} {ns : List Nat} (h : WAt T w t mb ns) (n : Nat) (v : Int) (hn : n < U64) (hv : (Lit.int .i64 v).wf = true) (hl : ns.length < 1000000000) :
    ∃ w', (Instr.mapUpdate 84 (.map (some mb)) (.int .u64 (n : Int)) (.int .i64 v)).run Tryz.prog w = .ok () w' ∧ WAt T w' t mb (ns ++ [n]) ∧ Goes (· = t) T w T w' := by
  obtain ⟨D, h1, h2⟩ := h.own
  obtain ⟨w', hr, h3, h4⟩ := World.ownsMap.update h1 law64 Tryz.underlying84 (by unfold maxLen; omega) (key64 hn) (plainElem_int Tryz.underlying3 hv)
  refine ⟨w', hr, ⟨h.tag, _, by rw [List.length_append, List.length_singleton]; exact h3, fun k hk => ?_⟩, goes_map h.tag h4⟩
  by_cases e : k = n
  · subst e
    rw [Maps.has_put_same h1.isMap (by simp [WideAt.IsKeyLit])]
    simp
  · rw [Maps.has_put_other (lit_ne e), h2 k hk]
    simp [e]
theorem WAt.look {T : Nat → Nat} {w : World} {t mb : Nat} {ns : List Nat} (h : WAt T w t mb ns) (n : Nat) (hn : n < U64) :
    ∃ c : Int, (Instr.lookup 84 (.map (some mb)) (.int .u64 (n : Int)) true).run Tryz.prog w = .ok (.tuple #[.int .i64 c, .bool (decide (n ∈ ns))]) w := by
  obtain ⟨D, h1, h2⟩ := h.own
  obtain ⟨v, ps, hr, hv⟩ := World.ownsMap.look_ok h1 law64 Tryz.underlying84 (zeroI w) (plainElem_int Tryz.underlying3 (by decide)) (key64 hn)
  obtain ⟨c, rfl, _, _⟩ := plainElem_int_inv Tryz.underlying3 hv
  rw [h2 n hn] at hr
  exact ⟨c, hr⟩
theorem WAt.made {T : Nat → Nat} {w : World} {t mb : Nat} (hT : T mb = t) (hm : w.heap[mb]? = some (Obj.map #[] 0)) : WAt T w t mb [] :=
  ⟨hT, .map [], ⟨#[], 0, hm, ⟨by simp, stamped_empty 0, by simp⟩, Nat.le_refl _, rfl⟩, fun n _ => by simp [Maps.has]⟩
/-- a draft: its block has tag 5, its map 4, its list of levels 3, the i-th level 10 + i -/
structure DAt (w0 : World) (T : Nat → Nat) (w : World) (db mb : Nat) (ls : Sv) (V : Lv) (ns : List Nat) : Prop where
  old : Old w0 T w
  td : T db = 5
  box : Zb w db [svV ls, .map (some mb)]
  lvl : ∃ vs : List Sv, OwnK kS 3 T w (svV ls) vs ∧ vs.length = V.length ∧ ∀ (i : Nat) v l, vs[i]? = some v → V[i]? = some l → OwnK kTb (10 + i) T w (svV v) l
  map : WAt T w 4 mb ns
theorem DAt.goes {p : Nat → Prop} {w0 : World} {T T' : Nat → Nat} {w w' : World} {db mb : Nat} {ls : Sv} {V : Lv} {ns : List Nat} (h : DAt w0 T w db mb ls V ns) (hg : Goes p T w T' w') (h0 : ¬ p 0) (h3 : ¬ p 3) (h4 : ¬ p 4) (h5 : ¬ p 5) (h10 : ∀ i, ¬ p (10 + i)) : DAt w0 T' w' db mb ls V ns := by
  obtain ⟨vs, l1, l2, l3⟩ := h.lvl
  exact ⟨h.old.goes hg h0, (hg.tag db h.box.1 (by rw [h.td]; exact h5)).trans h.td, h.box.goes hg (by rw [h.td]; exact h5), ⟨vs, l1.goes hg h3, l2, fun i v l hv hl => (l3 i v l hv hl).goes hg (h10 i)⟩, h.map.goes hg h4⟩
theorem DAt.below {w0 : World} {T : Nat → Nat} {w w' : World} {db mb : Nat} {ls : Sv} {V : Lv} {ns : List Nat} (h : DAt w0 T w db mb ls V ns) (hb : Below w.heap.size w w') : DAt w0 T w' db mb ls V ns :=
  h.goes (Goes.below (t := fun _ => False) hb) (fun z => z) (fun z => z) (fun z => z) (fun z => z) (fun _ z => z)
/-- a number is laid into the map -/
theorem DAt.put {w0 : World} {T : Nat → Nat} {w : World} {db mb : Nat} {ls : Sv} {V : Lv} {ns : List Nat} (h : DAt w0 T w db mb ls V ns) (n : Nat) (v : Int) (hn : n < U64) (hv : (Lit.int .i64 v).wf = true) (hl : ns.length < 1000000000) :
    ∃ w', (Instr.mapUpdate 84 (.map (some mb)) (.int .u64 (n : Int)) (.int .i64 v)).run Tryz.prog w = .ok () w' ∧ DAt w0 T w' db mb ls V (ns ++ [n]) ∧ Goes (· = 4) T w T w' := by
  obtain ⟨w', hr, h1, h2⟩ := h.map.put n v hn hv hl
  obtain ⟨vs, l1, l2, l3⟩ := h.lvl
  exact ⟨w', hr, ⟨h.old.goes h2 (by decide), h.td, h.box.goes h2 (by rw [h.td]; decide), ⟨vs, l1.goes h2 (by decide), l2, fun i v l hv hl => (l3 i v l hv hl).goes h2 (by omega)⟩, h1⟩, h2⟩
end Vr
end Go.Proofs.YtilkjfbjlljnhaaGreat
