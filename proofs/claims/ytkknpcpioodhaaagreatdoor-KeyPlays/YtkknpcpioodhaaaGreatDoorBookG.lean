import Derived.Test.YtkknpcpioodhaaaGreatDoorProg
import Derived.Test.YtkknpcpioodhaaaGreatDoorBookI
import Derived.WalkKit
import Derived.WalkSpells
import Derived.WalkLawsBesides
import Derived.ArgAppend
import Derived.Deep.RegionLaw
import Derived.Deep.DrawnRows
namespace Go.Proofs.YtkknpcpioodhaaaGreatDoor
namespace Book
open Go.RowKit KMath Cmp Ent Chk Wei Ents Laws
set_option linter.unusedVariables false
attribute [local go_sem ↓] Go.wp_at_zero Go.wp_at_succ

theorem info66 : (Tryz.prog.info? 66).map (fun i => (i.zero, i.size, i.bytes)) = some (some (.slice none 0 0), 1, 24) := by kernel_rfl
theorem info3 : (Tryz.prog.info? 3).map (fun i => (i.zero, i.size, i.bytes)) = some (some (.int .i64 0), 1, 8) := by kernel_rfl
theorem cellsE_length (l : List En) : (cellsE l).length = l.length * 4 := by
  induction l with
  | nil => rfl
  | cons x l ih => simp [cellsE] at ih ⊢; omega
theorem cellsE_one (l : List En) : ∀ u ∈ cellsE l, u.oneCell' = true := by
  intro u hu
  simp only [cellsE, List.mem_flatMap] at hu
  obtain ⟨x, _, hx⟩ := hu
  simp at hx
  rcases hx with rfl | rfl | rfl | rfl <;> rfl
/-- The cells of an owned row, as an append reads them. -/
theorem own_news {w : World} {base : Nat} {e : TypeId} {size g n c : Nat} {xs : List Value} (h : w.ownsRow base e size (.slice (some ⟨g, 0, none⟩) n c) n xs) : ∀ j u, xs[j]? = some u → w.cell? ((⟨g, 0, none⟩ : Addr).add j) = some u := h.cells rfl
theorem own_base {w : World} {base base' : Nat} {e : TypeId} {size n : Nat} {v : Value} {xs : List Value} (h : w.ownsRow base e size v n xs) (hb : ∀ g, v.ownBlock = some g → base' ≤ g) : w.ownsRow base' e size v n xs := by
  obtain ⟨h1, h2⟩ := h
  refine ⟨h1, ?_⟩
  rcases h2 with h2 | ⟨g, c, cur, hv, hg, hr⟩
  · exact .inl h2
  · exact .inr ⟨g, c, cur, hv, hb g (by rw [hv]; rfl), hr⟩

/-- One list is laid on: the inner loop's relation. -/
def Grown (wo wi : World) (a : Item) (v : Value) (m : Nat) : Prop :=
  Below wo.heap.size wo wi ∧ ((m = 0 ∧ v = .slice (some ⟨a.1, 0, none⟩) a.2.2.length a.2.2.length) ∨ (0 < m ∧ ∃ gb cb es', es'.length = a.2.2.length + m ∧ v = .slice (some ⟨gb, 0, none⟩) (a.2.2.length + m) cb ∧ wi.ownsRow wo.heap.size 49 4 (.slice (some ⟨gb, 0, none⟩) (a.2.2.length + m) cb) (a.2.2.length + m) (cellsE es')))

theorem Grown.first {wo wi w2 : World} {a : Item} {v' : Value} {s : Int} {o : Obj} (hb : Below wo.heap.size wo wi) (hgr : (wi.alloc o).grownBy w2 none) (hown : w2.ownsRow (wi.alloc o).heap.size 49 4 v' (a.2.2.length + 1) (cellsE a.2.2 ++ [.string ⟨#[]⟩, .int .u64 s, .bool false, .string ⟨#[]⟩])) : Grown wo w2 a v' 1 := by
  have hs := hb.size
  refine ⟨((hb.alloc hs _).grown hgr (by simp; omega) (fun k hk => by cases hk)), .inr ⟨by omega, ?_⟩⟩
  rcases hown.2 with ⟨_, h0⟩ | ⟨g, c, cur, hv, _⟩
  · omega
  · subst hv
    refine ⟨g, c, a.2.2 ++ [(⟨#[]⟩, s, false, ⟨#[]⟩)], by simp, rfl, ?_⟩
    rw [cellsE_append]
    exact own_base hown (fun g' hg' => by have := (hown.lt g' hg').1; simp at this; omega)
theorem Grown.next {wo wi w2 : World} {a : Item} {gb cb m : Nat} {es' : List En} {v' : Value} {s : Int} {o : Obj} (hb : Below wo.heap.size wo wi) (hl : es'.length = a.2.2.length + m)
    (hwi : wi.ownsRow wo.heap.size 49 4 (.slice (some ⟨gb, 0, none⟩) (a.2.2.length + m) cb) (a.2.2.length + m) (cellsE es'))
    (hgr : (wi.alloc o).grownBy w2 (Value.slice (some ⟨gb, 0, none⟩) (a.2.2.length + m) cb).ownBlock) (hown : w2.ownsRow wo.heap.size 49 4 v' (a.2.2.length + m + 1) (cellsE es' ++ [.string ⟨#[]⟩, .int .u64 s, .bool false, .string ⟨#[]⟩])) : Grown wo w2 a v' (m + 1) := by
  have hs := hb.size
  refine ⟨((hb.alloc hs _).grown hgr (by simp; omega) (fun k hk => (hwi.lt k hk).1)), .inr ⟨by omega, ?_⟩⟩
  rcases hown.2 with ⟨_, h0⟩ | ⟨g, c, cur, hv, _⟩
  · omega
  · subst hv
    refine ⟨g, c, es' ++ [(⟨#[]⟩, s, false, ⟨#[]⟩)], by simp [hl]; omega, rfl, ?_⟩
    rw [cellsE_append]
    exact hown

/-- The outer loop's relation. -/
def GrowSt (T : Nat → Nat) (w : World) (K : Nat) (f : Nat → Value) (L : Nat → List Value) (o : List (Item × Item)) (k : Nat) (wr : World) : Prop :=
  ∃ T' f' L' r, Core T' wr K f' L' ∧ Its 100 T' wr (o ++ r) ∧ L' 40 = (o ++ r).map (fun p => vI p.1) ∧ L' 41 = (o ++ r).map (fun p => vI p.2) ∧ r.length = k ∧ (∀ j, j ≠ 40 → j ≠ 41 → f' j = f j ∧ L' j = L j) ∧ Past 1000000 T w T' wr

/-- A copy in a block of its own. -/
theorem copied {W w1 : World} {e : TypeId} {n g c : Nat} {xs : List Value} {o : Obj} (hgr : ((W.alloc o).drew).grownBy w1 (Value.slice (some ⟨W.heap.size, 0, none⟩) 0 0).ownBlock) (hat : (Value.slice (some ⟨W.heap.size, 0, none⟩) 0 0).ownBlock = some g ∨ g = W.heap.size + 1)
    (hown : w1.ownsRow 0 e 4 (.slice (some ⟨g, 0, none⟩) (0 + n) c) (0 + n) ([] ++ xs)) : Below W.heap.size W w1 ∧ W.heap.size ≤ g ∧ w1.ownsRow 0 e 4 (.slice (some ⟨g, 0, none⟩) n c) n xs := by
  refine ⟨(((Below.refl _ _).alloc (Nat.le_refl _) o).drew).grown hgr (by simp) (fun k hk => ?_), ?_, by simpa using hown⟩
  · have : W.heap.size = k := by simpa [Value.ownBlock] using hk
    omega
  · rcases hat with h | h
    · have : W.heap.size = g := by simpa [Value.ownBlock] using h
      omega
    · omega

/-- Core.app as a walk meets it: one thing is laid in a block of its own first. -/
theorem appJ {T : Nat → Nat} {w w1 : World} {K : Nat} {f : Nat → Value} {L : Nat → List Value} {j : Nat} {x : Value} {aj : Option Addr} {cj g cap : Nat} {o : Obj} (h1 : 40 ≤ j) (h2 : j < 48) (h : Core T w K f L) (hf : f j = .slice aj (L j).length cj)
    (hgr : (w.alloc o).grownBy w1 (Value.slice aj (L j).length cj).ownBlock) (hat : (Value.slice aj (L j).length cj).ownBlock = some g ∨ g = w.heap.size + 1)
    (hown : w1.ownsRow 0 (ety j) 1 (.slice (some ⟨g, 0, none⟩) ((L j).length + 1) cap) ((L j).length + 1) (L j ++ [x])) :
    Fld w1 K f ∧ Core (upd T g j) (w1.setCell ⟨K, j, none⟩ (.slice (some ⟨g, 0, none⟩) ((L j).length + 1) cap)) K (upd f j (.slice (some ⟨g, 0, none⟩) ((L j).length + 1) cap)) (upd L j (L j ++ [x])) ∧
      Past 48 T w (upd T g j) (w1.setCell ⟨K, j, none⟩ (.slice (some ⟨g, 0, none⟩) ((L j).length + 1) cap)) := by
  rw [← hf] at hgr hat
  exact ⟨h.mid j h1 h2 (Keep.alloc [] w o) hgr, h.app j h1 h2 x (Keep.alloc [] w o) hgr (by rcases hat with h' | h'; exact .inl h'; exact .inr (by omega)) hown⟩
/-- The same, behind a copy that was made first, in a block of its own (its tag: t). -/
theorem appC {T : Nat → Nat} {W w w1 : World} {K : Nat} {f : Nat → Value} {L : Nat → List Value} {j : Nat} {x : Value} {aj : Option Addr} {cj g cap g3 : Nat} {o : Obj} {Lj : List Value} (t : Nat) (h1 : 40 ≤ j) (h2 : j < 48) (h : Core T W K f L) (hL : L j = Lj) (hf : f j = .slice aj Lj.length cj) (hB : Below W.heap.size W w) (hg3 : W.heap.size ≤ g3)
    (hgr : (w.alloc o).grownBy w1 (Value.slice aj Lj.length cj).ownBlock) (hat : (Value.slice aj Lj.length cj).ownBlock = some g ∨ g = w.heap.size + 1)
    (hown : w1.ownsRow 0 (ety j) 1 (.slice (some ⟨g, 0, none⟩) (Lj.length + 1) cap) (Lj.length + 1) (Lj ++ [x])) :
    Fld w1 K f ∧ Core (upd (upd T g3 t) g j) (w1.setCell ⟨K, j, none⟩ (.slice (some ⟨g, 0, none⟩) (Lj.length + 1) cap)) K (upd f j (.slice (some ⟨g, 0, none⟩) (Lj.length + 1) cap)) (upd L j (Lj ++ [x])) ∧
      Past 48 T W (upd (upd T g3 t) g j) (w1.setCell ⟨K, j, none⟩ (.slice (some ⟨g, 0, none⟩) (Lj.length + 1) cap)) ∧
      Past 48 (upd T g3 t) w (upd (upd T g3 t) g j) (w1.setCell ⟨K, j, none⟩ (.slice (some ⟨g, 0, none⟩) (Lj.length + 1) cap)) := by
  subst hL
  obtain ⟨a1, a2, a3⟩ := appJ h1 h2 ((h.tagNew g3 t hg3).below hB) hf hgr hat hown
  exact ⟨a1, a2, ((Past.tagNew g3 t hg3).trans (Past.below hB)).trans a3, a3⟩
theorem app40 {T : Nat → Nat} {w w1 : World} {K : Nat} {f : Nat → Value} {L : Nat → List Value} {x : Value} {aj : Option Addr} {cj g cap : Nat} {o : Obj} (h : Core T w K f L) (hf : f 40 = .slice aj (L 40).length cj)
    (hgr : (w.alloc o).grownBy w1 (Value.slice aj (L 40).length cj).ownBlock) (hat : (Value.slice aj (L 40).length cj).ownBlock = some g ∨ g = w.heap.size + 1)
    (hown : w1.ownsRow 0 66 1 (.slice (some ⟨g, 0, none⟩) ((L 40).length + 1) cap) ((L 40).length + 1) (L 40 ++ [x])) :
    Fld w1 K f ∧ Core (upd T g 40) (w1.setCell ⟨K, 40, none⟩ (.slice (some ⟨g, 0, none⟩) ((L 40).length + 1) cap)) K (upd f 40 (.slice (some ⟨g, 0, none⟩) ((L 40).length + 1) cap)) (upd L 40 (L 40 ++ [x])) ∧
      Past 48 T w (upd T g 40) (w1.setCell ⟨K, 40, none⟩ (.slice (some ⟨g, 0, none⟩) ((L 40).length + 1) cap)) := appJ (by omega) (by omega) h hf hgr hat hown

/-- What stands behind growEntries. -/
def GrowDone (T : Nat → Nat) (w : World) (K : Nat) (f : Nat → Value) (L : Nat → List Value) (o : List (Item × Item)) (k : Nat) (wr : World) : Prop :=
  ∃ T' f' L' r, Core T' wr K f' L' ∧ Its 100 T' wr (o ++ r) ∧ L' 40 = (o ++ r).map (fun p => vI p.1) ∧ L' 41 = (o ++ r).map (fun p => vI p.2) ∧ r.length = k ∧ f' 44 = .slice none 0 0 ∧ f' 47 = .slice none 0 0 ∧ L' 44 = [] ∧ L' 47 = [] ∧ (∀ j, j ≠ 40 → j ≠ 41 → j ≠ 44 → j ≠ 47 → f' j = f j ∧ L' j = L j) ∧ Past 1000000 T w T' wr

/-- A spine is let go. -/
theorem Core.clear {T : Nat → Nat} {w : World} {K : Nat} {f : Nat → Value} {L : Nat → List Value} (h : Core T w K f L) (j : Nat) (h1 : 40 ≤ j) (h2 : j < 48) : Core T (w.setCell ⟨K, j, none⟩ (.slice none 0 0)) K (upd f j (.slice none 0 0)) (upd L j []) := by
  refine ⟨h.fld.set j (by omega) _, h.tag, fun i i1 i2 => ?_⟩
  by_cases e : i = j
  · subst e
    rw [upd_same, upd_same]
    exact ⟨World.ownsRow_nil _ _ _ _, fun b hb => by cases hb⟩
  · rw [upd_other _ _ e, upd_other _ _ e]
    obtain ⟨s1, s2⟩ := h.spine i i1 i2
    refine ⟨(Keep.set w K j _).own s1 (fun g hg hm => ?_), s2⟩
    have e1 := s2 g hg
    simp at hm
    rw [hm, h.tag] at e1
    omega

theorem growEnd {T : Nat → Nat} {w wo : World} {K : Nat} {f : Nat → Value} {L : Nat → List Value} {o : List (Item × Item)} {k : Nat} (h : GrowSt T w K f L o k wo) :
    GrowDone T w K f L o k ((wo.setCell ⟨K, 44, none⟩ (.slice none 0 0)).setCell ⟨K, 47, none⟩ (.slice none 0 0)) := by
  obtain ⟨T1, f1, L1, r, hC, hI, e40, e41, hr, hs, hP⟩ := h
  have p1 : Past 48 T1 wo T1 (wo.setCell ⟨K, 44, none⟩ (.slice none 0 0)) := Past.set hC.tag (by omega) _ _
  have c1 := hC.clear 44 (by omega) (by omega)
  have p2 : Past 48 T1 (wo.setCell ⟨K, 44, none⟩ (.slice none 0 0)) T1 ((wo.setCell ⟨K, 44, none⟩ (.slice none 0 0)).setCell ⟨K, 47, none⟩ (.slice none 0 0)) := Past.set hC.tag (by omega) _ _
  refine ⟨T1, _, _, r, c1.clear 47 (by omega) (by omega), hI.past (p1.trans p2) (by omega), ?_, ?_, hr, ?_, ?_, ?_, ?_, fun j h1 h2 h3 h4 => ?_, hP.trans ((p1.trans p2).mono (by omega))⟩
  · rw [upd_other _ _ (by omega), upd_other _ _ (by omega)]; exact e40
  · rw [upd_other _ _ (by omega), upd_other _ _ (by omega)]; exact e41
  · rw [upd_other _ _ (by omega), upd_same]
  · rw [upd_same]
  · rw [upd_other _ _ (by omega), upd_same]
  · rw [upd_same]
  · rw [upd_other _ _ h4, upd_other _ _ h3, upd_other _ _ h4, upd_other _ _ h3]; exact hs j h1 h2

theorem growStep {T T2 T3 T5 : Nat → Nat} {w wr W3 w3 W5 : World} {K : Nat} {f f1 f5 : Nat → Value} {L L1 L5 : Nat → List Value} {o r : List (Item × Item)} {k n gb cb g3 c3 : Nat} {es' : List En}
    (hP2 : Past 1000000 T w T2 wr) (hI2 : Its 100 T2 wr (o ++ r)) (hE : L1 40 = (o ++ r).map (fun p => vI p.1) ∧ L1 41 = (o ++ r).map (fun p => vI p.2) ∧ r.length = k ∧ ∀ j, j ≠ 40 → j ≠ 41 → f1 j = f j ∧ L1 j = L j)
    (hP3 : Past 48 T2 wr T3 W3) (hb : OwnI W3 (gb, cb, es') ∧ T3 gb = 100 + 2 * (o ++ r).length ∧ es'.length = n + 30) (hn : n ≤ 1000)
    (hW3 : Below W3.heap.size W3 w3 ∧ W3.heap.size ≤ g3 ∧ w3.ownsRow 0 49 4 (.slice (some ⟨g3, 0, none⟩) (n + 30) c3) (n + 30) (cellsE es'))
    (hC5 : Core T5 W5 K f5 L5) (hP5 : Past 48 T3 W3 T5 W5) (hP5' : Past 48 (upd T3 g3 (100 + 2 * (o ++ r).length + 1)) w3 T5 W5)
    (h40 : L5 40 = L1 40 ++ [.slice (some ⟨gb, 0, none⟩) (n + 30) cb]) (h41 : L5 41 = L1 41 ++ [.slice (some ⟨g3, 0, none⟩) (n + 30) c3]) (hs : ∀ j, j ≠ 40 → j ≠ 41 → f5 j = f1 j ∧ L5 j = L1 j) : GrowSt T w K f L o (k + 1) W5 := by
  obtain ⟨b1, b2, b3⟩ := hb
  obtain ⟨e1, e2, e3, e4⟩ := hE
  obtain ⟨i1, i2⟩ := hP5.item b1 (.inr (by show 48 ≤ T3 gb; omega))
  have t1 : OwnI w3 (g3, c3, es') := by unfold OwnI; rw [b3]; exact hW3.2.2
  have t2 : upd T3 g3 (100 + 2 * (o ++ r).length + 1) g3 = 100 + 2 * (o ++ r).length + 1 := upd_same _ _ _
  obtain ⟨j1, j2⟩ := hP5'.item t1 (.inr (by show 48 ≤ upd T3 g3 (100 + 2 * (o ++ r).length + 1) g3; omega))
  refine ⟨T5, f5, L5, r ++ [((gb, cb, es'), (g3, c3, es'))], hC5, ?_, ?_, ?_, by simp [e3], fun j h1 h2 => ⟨(hs j h1 h2).1.trans (e4 j h1 h2).1, (hs j h1 h2).2.trans (e4 j h1 h2).2⟩, hP2.trans ((hP3.trans hP5).mono (by omega))⟩
  · rw [← List.append_assoc]
    exact ((hI2.past hP3 (by omega)).past hP5 (by omega)).snoc i1 j1 rfl (by show es'.length ≤ 2000; omega) (i2.trans b2) (j2.trans t2)
  · rw [h40, e1, ← List.append_assoc, List.map_append]
    simp [vI, b3]
  · rw [h41, e2, ← List.append_assoc, List.map_append]
    simp [vI, b3]

set_option maxRecDepth 100000 in
set_option maxHeartbeats 8000000 in
theorem growEntries_any (T : Nat → Nat) (w : World) (K : Nat) (f : Nat → Value) (L : Nat → List Value) (o : List (Item × Item)) (fr : List Item) (Fm : List Int) (hC : Core T w K f L) (hO : Its 100 T w o)
    (h40 : L 40 = o.map fun p => vI p.1) (h41 : L 41 = o.map fun p => vI p.2) (h44 : L 44 = fr.map vI) (h47 : L 47 = Fm.map (Value.int .i64)) (hF : Fm.length = fr.length)
    (hfr : ∀ a ∈ fr, (∃ p ∈ o, p.1 = a) ∧ a.2.1 = a.2.2.length ∧ a.2.2.length ≤ 1000) (hlen : o.length + fr.length ≤ 100000) :
    Calls Tryz.prog 96 #[.pointer (some ⟨K, 0, none⟩)] w fun e w' => e = .returned (.tuple #[]) ∧ GrowDone T w K f L o fr.length w' := by
  have HC : Hid (Core T w K f L) := hC
  have HST : Hid (GrowSt T w K f L o 0 w) := ⟨T, f, L, [], hC, by simpa using hO, by simpa using h40, by simpa using h41, rfl, fun _ _ _ => ⟨rfl, rfl⟩, Past.refl _ _ _⟩
  have H44 : Hid (L 44 = fr.map vI) := h44
  have H47 : Hid (L 47 = Fm.map (Value.int .i64)) := h47
  have HF : Hid (Fm.length = fr.length) := hF
  have HFR : Hid (∀ a ∈ fr, (∃ p ∈ o, p.1 = a) ∧ a.2.1 = a.2.2.length ∧ a.2.2.length ≤ 1000) := hfr
  obtain ⟨i66, hi66, hy0, hy1, hy2⟩ := info_parts info66
  obtain ⟨i54, hi54, hz0, hz1, hz2⟩ := info_parts info54
  clear hC hO h40 h41 h44 h47 hF hfr
  go_enter Tryz.func96, Tryz.ntmps96
  go_wp2
  go_loopw [2, 3, 4, 5] (fun k _ _ _ wr => ∃ n : Nat, n ≤ fr.length ∧ k = .int .i64 n ∧ GrowSt T w K f L o n wr) (fun k _ _ _ _ => fr.length - (intOf k).toNat)
  case atStart => exact ⟨0, Nat.zero_le _, rfl, HST.out⟩
  case round =>
    rename World => wo
    obtain ⟨k, hk, rfl, hst⟩ := hrel
    obtain ⟨T1, f1, L1, r, hC1, hI1, e40, e41, hr, hsame, hP1⟩ := hst
    obtain ⟨a44, c44, e44, d44⟩ := hC1.len 44 (by omega) (by omega)
    have hL44 : (L1 44).length = fr.length := by rw [(hsame 44 (by omega) (by omega)).2, H44.out, List.length_map]
    rw [hL44] at e44 d44
    by_cases hlt : k < fr.length
    · obtain ⟨a, ha⟩ : ∃ a, fr[k]? = some a := ⟨_, List.getElem?_eq_getElem hlt⟩
      obtain ⟨fm, hfm⟩ : ∃ x, Fm[k]? = some x := ⟨_, List.getElem?_eq_getElem (by rw [HF.out]; exact hlt)⟩
      obtain ⟨g44, c44', q1, q2, z44, _, r44⟩ := hC1.at 44 (by omega) (by omega) (by intro e; rw [e] at hL44; simp at hL44; omega)
      have hne47 : L1 47 ≠ [] := by
        rw [(hsame 47 (by omega) (by omega)).2, H47.out]
        intro e
        have e' : Fm.length = 0 := by simpa using congrArg List.length e
        have e'' := HF.out
        omega
      obtain ⟨g47, c47, _, d47, z47, _, r47⟩ := hC1.at 47 (by omega) (by omega) hne47
      rw [hL44] at q1 q2
      rw [(hsame 47 (by omega) (by omega)).2, H47.out, List.length_map, HF.out] at d47
      have r1 := r44 k (vI a) (by rw [(hsame 44 (by omega) (by omega)).2, H44.out, List.getElem?_map, ha]; rfl)
      have r2 := r47 k (.int .i64 fm) (by rw [(hsame 47 (by omega) (by omega)).2, H47.out, List.getElem?_map, hfm]; rfl)
      obtain ⟨⟨p, hpo, hpa⟩, hcap, hal⟩ := HFR.out a (List.mem_of_getElem? ha)
      obtain ⟨i0, hi0⟩ := List.getElem?_of_mem hpo
      obtain ⟨hown, _, _, _, htag, _⟩ := hI1 i0 p (by rw [List.getElem?_append_left (List.getElem?_eq_some_iff.1 hi0).1]; exact hi0)
      rw [hpa] at hown htag
      have HOWN : Hid (OwnI wo a) := hown
      rw [q1] at e44
      cases e44
      have HST1 : Hid (GrowSt T w K f L o k wo) := ⟨T1, f1, L1, r, hC1, hI1, e40, e41, hr, hsame, hP1⟩
      unfold vI at r1
      have x1 : (k : Int) < (fr.length : Int) := by omega
      have x0 : (0 : Int) ≤ (k : Int) := by omega
      clear hC1 hI1 e40 e41 hr hsame hP1 hL44 d44 ha hfm r44 r47 hne47 hpo hpa hi0 hown htag q1
      go_wp2
      go_loopw [4, 5] (fun v i wi => ∃ m : Nat, m ≤ 30 ∧ i = .int .i64 m ∧ Grown wo wi a v m) (fun _ i _ => 30 - (intOf i).toNat)
      case atStart => exact ⟨0, by omega, rfl, Below.refl _ _, .inl ⟨rfl, rfl⟩⟩
      case round =>
        obtain ⟨m, hm, rfl, hB, hG⟩ := hrel
        have HB : Hid (Below wo.heap.size wo wr) := hB
        have hsz := hB.size
        by_cases hm30 : m < 30
        · rcases hG with ⟨rfl, rfl⟩ | ⟨hm0, gb, cb, es', hl', rfl, hown'⟩
          · have HOW : Hid (OwnI wr a) := HOWN.out.below hB
            clear hB
            go_wp2_with (at_builtin; refine wpList_append_grows _ (by rfl) (.tmp 33) (.tmp 41) 66 (by rfl) 49 i54 _ 4 48 Tryz.underlying66 hi54 hz0 hz1 hz2 rfl (by omega) (some ⟨a.1, 0, none⟩) a.2.2.length a.2.2.length (cellsE a.2.2) (by rfl) (by intro e; cases e) (cellsE_length _) (by intro b hb j u hu; cases hb; exact own_news (World.ownsRow.alloc HOW.out _) j u hu) ⟨wr.heap.size, 0, none⟩ 1 1 [.string ⟨#[]⟩, .int .u64 _, .bool false, .string ⟨#[]⟩] (by rfl) (by rfl) (World.news_of_block (heap_alloc_new wr _)) (by intro u hu; simp at hu; rcases hu with rfl | rfl | rfl | rfl <;> rfl) (by omega) (by unfold maxLen; omega) (by omega) ?_; intro v2 w2 hown2 hgr2; have HG2 : Hid (Grown wo w2 a v2 1) := Grown.first HB.out hgr2 hown2; clear hown2 hgr2)
            go_roundw
            case rel => exact ⟨1, by omega, by go_num, HG2.out⟩
            case measure => simp [intOf]
          · have HOW : Hid (wr.ownsRow wo.heap.size 49 4 (.slice (some ⟨gb, 0, none⟩) (a.2.2.length + m) cb) (a.2.2.length + m) (cellsE es')) := hown'
            have HLL : Hid (es'.length = a.2.2.length + m) := hl'
            clear hB hown' hl'
            go_wp2_with (at_builtin; refine wpList_append_own _ (by rfl) (.tmp 33) (.tmp 41) 66 (by rfl) wo.heap.size 49 i54 _ 4 48 Tryz.underlying66 hi54 hz0 hz1 hz2 rfl (by omega) _ (a.2.2.length + m) (cellsE es') (by rfl) (HOW.out.alloc _) ⟨wr.heap.size, 0, none⟩ 1 1 [.string ⟨#[]⟩, .int .u64 _, .bool false, .string ⟨#[]⟩] (by rfl) (by rfl) (World.news_of_block (heap_alloc_new wr _)) (by intro u hu; simp at hu; rcases hu with rfl | rfl | rfl | rfl <;> rfl) (by unfold maxLen; omega) (by omega) (by simp; omega) ?_; intro v2 w2 hown2 hgr2 _; have HG2 : Hid (Grown wo w2 a v2 (m + 1)) := Grown.next HB.out HLL.out HOW.out hgr2 hown2; clear hown2 hgr2)
            go_roundw
            case rel => exact ⟨m + 1, by omega, by go_num, HG2.out⟩
            case measure => simp [intOf]; omega
        · rcases hG with ⟨rfl, _⟩ | ⟨hm0, gb, cb, es', hl', rfl, hown'⟩
          · omega
          · have hm' : m = 30 := by omega
            subst hm'
            obtain ⟨T1, f1, L1, r, hC1, hI1, e40, e41, hr, hsame, hP1⟩ := HST1.out
            have hgb := (hown'.lt gb rfl)
            have hC2 : Core (upd T1 gb (100 + 2 * (o ++ r).length)) wr K f1 L1 := (hC1.tagNew gb _ hgb.1).below hB
            have hP2 : Past 48 T1 wo (upd T1 gb (100 + 2 * (o ++ r).length)) wr := (Past.tagNew gb _ hgb.1).trans (Past.below hB)
            have HC2 : Hid (Core (upd T1 gb (100 + 2 * (o ++ r).length)) wr K f1 L1) := hC2
            have HP2 : Hid (Past 1000000 T w (upd T1 gb (100 + 2 * (o ++ r).length)) wr) := hP1.trans (hP2.mono (by omega))
            have HI2 : Hid (Its 100 (upd T1 gb (100 + 2 * (o ++ r).length)) wr (o ++ r)) := hI1.past hP2 (by omega)
            have HB2 : Hid (OwnI wr (gb, cb, es') ∧ (upd T1 gb (100 + 2 * (o ++ r).length)) gb = 100 + 2 * (o ++ r).length ∧ es'.length = a.2.2.length + 30) := ⟨by unfold OwnI; rw [hl']; exact own_base hown' (fun _ _ => Nat.zero_le _), upd_same _ _ _, hl'⟩
            have HE : Hid (L1 40 = (o ++ r).map (fun p => vI p.1) ∧ L1 41 = (o ++ r).map (fun p => vI p.2) ∧ r.length = k ∧ ∀ j, j ≠ 40 → j ≠ 41 → f1 j = f j ∧ L1 j = L j) := ⟨e40, e41, hr, hsame⟩
            have n40 : (L1 40).length ≤ 100000 := by rw [e40]; simp; omega
            have n41 : (L1 41).length ≤ 100000 := by rw [e41]; simp; omega
            obtain ⟨a40, c40, ef40, d40⟩ := hC2.len 40 (by omega) (by omega)
            have HF40 : Hid (f1 40 = .slice a40 (L1 40).length c40) := ef40
            have HO40 : Hid (wr.ownsRow 0 66 1 (.slice a40 (L1 40).length c40) (L1 40).length (L1 40)) := by have := (hC2.spine 40 (by omega) (by omega)).1; rw [ef40] at this; exact this
            generalize upd T1 gb (100 + 2 * (o ++ r).length) = T2 at *
            clear hC1 hI1 e40 e41 hr hsame hP1 hC2 hP2 hown' hl' hB ef40 hm hm0 hm30
            go_wp2_with (at_builtin; refine wpList_app _ (by rfl) (.tmp 47) (.tmp 49) 29 (by rfl) 0 66 i66 _ 1 24 Tryz.underlying29 hi66 hy0 hy1 hy2 rfl (by omega) _ (L1 40).length (L1 40) (by rfl) (HO40.out.alloc _) ⟨wr.heap.size, 0, none⟩ 1 1 [.slice (some ⟨gb, 0, none⟩) (a.2.2.length + 30) cb] (by rfl) (by rfl) (World.news_of_block (heap_alloc_new wr _)) (by intro u hu; simp at hu; subst hu; rfl) (by intro _; omega) (by unfold maxLen; omega) (by omega) (Nat.zero_le _) (wr.heap.size + 1) (by simp) ?_; intro g2 c2 w2 hown2 hgr2 hat2 hlt2; have HR2 : Hid (Fld w2 K f1 ∧ Core (upd T2 g2 40) (w2.setCell ⟨K, 40, none⟩ (.slice (some ⟨g2, 0, none⟩) ((L1 40).length + 1) c2)) K (upd f1 40 (.slice (some ⟨g2, 0, none⟩) ((L1 40).length + 1) c2)) (upd L1 40 (L1 40 ++ [.slice (some ⟨gb, 0, none⟩) (a.2.2.length + 30) cb])) ∧ Past 48 T2 wr (upd T2 g2 40) (w2.setCell ⟨K, 40, none⟩ (.slice (some ⟨g2, 0, none⟩) ((L1 40).length + 1) c2))) := app40 HC2.out HF40.out hgr2 hat2 hown2; have s40 := (HR2.out.1.2 40 (by omega)).1; have z40 := (HR2.out.1.2 40 (by omega)).2; clear hown2 hgr2 hat2)
            generalize w2.setCell ⟨K, 40, none⟩ (.slice (some ⟨g2, 0, none⟩) ((L1 40).length + 1) c2) = W3 at *
            obtain ⟨_, hC3, hP3⟩ := HR2.out
            have hb3 := hP3.item HB2.out.1 (.inr (by rw [HB2.out.2.1]; omega))
            have HB3 : Hid (OwnI W3 (gb, cb, es') ∧ (upd T2 g2 40) gb = 100 + 2 * (o ++ r).length ∧ es'.length = a.2.2.length + 30) := ⟨hb3.1, hb3.2.trans HB2.out.2.1, HB2.out.2.2⟩
            obtain ⟨a41, c41, ef41, d41⟩ := hC3.len 41 (by omega) (by omega)
            have eL : upd L1 40 (L1 40 ++ [.slice (some ⟨gb, 0, none⟩) (a.2.2.length + 30) cb]) 41 = L1 41 := upd_other _ _ (by omega)
            rw [eL] at ef41 d41
            have z41 := (hC3.fld.2 41 (by omega)).2
            have hK3 := hC3.fld.1
            have HF41 : Hid (upd f1 40 (.slice (some ⟨g2, 0, none⟩) ((L1 40).length + 1) c2) 41 = .slice a41 (L1 41).length c41) := ef41
            have HO41 : Hid (W3.ownsRow 0 66 1 (.slice a41 (L1 41).length c41) (L1 41).length (L1 41)) := by have := (hC3.spine 41 (by omega) (by omega)).1; rw [ef41, eL] at this; exact this
            have HON : Hid (W3.ownsRow 0 49 4 (.slice (some ⟨gb, 0, none⟩) (a.2.2.length + 30) cb) (a.2.2.length + 30) (cellsE es')) := by have := HB3.out.1; unfold OwnI at this; rw [HB3.out.2.2] at this; exact this
            have HLN : Hid ((cellsE es').length = (a.2.2.length + 30) * 4) := (cellsE_length es').trans (by rw [HB3.out.2.2])
            clear hC3 hP3 hb3 ef41 eL s40 z40 d40 hlt2
            go_region_law (first
              | (refine step_app _ (by rfl) (.tmp 58) (.tmp 59) 66 (by rfl) 0 49 i54 _ 4 48 Tryz.underlying66 hi54 hz0 hz1 hz2 rfl (by omega) (.slice (some ⟨W3.heap.size, 0, none⟩) 0 0) 0 [] (by rfl) (World.ownsRow_lit W3 #[] 0 (Nat.zero_le _) (by simp [maxLen]) (by simp)) ⟨gb, 0, none⟩ (a.2.2.length + 30) cb (cellsE es') (by rfl) HLN.out (own_news (World.ownsRow.alloc HON.out _)) (cellsE_one _) (by intro e; cases e) (by unfold maxLen; omega) (by omega) (Nat.zero_le _) (W3.heap.size + 1) (by simp) ?_; intro g3 c3 w3 hown3 hgr3 hat3 hlt3; have HW3 : Hid (Below W3.heap.size W3 w3 ∧ W3.heap.size ≤ g3 ∧ w3.ownsRow 0 49 4 (.slice (some ⟨g3, 0, none⟩) (a.2.2.length + 30) c3) (a.2.2.length + 30) (cellsE es')) := copied hgr3 hat3 hown3; have y41 := (HW3.out.1.cell (p := ⟨K, 41, none⟩) hK3).trans d41; have q41 := (HW3.out.1.frozen (p := ⟨K, 41, none⟩) hK3).trans z41; have hK4 : K < w3.heap.size := Nat.lt_of_lt_of_le hK3 HW3.out.1.size; clear hown3 hgr3 hat3)
              | (refine step_app _ (by rfl) (.tmp 57) (.tmp 61) 29 (by rfl) 0 66 i66 _ 1 24 Tryz.underlying29 hi66 hy0 hy1 hy2 rfl (by omega) (.slice a41 (L1 41).length c41) (L1 41).length (L1 41) (by rfl) ((own_below HO41.out HW3.out.1).alloc _) ⟨w3.heap.size, 0, none⟩ 1 1 [.slice (some ⟨g3, 0, none⟩) (a.2.2.length + 30) c3] (by rfl) (by rfl) (World.news_of_block (heap_alloc_new w3 _)) (by intro u hu; simp at hu; subst hu; rfl) (by intro _; omega) (by unfold maxLen; omega) (by omega) (Nat.zero_le _) (w3.heap.size + 1) (by simp) ?_; intro g4 c4 w4 hown4 hgr4 hat4 hlt4; have HR4 : Hid (_ ∧ _ ∧ _ ∧ _) := appC (j := 41) (100 + 2 * (o ++ r).length + 1) (by omega) (by omega) HR2.out.2.1 (upd_other _ _ (by omega)) HF41.out HW3.out.1 HW3.out.2.1 hgr4 hat4 hown4; have p41 := (HR4.out.1.2 41 (by omega)).1; have v41 := (HR4.out.1.2 41 (by omega)).2; clear hown4 hgr4 hat4))
            all_goals
              go_wp2
              go_roundw
              case rel =>
                refine ⟨k + 1, by omega, by go_num, growStep HP2.out HI2.out HE.out HR2.out.2.2 HB3.out hal HW3.out HR4.out.2.1 HR4.out.2.2.1 HR4.out.2.2.2 ?_ ?_ ?_⟩
                · rw [upd_other _ _ (by omega), upd_same]
                · rw [upd_same]
                · intro j h1 h2
                  rw [upd_other _ _ h2, upd_other _ _ h1, upd_other _ _ h2, upd_other _ _ h1]
                  exact ⟨rfl, rfl⟩
              case measure => simp [intOf]; omega
    · have hkk : k = fr.length := by omega
      subst hkk
      obtain ⟨_, _, _, d47⟩ := hC1.len 47 (by omega) (by omega)
      have z44 := (hC1.fld.2 44 (by omega)).2
      have z47 := (hC1.fld.2 47 (by omega)).2
      have HST1 : Hid (GrowSt T w K f L o fr.length wo) := ⟨T1, f1, L1, r, hC1, hI1, e40, e41, hr, hsame, hP1⟩
      clear hC1 hI1 e40 e41 hr hsame hP1 hL44 e44
      go_wp2
      go_end0
      exact ⟨rfl, growEnd HST1.out⟩

end Book
end Go.Proofs.YtkknpcpioodhaaaGreatDoor
