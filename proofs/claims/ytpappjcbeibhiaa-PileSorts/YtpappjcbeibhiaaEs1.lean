import Derived.Test.YtpappjcbeibhiaaEw1
import Derived.Test.YtpappjcbeibhiaaKn4
namespace Go.Proofs.Ytpappjcbeibhiaa
namespace Ehp
open Go.RowKit Laws Irw Erw
open Hp (Ord Heapy goes_drew)
set_option linter.unusedVariables false
set_option maxRecDepth 100000
set_option linter.unusedSimpArgs false

theorem isE_drop {t : Nat} {T : Nat → Nat} {w : World} {g n c : Nat} {l : List En} {k : Nat} (h : OwnE t T w (.slice (some ⟨g, 0, none⟩) n c) l) : IsE w (if c = k + 1 then some ⟨g, 0, none⟩ else some ⟨g, (k + 1) * 4, none⟩) (l.drop (k + 1)) := by
  obtain ⟨h1, h2, _, h4⟩ := h.isE
  split
  · rename_i e
    rw [List.drop_eq_nil_of_le (by omega)]
    exact IsE.nil _ _
  · intro hne
    obtain ⟨b, off, e, hr⟩ := h1 (by rintro rfl; simp at hne)
    simp only [Option.some.injEq, Addr.mk.injEq] at e
    obtain ⟨rfl, rfl, _⟩ := e
    refine ⟨g, (k + 1) * 4, rfl, hr.1, fun i e he => ?_⟩
    rw [List.getElem?_drop] at he
    have := hr.2 _ e he
    rw [show (k + 1) * 4 + i * 4 = 0 + (k + 1 + i) * 4 by omega]
    exact this
theorem perm_erase {lf l : List En} {x : En} {j : Nat} (hj : j < lf.length) (hx : lf.getD j ez = x) (hp : lf.Perm (x :: l)) : (lf.take j ++ lf.drop (j + 1)).Perm l := by
  have e : lf[j] = x := by simpa [hj] using hx
  have h1 : lf = lf.take j ++ x :: lf.drop (j + 1) := by
    have := List.take_append_drop j lf
    rw [List.drop_eq_getElem_cons hj, e] at this
    exact this.symm
  have h2 : (x :: (lf.take j ++ lf.drop (j + 1))).Perm lf := by
    conv => rhs; rw [h1]
    exact List.perm_middle.symm
  exact (h2.trans hp).cons_inv

/-- the heap while things are pushed -/
structure KE (w0 : World) (T : Nat → Nat) (w : World) (h B : Nat) (b : Bool) (l m : List En) : Prop where
  heap : HeapE 1 T w h B b l
  old : Old w0 T w
  perm : l.Perm m
  heapy : Heapy (lessE b) ez l
/-- while they are popped -/
structure SR (w0 : World) (T : Nat → Nat) (w : World) (h B : Nat) (b : Bool) (v : Value) (lf l : List En) (L : Nat) (le : En) (N k : Nat) : Prop where
  heap : HeapE 1 T w h B b l
  heapy : Heapy (lessE b) ez l
  left : OwnE 7 T w v lf
  perm : lf.Perm l
  old : Old w0 T w
  ltL : L < w.heap.size
  newL : w0.heap.size ≤ L
  tagL : T L = 0
  cel : w.cell? ⟨L, 0, none⟩ = some (.string le.1) ∧ w.cell? ⟨L, 1, none⟩ = some (.int .u64 le.2.1) ∧ w.cell? ⟨L, 2, none⟩ = some (.bool le.2.2.1) ∧ w.cell? ⟨L, 3, none⟩ = some (.string le.2.2.2)
  fro : ∀ j, w.frozen? ⟨L, j, none⟩ = false
  len : l.length = k
  ord : k < N → ∀ y ∈ l, lessE b y le = false

theorem SR.below {w0 : World} {T : Nat → Nat} {w w' : World} {h B : Nat} {b : Bool} {v : Value} {lf l : List En} {L : Nat} {le : En} {N k : Nat} (s : SR w0 T w h B b v lf l L le N k) (hb : Below w.heap.size w w') : SR w0 T w' h B b v lf l L le N k :=
  ⟨s.heap.below hb, s.heapy, s.left.below hb, s.perm, s.old.goes (Goes.below (t := fun _ => False) hb) (fun z => z), Nat.lt_of_lt_of_le s.ltL hb.size, s.newL, s.tagL, ⟨(hb.cell (p := ⟨L, 0, none⟩) s.ltL).trans s.cel.1, (hb.cell (p := ⟨L, 1, none⟩) s.ltL).trans s.cel.2.1, (hb.cell (p := ⟨L, 2, none⟩) s.ltL).trans s.cel.2.2.1, (hb.cell (p := ⟨L, 3, none⟩) s.ltL).trans s.cel.2.2.2⟩, fun j => (hb.frozen (p := ⟨L, j, none⟩) s.ltL).trans (s.fro j), s.len, s.ord⟩
/-- something has been popped -/
structure SP (w0 : World) (T : Nat → Nat) (w : World) (h B : Nat) (b : Bool) (l : List En) (L : Nat) (le x : En) (N k : Nat) : Prop where
  heap : HeapE 1 T w h B b l
  heapy : Heapy (lessE b) ez l
  old : Old w0 T w
  ltL : L < w.heap.size
  newL : w0.heap.size ≤ L
  tagL : T L = 0
  cel : w.cell? ⟨L, 0, none⟩ = some (.string le.1) ∧ w.cell? ⟨L, 1, none⟩ = some (.int .u64 le.2.1) ∧ w.cell? ⟨L, 2, none⟩ = some (.bool le.2.2.1) ∧ w.cell? ⟨L, 3, none⟩ = some (.string le.2.2.2)
  fro : ∀ j, w.frozen? ⟨L, j, none⟩ = false
  len : l.length = k
  ord : k + 1 < N → lessE b x le = false
  ord2 : ∀ y ∈ l, lessE b y x = false
theorem SP.goes {w0 : World} {u : Nat → Prop} {T T' : Nat → Nat} {w w' : World} {h B : Nat} {b : Bool} {l : List En} {L : Nat} {le x : En} {N k : Nat} (s : SP w0 T w h B b l L le x N k) (hg : Goes u T w T' w') (h0 : ¬ u 0) (h1 : ¬ u 1) (h2 : ¬ u 2) (h3 : ¬ u 3) : SP w0 T' w' h B b l L le x N k := by
  have hu : ¬ u (T L) := by rw [s.tagL]; exact h0
  exact ⟨s.heap.goes hg h1 h2 h3, s.heapy, s.old.goes hg h0, Nat.lt_of_lt_of_le s.ltL hg.size, s.newL, (hg.tag L s.ltL hu).trans s.tagL, ⟨(hg.cell s.ltL hu).trans s.cel.1, (hg.cell s.ltL hu).trans s.cel.2.1, (hg.cell s.ltL hu).trans s.cel.2.2.1, (hg.cell s.ltL hu).trans s.cel.2.2.2⟩, fun j => (World.frozen?_of_block (a := ⟨L, j, none⟩) (hg.block L s.ltL hu)).trans (s.fro j), s.len, s.ord, s.ord2⟩
theorem SP.below {w0 : World} {T : Nat → Nat} {w w' : World} {h B : Nat} {b : Bool} {l : List En} {L : Nat} {le x : En} {N k : Nat} (s : SP w0 T w h B b l L le x N k) (hb : Below w.heap.size w w') : SP w0 T w' h B b l L le x N k := s.goes (Goes.below (t := fun _ => False) hb) (fun z => z) (fun z => z) (fun z => z) (fun z => z)
theorem SR.pop {w0 : World} {T : Nat → Nat} {w w' : World} {h B : Nat} {b : Bool} {v : Value} {lf l : List En} {L : Nat} {le : En} {N k : Nat} (s : SR w0 T w h B b v lf l L le N (k + 1)) (hp : PopIs (lessE b) 1 T w h B b l w') : ∃ l', SP w0 T w' h B b l' L le (l.getD 0 ez) N k ∧ OwnE 7 T w' v lf ∧ lf.Perm (l.getD 0 ez :: l') := by
  obtain ⟨l', h1, h2, h3, h4⟩ := hp
  have h0 : ¬ (T L = 1 ∨ T L = 1 + 1) := by rw [s.tagL]; omega
  have hl : l'.length = k := by have := h3.length_eq; have := s.len; simp at *; omega
  have hm : l.getD 0 ez ∈ l := h3.mem_iff.1 (List.mem_cons_self)
  refine ⟨l', ⟨h1, h4 (ord_lessE b) s.heapy, s.old.goes h2 (by omega), Nat.lt_of_lt_of_le s.ltL h2.size, s.newL, s.tagL, ⟨(h2.cell s.ltL h0).trans s.cel.1, (h2.cell s.ltL h0).trans s.cel.2.1, (h2.cell s.ltL h0).trans s.cel.2.2.1, (h2.cell s.ltL h0).trans s.cel.2.2.2⟩, fun j => (World.frozen?_of_block (a := ⟨L, j, none⟩) (h2.block L s.ltL h0)).trans (s.fro j), hl, fun hk => s.ord hk _ hm, fun y hy => s.heapy.least (ord_lessE b) y (h3.mem_iff.1 (List.mem_cons_of_mem _ hy))⟩, s.left.goes h2 (by omega), s.perm.trans h3.symm⟩
theorem set4_cells {w : World} {L : Nat} {a0 a1 a2 a3 v0 v1 v2 v3 : Value} (h : w.cell? ⟨L, 0, none⟩ = some a0 ∧ w.cell? ⟨L, 1, none⟩ = some a1 ∧ w.cell? ⟨L, 2, none⟩ = some a2 ∧ w.cell? ⟨L, 3, none⟩ = some a3) :
    ((((w.setCell ⟨L, 0, none⟩ v0).setCell ⟨L, 1, none⟩ v1).setCell ⟨L, 2, none⟩ v2).setCell ⟨L, 3, none⟩ v3).cell? ⟨L, 0, none⟩ = some v0 ∧ ((((w.setCell ⟨L, 0, none⟩ v0).setCell ⟨L, 1, none⟩ v1).setCell ⟨L, 2, none⟩ v2).setCell ⟨L, 3, none⟩ v3).cell? ⟨L, 1, none⟩ = some v1 ∧
    ((((w.setCell ⟨L, 0, none⟩ v0).setCell ⟨L, 1, none⟩ v1).setCell ⟨L, 2, none⟩ v2).setCell ⟨L, 3, none⟩ v3).cell? ⟨L, 2, none⟩ = some v2 ∧ ((((w.setCell ⟨L, 0, none⟩ v0).setCell ⟨L, 1, none⟩ v1).setCell ⟨L, 2, none⟩ v2).setCell ⟨L, 3, none⟩ v3).cell? ⟨L, 3, none⟩ = some v3 := by
  obtain ⟨h0, h1, h2, h3⟩ := h
  refine ⟨?_, ?_, ?_, ?_⟩
  · rw [World.cell?_setCell_other _ _ _ _ (by simp), World.cell?_setCell_other _ _ _ _ (by simp), World.cell?_setCell_other _ _ _ _ (by simp), World.cell?_setCell_same _ _ _ h0]
  · rw [World.cell?_setCell_other _ _ _ _ (by simp), World.cell?_setCell_other _ _ _ _ (by simp)]
    exact World.cell?_setCell_same _ _ _ (by rw [World.cell?_setCell_other _ _ _ _ (by simp)]; exact h1)
  · rw [World.cell?_setCell_other _ _ _ _ (by simp)]
    exact World.cell?_setCell_same _ _ _ (by rw [World.cell?_setCell_other _ _ _ _ (by simp), World.cell?_setCell_other _ _ _ _ (by simp)]; exact h2)
  · exact World.cell?_setCell_same _ _ _ (by rw [World.cell?_setCell_other _ _ _ _ (by simp), World.cell?_setCell_other _ _ _ _ (by simp), World.cell?_setCell_other _ _ _ _ (by simp)]; exact h3)
/-- 'last = e' -/
theorem SP.done {w0 : World} {T : Nat → Nat} {w : World} {h B : Nat} {b : Bool} {l : List En} {L : Nat} {le x : En} {N k : Nat} (s : SP w0 T w h B b l L le x N k) {v : Value} {lf' : List En} (hp : lf'.Perm l) (hv : OwnE 7 T w v lf') : SR w0 T ((((w.setCell ⟨L, 0, none⟩ (.string x.1)).setCell ⟨L, 1, none⟩ (.int .u64 x.2.1)).setCell ⟨L, 2, none⟩ (.bool x.2.2.1)).setCell ⟨L, 3, none⟩ (.string x.2.2.2)) h B b v lf' l L x N k := by
  have g : Goes (· = 0) T w T ((((w.setCell ⟨L, 0, none⟩ (.string x.1)).setCell ⟨L, 1, none⟩ (.int .u64 x.2.1)).setCell ⟨L, 2, none⟩ (.bool x.2.2.1)).setCell ⟨L, 3, none⟩ (.string x.2.2.2)) := goes4 (i := 0) (e := x) s.tagL
  have hL := s.ltL
  refine ⟨s.heap.goes g (by omega) (by omega) (by omega), s.heapy, hv.goes g (by omega), hp, ⟨(((s.old.below.setCell (p := ⟨L, 0, none⟩) s.newL _).setCell (p := ⟨L, 1, none⟩) s.newL _).setCell (p := ⟨L, 2, none⟩) s.newL _).setCell (p := ⟨L, 3, none⟩) s.newL _, fun q hq => s.old.zero q (by simpa using hq)⟩, by simpa using s.ltL, s.newL, s.tagL, set4_cells s.cel, fun j => by simp [s.fro j], s.len, fun _ => s.ord2⟩
end Ehp
end Go.Proofs.Ytpappjcbeibhiaa
