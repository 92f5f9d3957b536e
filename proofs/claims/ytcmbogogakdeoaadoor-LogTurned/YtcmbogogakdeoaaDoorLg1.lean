import Derived.Test.YtcmbogogakdeoaaDoorProg
import Derived.Test.YtcmbogogakdeoaaDoorMea
import Derived.Test.YtcmbogogakdeoaaDoorLgG
import Derived.Test.YtcmbogogakdeoaaDoorLaws
import Derived.WalkKit
import Derived.WalkSpells
import Derived.WalkLawsBesides
namespace Go.Proofs.YtcmbogogakdeoaaDoor
namespace Lgg
open Go.RowKit CMath Byt Cod Lg Laws
set_option linter.unusedVariables false
set_option linter.unusedSimpArgs false
set_option maxRecDepth 20000

/-- The reader as it lies at R: what is left to read, the error. -/
structure Rd (w : World) (R : Nat) (l : List Nat) (e : Nat) : Prop where
  lt : R < w.heap.size
  c0 : (w.cell? ⟨R, 0, none⟩ = some (.slice none 0 0) ∧ l = []) ∨ ∃ b off c, w.cell? ⟨R, 0, none⟩ = some (.slice (some ⟨b, off, none⟩) l.length c) ∧ l.length ≤ c ∧ c ≤ 9223372036854775807 ∧ b < R ∧ IsB w (some ⟨b, off, none⟩) l
  c1 : w.cell? ⟨R, 1, none⟩ = some (.int .i64 (e : Int))
  fr : ∀ j, w.frozen? ⟨R, j, none⟩ = false
  by_ : ∀ x ∈ l, x < 256
theorem isB_keep {w w' : World} {R b off : Nat} {l : List Nat} (h : IsB w (some ⟨b, off, none⟩) l) (hk : Keep [R] w w') (hb : b ≠ R) : IsB w' (some ⟨b, off, none⟩) l := by
  refine ⟨fun hne => ?_, h.2⟩
  obtain ⟨b', off', e, hr⟩ := h.1 hne
  cases e
  exact ⟨b, off, rfl, hr.keep (hk.block b hr.1 (by simp; exact hb)) hk.size⟩
theorem Rd.below {w w' : World} {R : Nat} {l : List Nat} {e : Nat} (h : Rd w R l e) (hb : Below w.heap.size w w') : Rd w' R l e where
  lt := Nat.lt_of_lt_of_le h.lt hb.size
  c0 := by
    rcases h.c0 with ⟨h1, h2⟩ | ⟨b, off, c, h1, h2, h3, h4, h5⟩
    · exact .inl ⟨(hb.cell (p := ⟨R, 0, none⟩) h.lt).trans h1, h2⟩
    · exact .inr ⟨b, off, c, (hb.cell (p := ⟨R, 0, none⟩) h.lt).trans h1, h2, h3, h4, h5.below hb⟩
  c1 := (hb.cell (p := ⟨R, 1, none⟩) h.lt).trans h.c1
  fr := fun j => (hb.frozen (p := ⟨R, j, none⟩) h.lt).trans (h.fr j)
  by_ := h.by_
/-- another block has turned -/
theorem Rd.other {w w' : World} {R g : Nat} {l : List Nat} {e : Nat} (h : Rd w R l e) (hk : Keep [g] w w') (hg : R < g) : Rd w' R l e where
  lt := Nat.lt_of_lt_of_le h.lt hk.size
  c0 := by
    have hR : R ∉ [g] := by simp; omega
    rcases h.c0 with ⟨h1, h2⟩ | ⟨b, off, c, h1, h2, h3, h4, h5⟩
    · exact .inl ⟨(hk.cell (p := ⟨R, 0, none⟩) h.lt hR).trans h1, h2⟩
    · exact .inr ⟨b, off, c, (hk.cell (p := ⟨R, 0, none⟩) h.lt hR).trans h1, h2, h3, h4, isB_keep h5 hk (by omega)⟩
  c1 := (hk.cell (p := ⟨R, 1, none⟩) h.lt (by simp; omega)).trans h.c1
  fr := fun j => (hk.frozen (p := ⟨R, j, none⟩) h.lt (by simp; omega)).trans (h.fr j)
  by_ := h.by_
/-- the reader's rest and error are laid anew -/
theorem Rd.set {w : World} {R : Nat} {l : List Nat} {e : Nat} (h : Rd w R l e) (v : Value) (l' : List Nat) (f : Nat) (hv : (v = .slice none 0 0 ∧ l' = []) ∨ ∃ b off c, v = .slice (some ⟨b, off, none⟩) l'.length c ∧ l'.length ≤ c ∧ c ≤ 9223372036854775807 ∧ b < R ∧ IsB w (some ⟨b, off, none⟩) l') (hl : ∀ x ∈ l', x < 256) :
    Rd ((w.setCell ⟨R, 0, none⟩ v).setCell ⟨R, 1, none⟩ (.int .i64 (f : Int))) R l' f := by
  have hc : ∃ u, w.cell? ⟨R, 0, none⟩ = some u := by
    rcases h.c0 with ⟨h1, _⟩ | ⟨b, off, c, h1, _⟩
    · exact ⟨_, h1⟩
    · exact ⟨_, h1⟩
  obtain ⟨u, hu⟩ := hc
  have e0 : ((w.setCell ⟨R, 0, none⟩ v).setCell ⟨R, 1, none⟩ (.int .i64 (f : Int))).cell? ⟨R, 0, none⟩ = some v := by
    rw [World.cell?_setCell_other _ _ _ _ (by simp)]
    exact World.cell?_setCell_same _ _ _ hu
  have e1 : ((w.setCell ⟨R, 0, none⟩ v).setCell ⟨R, 1, none⟩ (.int .i64 (f : Int))).cell? ⟨R, 1, none⟩ = some (.int .i64 (f : Int)) := by
    have hx1 : (w.setCell ⟨R, 0, none⟩ v).cell? ⟨R, 1, none⟩ = some (.int .i64 (e : Int)) := by
      rw [World.cell?_setCell_other _ _ _ _ (by simp)]
      exact h.c1
    exact World.cell?_setCell_same _ _ _ hx1
  have hk : Keep [R] w ((w.setCell ⟨R, 0, none⟩ v).setCell ⟨R, 1, none⟩ (.int .i64 (f : Int))) := (Keep.set w R 0 v).trans (Keep.set _ R 1 _)
  refine ⟨Nat.lt_of_lt_of_le h.lt hk.size, ?_, e1, fun j => by rw [World.frozen?_setCell, World.frozen?_setCell]; exact h.fr j, hl⟩
  rcases hv with ⟨rfl, rfl⟩ | ⟨b, off, c, rfl, h2, h3, h4, h5⟩
  · exact .inl ⟨e0, rfl⟩
  · exact .inr ⟨b, off, c, e0, h2, h3, h4, isB_keep h5 hk (by omega)⟩
theorem Rd.err {w : World} {R : Nat} {l : List Nat} {e : Nat} (h : Rd w R l e) (f : Nat) : Rd (w.setCell ⟨R, 1, none⟩ (.int .i64 (f : Int))) R l f := by
  have hk : Keep [R] w (w.setCell ⟨R, 1, none⟩ (.int .i64 (f : Int))) := Keep.set w R 1 _
  refine ⟨Nat.lt_of_lt_of_le h.lt hk.size, ?_, World.cell?_setCell_same _ _ _ h.c1, fun j => by rw [World.frozen?_setCell]; exact h.fr j, h.by_⟩
  have ho : (w.setCell ⟨R, 1, none⟩ (.int .i64 (f : Int))).cell? ⟨R, 0, none⟩ = w.cell? ⟨R, 0, none⟩ := World.cell?_setCell_other _ _ _ _ (by simp)
  rcases h.c0 with ⟨h1, h2⟩ | ⟨b, off, c, h1, h2, h3, h4, h5⟩
  · exact .inl ⟨ho.trans h1, h2⟩
  · exact .inr ⟨b, off, c, ho.trans h1, h2, h3, h4, isB_keep h5 hk (by omega)⟩

set_option maxHeartbeats 1000000 in
theorem pass_any (R n : Nat) (l : List Nat) (e f : Nat) (x y : Int) (w : World) (hx : x = n) (hy : y = f) (h : Rd w R l e) (hn : n ≤ l.length) :
    Calls Tryd.prog 33 #[.pointer (some ⟨R, 0, none⟩), .int .i64 x, .int .i64 y] w fun r w' => (∃ v, r = .returned v) ∧ Rd w' R (l.drop n) f ∧ Keep [R] w w' := by
  subst hx hy
  have HR : Hid (Rd w R l e) := h
  have f0 := h.fr 0
  have f1 := h.fr 1
  have c1 := h.c1
  have hlt := h.lt
  rcases h.c0 with ⟨c0, rfl⟩ | ⟨b, off, c, c0, h2, h3, h4, h5⟩
  · obtain rfl : n = 0 := by simpa using hn
    clear h
    go_enter Tryd.func33, Tryd.ntmps33
    go_wp2
    go_end0
    exact ⟨⟨_, rfl⟩, HR.out.set _ _ _ (.inl ⟨rfl, rfl⟩) (by simp), (Keep.set w R 0 _).trans (Keep.set _ R 1 _)⟩
  · have HB : Hid (IsB w (some ⟨b, off, none⟩) l) := h5
    have hld : (l.drop n).length = l.length - n := by simp
    generalize hL : l.length = L at *
    have q1 : (n : Int) ≤ (L : Int) := by omega
    have q2 : (n : Int) ≤ (c : Int) := by omega
    have q3 : (L : Int) ≤ (c : Int) := by omega
    clear h h5
    by_cases hcn : c = n
    · subst hcn
      obtain rfl : L = c := by omega
      have hd : l.drop L = [] := List.drop_of_length_le (by omega)
      go_enter Tryd.func33, Tryd.ntmps33
      go_wp2
      go_end0
      refine ⟨⟨_, rfl⟩, ?_, (Keep.set w R 0 _).trans (Keep.set _ R 1 _)⟩
      rw [hd]
      exact HR.out.set _ _ _ (.inr ⟨b, off, 0, rfl, by simp, by omega, h4, IsB.nil _ _⟩) (by simp)
    · have q4 : n < c := by omega
      have q5 : (n : Int) < (c : Int) := by omega
      have q6 : ¬ c - n = 0 := by omega
      go_enter Tryd.func33, Tryd.ntmps33
      go_wp2
      go_end0
      refine ⟨⟨_, rfl⟩, HR.out.set _ _ _ (.inr ⟨b, off + n, c - n, by rw [hld], by omega, by omega, h4, ?_⟩) (fun x hx => HR.out.by_ x (List.mem_of_mem_drop hx)), (Keep.set w R 0 _).trans (Keep.set _ R 1 _)⟩
      refine ⟨fun hne => ?_, fun x hx => HR.out.by_ x (List.mem_of_mem_drop hx)⟩
      obtain ⟨b', off', e', hr⟩ := HB.out.1 (by rintro rfl; simp at hne)
      cases e'
      exact ⟨b, off + n, rfl, hr.drop n⟩

end Lgg
end Go.Proofs.YtcmbogogakdeoaaDoor
