import Derived.Test.YtanpbknjnpmmnaaProg
import Derived.Test.YtanpbknjnpmmnaaSam
import Derived.Test.YtanpbknjnpmmnaaLaws
import Derived.Test.YtanpbknjnpmmnaaRomN
import Derived.WalkKit
import Derived.WalkSpells
import Derived.WalkLawsBesides
import Derived.Deep.QuietTactic
import Derived.BigQuiet
namespace Go.Proofs.Ytanpbknjnpmmnaa
namespace Rom
open Go.RowKit CMath Byt Cod Laws
set_option linter.unusedVariables false
set_option maxRecDepth 20000

/-- The marks behind a list of bytes. -/
def mark (i : Nat) : Nat := if i % 2 = 0 then 235 else 234
def marks (k : Nat) : List Nat := (List.range k).map mark
theorem marks_succ (k : Nat) : marks (k + 1) = marks k ++ [mark k] := by simp [marks, List.range_succ]
theorem marks_length (k : Nat) : (marks k).length = k := by simp [marks]
theorem marks_get {k i : Nat} (h : i < k) : (marks k)[i]? = some (mark i) := by simp [marks, h]
theorem mark_lt (i : Nat) : mark i < 256 := by unfold mark; split <;> omega
theorem marks_byte (k : Nat) : ∀ x ∈ marks k, x < 256 := by
  intro x hx
  simp [marks] at hx
  obtain ⟨i, _, rfl⟩ := hx
  exact mark_lt i
def lotN (i : Nat) : Int := if i % 2 = 0 then -7701 else -7702
theorem lot_byte (i : Nat) : lotN i % 256 = (mark i : Int) := by unfold lotN mark; split <;> rfl

set_option maxHeartbeats 400000 in
theorem lot_any (x : Int) (i : Nat) (w : World) (hx : x = i) (hi : i ≤ 1000000) :
    Calls Try.prog 37 #[.int .i64 x] w fun e w' => e = .returned (.int .i64 (lotN i)) ∧ w' = w := by
  subst hx
  unfold lotN
  by_cases h : i % 2 = 0
  · have g : ((i : Int) % 2 == 0) = true := by simp; omega
    rw [if_pos h]
    go_enter Try.func37, Try.ntmps37
    go_wp2
    go_ret
    exact ⟨rfl, rfl⟩
  · have g : ((i : Int) % 2 == 0) = false := by simp; omega
    rw [if_neg h]
    go_enter Try.func37, Try.ntmps37
    go_wp2
    go_ret
    exact ⟨rfl, rfl⟩

/-- A list that a room has lent: its block, its length, its array's length. -/
abbrev Lent := Nat × Nat × Nat
def heads (hs : List Lent) : List Value := hs.map fun h => .slice (some ⟨h.1, 0, none⟩) (h.2.1 + 600) h.2.2
def lens (hs : List Lent) : List Value := hs.map fun h => .int .i64 (h.2.1 : Int)
theorem heads_length (hs : List Lent) : (heads hs).length = hs.length := by simp [heads]
theorem lens_length (hs : List Lent) : (lens hs).length = hs.length := by simp [lens]

/-- A room that has lent lists of bytes alone. -/
structure Rm (w : World) (R B : Nat) (v0 v1 : Value) (hs : List Lent) : Prop where
  lt : R < w.heap.size
  base : B ≤ R
  c0 : w.cell? ⟨R, 0, none⟩ = some v0
  c1 : w.cell? ⟨R, 1, none⟩ = some v1
  o0 : w.ownsRow B 24 1 v0 hs.length (heads hs)
  o1 : w.ownsRow B 3 1 v1 hs.length (lens hs)
  r0 : v0.ownBlock ≠ some R
  r1 : v1.ownBlock ≠ some R
  d01 : ∀ x, v0.ownBlock = some x → v1.ownBlock ≠ some x
  nils : ∀ j, 2 ≤ j → j < 28 → w.cell? ⟨R, j, none⟩ = some (.slice none 0 0)
  f0 : w.frozen? ⟨R, 0, none⟩ = false
  f1 : w.frozen? ⟨R, 1, none⟩ = false
  lent : ∀ h ∈ hs, B ≤ h.1 ∧ h.1 ≠ R ∧ v0.ownBlock ≠ some h.1 ∧ v1.ownBlock ≠ some h.1 ∧ BRow w h.1 h.2.1 (marks 600) ∧ (∀ j, w.frozen? ⟨h.1, j, none⟩ = false) ∧ h.2.1 + 600 ≤ h.2.2 ∧ h.2.2 ≤ maxLen

theorem Rm.keep {w w' : World} {R B : Nat} {v0 v1 : Value} {hs : List Lent} (h : Rm w R B v0 v1 hs) {bs : List Nat} (k : Keep bs w w') (hR : R ∉ bs) (h0 : ∀ g, v0.ownBlock = some g → g ∉ bs) (h1 : ∀ g, v1.ownBlock = some g → g ∉ bs) (hg : ∀ x ∈ hs, x.1 ∉ bs) : Rm w' R B v0 v1 hs where
  lt := Nat.lt_of_lt_of_le h.lt k.size
  base := h.base
  c0 := (k.cell (p := ⟨R, 0, none⟩) h.lt hR).trans h.c0
  c1 := (k.cell (p := ⟨R, 1, none⟩) h.lt hR).trans h.c1
  o0 := k.own h.o0 h0
  o1 := k.own h.o1 h1
  r0 := h.r0
  r1 := h.r1
  d01 := h.d01
  nils := fun j h2 h3 => (k.cell (p := ⟨R, j, none⟩) h.lt hR).trans (h.nils j h2 h3)
  f0 := (k.frozen (p := ⟨R, 0, none⟩) h.lt hR).trans h.f0
  f1 := (k.frozen (p := ⟨R, 1, none⟩) h.lt hR).trans h.f1
  lent := fun x hx => by
    obtain ⟨a1, a2, a3, a4, a5, a6, a7⟩ := h.lent x hx
    exact ⟨a1, a2, a3, a4, a5.keep (k.block x.1 a5.1 (hg x hx)) k.size, fun j => (k.frozen (p := ⟨x.1, j, none⟩) a5.1 (hg x hx)).trans (a6 j), a7⟩
theorem Rm.below {w w' : World} {R B : Nat} {v0 v1 : Value} {hs : List Lent} (h : Rm w R B v0 v1 hs) (hb : Below w.heap.size w w') : Rm w' R B v0 v1 hs :=
  h.keep (bs := []) (Keep.below hb) (by simp) (by simp) (by simp) (by simp)
/-- A byte of a list that was lent is written. -/
theorem Rm.set {w : World} {R B : Nat} {v0 v1 : Value} {hs : List Lent} (h : Rm w R B v0 v1 hs) {g i : Nat} (u : Value) (hg : ∃ x ∈ hs, x.1 = g) (hi : ∀ x ∈ hs, x.1 = g → i < x.2.1) : Rm (w.setCell ⟨g, i, none⟩ u) R B v0 v1 hs := by
  obtain ⟨x0, hx0, rfl⟩ := hg
  obtain ⟨b1, b2, b3, b4, b5, b6, b7⟩ := h.lent x0 hx0
  have k := Keep.set w x0.1 i u
  exact {
    lt := Nat.lt_of_lt_of_le h.lt k.size
    base := h.base
    c0 := (k.cell (p := ⟨R, 0, none⟩) h.lt (by simpa using b2.symm)).trans h.c0
    c1 := (k.cell (p := ⟨R, 1, none⟩) h.lt (by simpa using b2.symm)).trans h.c1
    o0 := k.own h.o0 (fun g hg => by simp; rintro rfl; exact b3 hg)
    o1 := k.own h.o1 (fun g hg => by simp; rintro rfl; exact b4 hg)
    r0 := h.r0
    r1 := h.r1
    d01 := h.d01
    nils := fun j h2 h3 => (k.cell (p := ⟨R, j, none⟩) h.lt (by simpa using b2.symm)).trans (h.nils j h2 h3)
    f0 := (k.frozen (p := ⟨R, 0, none⟩) h.lt (by simpa using b2.symm)).trans h.f0
    f1 := (k.frozen (p := ⟨R, 1, none⟩) h.lt (by simpa using b2.symm)).trans h.f1
    lent := fun x hx => by
      obtain ⟨a1, a2, a3, a4, a5, a6, a7⟩ := h.lent x hx
      refine ⟨a1, a2, a3, a4, ⟨Nat.lt_of_lt_of_le a5.1 k.size, fun j y hy => ?_⟩, fun j => ?_, a7⟩
      · rw [World.cell?_setCell_other _ _ _ _ (fun e => ?_)]
        · exact a5.2 j y hy
        · simp only [Addr.mk.injEq] at e
          have := hi x hx e.1.symm
          omega
      · rw [World.frozen?_setCell]; exact a6 j }

end Rom
end Go.Proofs.Ytanpbknjnpmmnaa
