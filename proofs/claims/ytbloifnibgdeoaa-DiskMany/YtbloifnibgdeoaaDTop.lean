import Derived.Test.YtbloifnibgdeoaaProg
import Derived.Test.YtbloifnibgdeoaaDNam
import Derived.Test.YtbloifnibgdeoaaLaws
import Derived.WalkKit
import Derived.WalkSpells
import Derived.WalkLawsBesides
namespace Go.Proofs.Ytbloifnibgdeoaa
namespace Dsk
open Go.RowKit Byt Laws
set_option linter.unusedVariables false

def upd {α : Type} (f : Nat → α) (j : Nat) (v : α) : Nat → α := fun i => if i = j then v else f i
theorem upd_same {α : Type} (f : Nat → α) (j : Nat) (v : α) : upd f j v j = v := by simp [upd]
theorem upd_other {α : Type} (f : Nat → α) {i j : Nat} (v : α) (h : i ≠ j) : upd f j v i = f i := by simp [upd, h]

/-- The first n cells of a block, none of them frozen. -/
def Fld (n : Nat) (w : World) (K : Nat) (f : Nat → Value) : Prop := K < w.heap.size ∧ ∀ j, j < n → w.cell? ⟨K, j, none⟩ = some (f j) ∧ w.frozen? ⟨K, j, none⟩ = false
theorem Fld.set {n : Nat} {w : World} {K : Nat} {f : Nat → Value} (h : Fld n w K f) (j : Nat) (hj : j < n) (v : Value) : Fld n (w.setCell ⟨K, j, none⟩ v) K (upd f j v) := by
  refine ⟨by simpa using h.1, fun i hi => ⟨?_, by simpa using (h.2 i hi).2⟩⟩
  by_cases e : i = j
  · subst e
    rw [upd_same]
    exact World.cell?_setCell_same _ _ _ (h.2 i hi).1
  · rw [upd_other _ _ e, World.cell?_setCell_other _ _ _ _ (fun e' => e (by cases e'; rfl))]
    exact (h.2 i hi).1
theorem Fld.keep {n : Nat} {bs : List Nat} {w w' : World} {K : Nat} {f : Nat → Value} (h : Fld n w K f) (hk : Keep bs w w') (hn : K ∉ bs) : Fld n w' K f :=
  ⟨Nat.lt_of_lt_of_le h.1 hk.size, fun j hj => by rw [hk.cell (p := ⟨K, j, none⟩) h.1 hn, hk.frozen (p := ⟨K, j, none⟩) h.1 hn]; exact h.2 j hj⟩
theorem Fld.eq {n : Nat} {w : World} {K : Nat} {f g : Nat → Value} (h : Fld n w K f) (e : ∀ j, j < n → f j = g j) : Fld n w K g := ⟨h.1, fun j hj => by rw [← e j hj]; exact h.2 j hj⟩

/-- What is rigged. -/
structure Rig where
  units : Nat
  after : Nat
  calls : Nat
  part : Nat
def Rig.zero : Rig := ⟨0, 0, 0, 0⟩
def Rig.ok (r : Rig) : Prop := r.units ≤ 9223372036854775807 ∧ r.after ≤ 9223372036854775807 ∧ r.calls ≤ 9223372036854775807 ∧ r.part ≤ 9223372036854775807
/-- The disk's cells. -/
structure Top where
  rig : Rig
  room : Nat
  used : Nat
  files : Value
  changes : Value
  down : Bool
def Top.cell (t : Top) (j : Nat) : Value :=
  match j with
  | 0 => .int .i64 t.rig.units
  | 1 => .int .i64 t.rig.after
  | 2 => .int .i64 t.rig.calls
  | 3 => .int .i64 t.rig.part
  | 4 => .int .i64 t.room
  | 5 => .int .i64 t.used
  | 6 => t.files
  | 7 => t.changes
  | _ => .bool t.down
def IsTop (w : World) (d : Nat) (t : Top) : Prop := Fld 9 w d t.cell ∧ t.rig.ok
theorem IsTop.keep {bs : List Nat} {w w' : World} {d : Nat} {t : Top} (h : IsTop w d t) (hk : Keep bs w w') (hn : d ∉ bs) : IsTop w' d t := ⟨h.1.keep hk hn, h.2⟩

theorem nine {P : Nat → Prop} (h0 : P 0) (h1 : P 1) (h2 : P 2) (h3 : P 3) (h4 : P 4) (h5 : P 5) (h6 : P 6) (h7 : P 7) (h8 : P 8) : ∀ j, j < 9 → P j
  | 0, _ => h0 | 1, _ => h1 | 2, _ => h2 | 3, _ => h3 | 4, _ => h4 | 5, _ => h5 | 6, _ => h6 | 7, _ => h7 | 8, _ => h8
  | n + 9, h => by omega

/-- A changing call comes to place 3: fails it, and what is rigged then. -/
def Rig.fails (r : Rig) : Bool × Rig := if 0 < r.after then (false, { r with after := r.after - 1 }) else if 0 < r.calls then (true, { r with calls := r.calls - 1 }) else (false, r)

set_option maxHeartbeats 1000000 in
theorem fails_any (d : Nat) (t : Top) (w : World) (h : IsTop w d t) :
    Calls Try.prog 81 #[.pointer (some ⟨d, 0, none⟩)] w fun e w' => e = .returned (.bool t.rig.fails.1) ∧ IsTop w' d { t with rig := t.rig.fails.2 } ∧ Keep [d] w w' := by
  obtain ⟨hf, hr⟩ := h
  have c1 := (hf.2 1 (by omega)).1
  have c2 := (hf.2 2 (by omega)).1
  have f1 := (hf.2 1 (by omega)).2
  have f2 := (hf.2 2 (by omega)).2
  have HF : Hid (Fld 9 w d t.cell) := hf
  obtain ⟨⟨u, a, c, p⟩, room, used, files, changes, down⟩ := t
  obtain ⟨r1, r2, r3, r4⟩ := hr
  simp only [Top.cell] at c1 c2 r1 r2 r3 r4
  clear hf
  by_cases h1 : 0 < a
  · have h1' : (0 : Int) < (a : Int) := by omega
    go_enter Try.func81, Try.ntmps81
    go_wp2
    go_ret
    have e : Rig.fails ⟨u, a, c, p⟩ = (false, ⟨u, a - 1, c, p⟩) := by simp [Rig.fails, h1]
    rw [e]
    refine ⟨rfl, ⟨?_, ?_⟩, Keep.set _ _ _ _⟩
    · refine (HF.out.set 1 (by omega) _).eq (nine rfl ?_ rfl rfl rfl rfl rfl rfl rfl)
      rw [upd_same]
      show _ = Value.int .i64 ((a - 1 : Nat) : Int)
      go_num
    · exact ⟨r1, by simp only; omega, r3, r4⟩
  · have h1' : ¬ (0 : Int) < (a : Int) := by omega
    by_cases h2 : 0 < c
    · have h2' : (0 : Int) < (c : Int) := by omega
      go_enter Try.func81, Try.ntmps81
      go_wp2
      go_ret
      have e : Rig.fails ⟨u, a, c, p⟩ = (true, ⟨u, a, c - 1, p⟩) := by simp [Rig.fails, h1, h2]
      rw [e]
      refine ⟨rfl, ⟨?_, ?_⟩, Keep.set _ _ _ _⟩
      · refine (HF.out.set 2 (by omega) _).eq (nine rfl rfl ?_ rfl rfl rfl rfl rfl rfl)
        rw [upd_same]
        show _ = Value.int .i64 ((c - 1 : Nat) : Int)
        go_num
      · exact ⟨r1, r2, by simp only; omega, r4⟩
    · have h2' : ¬ (0 : Int) < (c : Int) := by omega
      go_enter Try.func81, Try.ntmps81
      go_wp2
      go_ret
      have e : Rig.fails ⟨u, a, c, p⟩ = (false, ⟨u, a, c, p⟩) := by simp [Rig.fails, h1, h2]
      rw [e]
      exact ⟨rfl, ⟨HF.out, r1, r2, r3, r4⟩, Keep.refl _ _⟩

/-- A call comes to place 6: at which unit of it the machine falls, and what is rigged then. -/
def Rig.charge (r : Rig) (cost : Nat) : Nat × Rig := if cost < r.units then (0, { r with units := r.units - cost }) else (r.units, r)
set_option maxHeartbeats 1000000 in
theorem charge_any (d : Nat) (t : Top) (n : Nat) (w : World) (h : IsTop w d t) (hn : n ≤ 9223372036854775807) :
    Calls Try.prog 82 #[.pointer (some ⟨d, 0, none⟩), .int .i64 n] w fun e w' => e = .returned (.int .i64 (t.rig.charge n).1) ∧ IsTop w' d { t with rig := (t.rig.charge n).2 } ∧ Keep [d] w w' := by
  obtain ⟨hf, hr⟩ := h
  have c1 := (hf.2 0 (by omega)).1
  have f1 := (hf.2 0 (by omega)).2
  have HF : Hid (Fld 9 w d t.cell) := hf
  obtain ⟨⟨u, a, c, p⟩, room, used, files, changes, down⟩ := t
  obtain ⟨r1, r2, r3, r4⟩ := hr
  simp only [Top.cell] at c1 r1 r2 r3 r4
  clear hf
  by_cases h1 : n < u
  · have h1' : (n : Int) < (u : Int) := by omega
    go_enter Try.func82, Try.ntmps82
    go_wp2
    go_ret
    have e : Rig.charge ⟨u, a, c, p⟩ n = (0, ⟨u - n, a, c, p⟩) := by simp [Rig.charge, h1]
    rw [e]
    refine ⟨rfl, ⟨?_, ?_⟩, Keep.set _ _ _ _⟩
    · refine (HF.out.set 0 (by omega) _).eq (nine ?_ rfl rfl rfl rfl rfl rfl rfl rfl)
      rw [upd_same]
      show _ = Value.int .i64 ((u - n : Nat) : Int)
      go_num
    · exact ⟨by simp only; omega, r2, r3, r4⟩
  · have h1' : ¬ (n : Int) < (u : Int) := by omega
    go_enter Try.func82, Try.ntmps82
    go_wp2
    go_ret
    have e : Rig.charge ⟨u, a, c, p⟩ n = (u, ⟨u, a, c, p⟩) := by simp [Rig.charge, h1]
    rw [e]
    exact ⟨rfl, ⟨HF.out, r1, r2, r3, r4⟩, Keep.refl _ _⟩
end Dsk
end Go.Proofs.Ytbloifnibgdeoaa
