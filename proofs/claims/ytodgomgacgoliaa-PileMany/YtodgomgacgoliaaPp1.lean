import Derived.Test.YtodgomgacgoliaaSd4
import Derived.Test.YtodgomgacgoliaaLi6
namespace Go.Proofs.Ytodgomgacgoliaa
namespace Hp
open Go.RowKit Laws Irw
open Lin (OpD OpRow IsOps)
set_option linter.unusedVariables false
set_option maxRecDepth 100000
set_option linter.unusedSimpArgs false

theorem goes_fresh {T T' : Nat → Nat} {w w' : World} (hb : Below w.heap.size w w') (h1 : ∀ b, b < w.heap.size → T' b = T b) (h2 : ∀ b, w'.heap.size ≤ b → T' b = T b) : Goes (fun _ => False) T w T' w' :=
  ⟨hb.os, hb.tape, hb.output, hb.size, fun b hl _ => hb.block b hl, fun b hl _ => h1 b hl, fun b hl h0 => by rw [h2 b hl]; exact h0⟩
/-- the tags of a side that was made -/
def sideT (T : Nat → Nat) (w w1 : World) (k : Nat) : Nat → Nat := upd (upd (upd (upd T w.heap.size (k + 1 + 2)) (w.heap.size + 1) (k + 1)) w1.heap.size (k + 4)) (w1.heap.size + 1) (k + 6)
/-- the world in which it was made -/
def sideW (w w1 : World) (o : Int) : World := (w1.alloc (.cells #[.int .i64 o, .slice none 0 0] 29)).alloc (.cells #[.pointer (some ⟨w.heap.size + 1, 0, none⟩), .pointer (some ⟨w1.heap.size, 0, none⟩), .int .i64 0, .bool false] 31)
theorem sideW_size (w w1 : World) (o : Int) : (sideW w w1 o).heap.size = w1.heap.size + 2 := by simp [sideW]
theorem side_made (w0 : World) (T : Nat → Nat) (w w1 : World) (k : Nat) (o : Int) (hO : Old w0 T w) (hh : HeapAt (k + 1) (upd (upd T w.heap.size (k + 1 + 2)) (w.heap.size + 1) (k + 1)) w1 (w.heap.size + 1) 32 w.heap.size o []) (hb : Below w.heap.size w w1) :
    SideIs k (sideT T w w1 k) (sideW w w1 o) (w1.heap.size + 1) (w.heap.size + 1) w.heap.size w1.heap.size o 0 ∧ Old w0 (sideT T w w1 k) (sideW w w1 o) ∧ Goes (fun _ => False) T w (sideT T w w1 k) (sideW w w1 o) := by
  have hlt : w.heap.size + 1 < w1.heap.size := hh.dirs.lth
  have hb3 : Below w1.heap.size w1 (sideW w w1 o) := ((Below.refl _ _).alloc (Nat.le_refl _) _).alloc (by simp) _
  have hg3 : Goes (fun _ => False) (upd (upd T w.heap.size (k + 1 + 2)) (w.heap.size + 1) (k + 1)) w1 (sideT T w w1 k) (sideW w w1 o) := goes_fresh hb3 (fun b hl => by unfold sideT; rw [upd_other _ _ (by omega), upd_other _ _ (by omega)]) (fun b hl => by rw [sideW_size] at hl; unfold sideT; rw [upd_other _ _ (by omega), upd_other _ _ (by omega)])
  have hg : Goes (fun _ => False) T w (sideT T w w1 k) (sideW w w1 o) := goes_fresh (hb.trans (hb3.mono hb.size)) (fun b hl => by unfold sideT; rw [upd_other _ _ (by omega), upd_other _ _ (by omega), upd_other _ _ (by omega), upd_other _ _ (by omega)]) (fun b hl => by rw [sideW_size] at hl; unfold sideT; rw [upd_other _ _ (by omega), upd_other _ _ (by omega), upd_other _ _ (by omega), upd_other _ _ (by omega)])
  refine ⟨⟨[], [], 0, false, ⟨hh.goes hg3 (fun z => z) (fun z => z) (fun z => z), ⟨?_, ?_, ?_, ?_, .slice none 0 0, ?_, OwnL.nil _ _ _⟩, ⟨?_, ?_, ?_, ?_, ?_, ?_, ?_, ?_⟩, List.Perm.refl _, fun i _ hi => by simp at hi, fun h => by cases h⟩, rfl⟩, hO.goes hg (fun z => z), hg⟩
  · unfold sideT; rw [upd_other _ _ (by omega), upd_same]
  · rw [sideW_size]; omega
  · unfold sideW; rw [World.cell?_alloc_past _ _ _ (by simp)]; simp
  · unfold sideW; rw [World.frozen?_of_block (a := ⟨w1.heap.size, 1, none⟩) (((Below.refl _ _).alloc (by exact Nat.le_refl _) _).block _ (by simp))]; simp
  · unfold sideW; rw [World.cell?_alloc_past _ _ _ (by simp)]; simp
  · unfold sideT; rw [upd_same]
  · rw [sideW_size]; omega
  · unfold sideW; rw [World.cell?_alloc_at _ _ _ _ (by simp)]; rfl
  · unfold sideW; rw [World.cell?_alloc_at _ _ _ _ (by simp)]; rfl
  · unfold sideW; rw [World.cell?_alloc_at _ _ _ _ (by simp)]; rfl
  · unfold sideW; rw [World.cell?_alloc_at _ _ _ _ (by simp)]; rfl
  · unfold sideW; rw [World.frozen?_alloc_at _ _ _ _ (by simp)]
  · unfold sideW; rw [World.frozen?_alloc_at _ _ _ _ (by simp)]

theorem lenOf_le (k : Int) (n : Nat) : lenOf k n ≤ n + 1 := by unfold lenOf; split <;> (try split) <;> omega

/-- What stands between two rounds of PilePlays. -/
structure PP (w0 : World) (T : Nat → Nat) (w : World) (s1 h1 B1 b1 s2 h2 B2 b2 : Nat) (o1 o2 : Int) (n1 n2 : Nat) : Prop where
  one : SideIs 100 T w s1 h1 B1 b1 o1 n1
  two : SideIs 200 T w s2 h2 B2 b2 o2 n2
  old : Old w0 T w
theorem PP.play1 {w0 : World} {T : Nat → Nat} {w : World} {s1 h1 B1 b1 s2 h2 B2 b2 : Nat} {o1 o2 : Int} {n1 n2 : Nat} (p : PP w0 T w s1 h1 B1 b1 s2 h2 B2 b2 o1 o2 n1 n2) (hl : n1 ≤ 1000000000) (kind x : Int) (sec : Bool) :
    Calls Try.prog 9 #[.pointer (some ⟨s1, 0, none⟩), .agg #[.int .i64 kind, .int .i64 x, .bool sec]] w fun e w' => e = .returned (.bool true) ∧ Hid (∃ T', PP w0 T' w' s1 h1 B1 b1 s2 h2 B2 b2 o1 o2 (lenOf kind n1) n2) := by
  refine (plays_is 100 T w s1 h1 B1 b1 o1 n1 kind x sec p.one hl (fun g hg => p.old.zero g (.inr hg))).mono ?_
  rintro e w' ⟨rfl, T', k1, k2, k3⟩
  exact ⟨rfl, T', k1, p.two.goes k2 (fun x a b z => by have := z.1; have := z.2; omega), p.old.goes k2 (fun z => by have := z.1; omega)⟩
theorem PP.play2 {w0 : World} {T : Nat → Nat} {w : World} {s1 h1 B1 b1 s2 h2 B2 b2 : Nat} {o1 o2 : Int} {n1 n2 : Nat} (p : PP w0 T w s1 h1 B1 b1 s2 h2 B2 b2 o1 o2 n1 n2) (hl : n2 ≤ 1000000000) (kind x : Int) (sec : Bool) :
    Calls Try.prog 9 #[.pointer (some ⟨s2, 0, none⟩), .agg #[.int .i64 kind, .int .i64 x, .bool sec]] w fun e w' => e = .returned (.bool true) ∧ Hid (∃ T', PP w0 T' w' s1 h1 B1 b1 s2 h2 B2 b2 o1 o2 n1 (lenOf kind n2)) := by
  refine (plays_is 200 T w s2 h2 B2 b2 o2 n2 kind x sec p.two hl (fun g hg => p.old.zero g (.inr hg))).mono ?_
  rintro e w' ⟨rfl, T', k1, k2, k3⟩
  exact ⟨rfl, T', p.one.goes k2 (fun x a b z => by have := z.1; have := z.2; omega), k1, p.old.goes k2 (fun z => by have := z.1; omega)⟩
theorem PP.drain1 {w0 : World} {T : Nat → Nat} {w : World} {s1 h1 B1 b1 s2 h2 B2 b2 : Nat} {o1 o2 : Int} {n1 n2 : Nat} (p : PP w0 T w s1 h1 B1 b1 s2 h2 B2 b2 o1 o2 n1 n2) (hl : n1 ≤ 1000000000) :
    Calls Try.prog 10 #[.pointer (some ⟨s1, 0, none⟩)] w fun e w' => e = .returned (.bool true) ∧ Hid (∃ T', PP w0 T' w' s1 h1 B1 b1 s2 h2 B2 b2 o1 o2 0 n2) := by
  refine (drains_is 100 T w s1 h1 B1 b1 o1 n1 p.one hl (fun g hg => p.old.zero g (.inr hg))).mono ?_
  rintro e w' ⟨rfl, T', k1, k2, k3⟩
  exact ⟨rfl, T', k1, p.two.goes k2 (fun x a b z => by have := z.1; have := z.2; omega), p.old.goes k2 (fun z => by have := z.1; omega)⟩
theorem PP.drain2 {w0 : World} {T : Nat → Nat} {w : World} {s1 h1 B1 b1 s2 h2 B2 b2 : Nat} {o1 o2 : Int} {n1 n2 : Nat} (p : PP w0 T w s1 h1 B1 b1 s2 h2 B2 b2 o1 o2 n1 n2) (hl : n2 ≤ 1000000000) :
    Calls Try.prog 10 #[.pointer (some ⟨s2, 0, none⟩)] w fun e w' => e = .returned (.bool true) ∧ Hid (∃ T', PP w0 T' w' s1 h1 B1 b1 s2 h2 B2 b2 o1 o2 n1 0) := by
  refine (drains_is 200 T w s2 h2 B2 b2 o2 n2 p.two hl (fun g hg => p.old.zero g (.inr hg))).mono ?_
  rintro e w' ⟨rfl, T', k1, k2, k3⟩
  exact ⟨rfl, T', p.one.goes k2 (fun x a b z => by have := z.1; have := z.2; omega), k1, p.old.goes k2 (fun z => by have := z.1; omega)⟩

end Hp
end Go.Proofs.Ytodgomgacgoliaa
