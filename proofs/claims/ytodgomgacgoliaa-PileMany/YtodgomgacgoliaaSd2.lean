import Derived.Test.YtodgomgacgoliaaSd1
import Derived.Deep.RegionLaw
namespace Go.Proofs.Ytodgomgacgoliaa
namespace Hp
open Go.RowKit Laws Irw
set_option linter.unusedVariables false
set_option maxRecDepth 100000
set_option linter.unusedSimpArgs false

def lenOf (kind : Int) (n : Nat) : Nat := if kind = 1 then n + 1 else if kind = 2 then n - 1 else n
/-- what one call leaves -/
def PlayIs (k : Nat) (T : Nat → Nat) (w : World) (s h B b : Nat) (o kind : Int) (n : Nat) (w' : World) : Prop :=
  ∃ T' l' m' top' told', SideAt k T' w' s h B b o l' m' top' told' ∧ Goes (mine k) T w T' w' ∧ m'.length = lenOf kind n
theorem goes_mine {k : Nat} {u : Nat → Prop} {T T' : Nat → Nat} {w w' : World} (h : Goes u T w T' w') (hu : ∀ x, u x → k < x ∧ x < k + 10) : Goes (mine k) T w T' w' := h.mono hu

set_option maxHeartbeats 4000000 in
theorem plays_push (k : Nat) (T : Nat → Nat) (w : World) (s h B b : Nat) (o : Int) (l m : List Int) (top : Int) (told : Bool) (n : Int) (sec : Bool) (p : SideAt k T w s h B b o l m top told) (hl : m.length ≤ 1000000000) (hz : ∀ g, w.heap.size ≤ g → T g = 0) :
    Calls Try.prog 9 #[.pointer (some ⟨s, 0, none⟩), .agg #[.int .i64 1, .int .i64 n, .bool sec]] w fun e w' => e = .returned (.bool true) ∧ PlayIs k T w s h B b o 1 m.length w' := by
  have HP : Hid (SideAt k T w s h B b o l m top told) := p
  have HTH : Hid (T w.heap.size = 0) := hz _ (Nat.le_refl _)
  have hll : l.length ≤ 1000000000 := by have := p.perm.length_eq; omega
  have HPU : Hid (∀ W, HeapAt (k + 1) T W h 32 B o l → Calls Try.prog 21 #[.pointer (some ⟨h, 0, none⟩), .int .i64 n] W fun e w' => e = .returned (.tuple #[]) ∧ PushIs (aheadF o) (k + 1) T W h 32 B o l n w') := fun W hW => push_any (k + 1) T W h _ B o l n less_heap hW (by omega)
  have HB1 : Hid (Below w.heap.size w (w.alloc (.cells #[.int .i64 1, .int .i64 n, .bool sec] 33))) := (Below.refl _ _).alloc (Nat.le_refl _) _
  have HS1 : Hid (SideAt k T (w.alloc (.cells #[.int .i64 1, .int .i64 n, .bool sec] 33)) s h B b o l m top told) := p.below HB1.out
  have c0 := HS1.out.blk.c0
  have e0 : (w.alloc (.cells #[.int .i64 1, .int .i64 n, .bool sec] 33)).cell? ⟨w.heap.size, 0, none⟩ = some (.int .i64 1) := by simp
  have e1 : (w.alloc (.cells #[.int .i64 1, .int .i64 n, .bool sec] 33)).cell? ⟨w.heap.size, 1, none⟩ = some (.int .i64 n) := by simp
  have hH : w.heap.size < (w.alloc (.cells #[.int .i64 1, .int .i64 n, .bool sec] 33)).heap.size := by simp
  clear p hz
  go_enter Try.func9, Try.ntmps9
  generalize hW1 : w.alloc (.cells #[.int .i64 1, .int .i64 n, .bool sec] 33) = W1 at *
  have HTG : Hid (∀ {u : Nat → Prop} {T' : Nat → Nat} {W' : World}, Goes u T W1 T' W' → ¬ u 0 → W'.cell? ⟨w.heap.size, 1, none⟩ = some (.int .i64 n) ∧ w.heap.size < W'.heap.size ∧ T' w.heap.size = 0) := fun hg hu => ⟨(hg.cell hH (by rw [HTH.out]; exact hu)).trans e1, Nat.lt_of_lt_of_le hH hg.size, (hg.tag _ hH (by rw [HTH.out]; exact hu)).trans HTH.out⟩
  go_wp2
  go_region_law (first
    | (go_simp; go_at_call 21; go_loud (refine (HPU.out (W1.drew) (HS1.out.heap.below ⟨rfl, rfl, rfl, Nat.le_refl _, fun _ _ => rfl⟩)).mono ?_; rintro e w3 ⟨rfl, T3, l3, k1, k2, k3, k4⟩; have k2' : Goes (fun x => x = k + 1 ∨ x = k + 1 + 1) T W1 T3 w3 := ⟨k2.os, k2.tape, k2.output, k2.size, k2.block, k2.tag, k2.high⟩; have H3 : Hid (HeapAt (k + 1) T3 w3 h 32 B o l3 ∧ BagAt (k + 4) T3 w3 b o m ∧ SBlk k T3 w3 s h b top told ∧ l3.Perm (m ++ [n]) ∧ Heapy (aheadF o) 0 l3 ∧ Goes (mine k) T w T3 w3) := ⟨k1, HS1.out.bag.goes k2' (by omega) (by omega), HS1.out.blk.goes k2' (by omega), k3.trans (HS1.out.perm.append_right _), k4 (ord_aheadF o) HS1.out.heapy, (Goes.below HB1.out).trans (goes_mine k2' (by omega))⟩; have H3T : Hid (T3 w.heap.size = 0 ∧ w.heap.size < w3.heap.size) := ⟨(HTG.out k2' (by omega)).2.2, (HTG.out k2' (by omega)).2.1⟩; have g1 := (HTG.out k2' (by omega)).1; have gc1 := H3.out.2.2.1.c1; clear k1 k2 k2' k3 k4)))
  all_goals (
    clear e0 e1 c0 hH HPU HS1 HTG HB1 hW1
    go_wp2
    go_region_law (first
      | (go_simp; go_at_call 22; go_loud (refine (put_any (k + 4) T3 (w3.drew) b o m n (H3.out.2.1.below ⟨rfl, rfl, rfl, Nat.le_refl _, fun _ _ => rfl⟩) (by omega)).mono ?_; rintro e w5 ⟨rfl, T5, z1, z2⟩; have z2' : Goes (fun x => x = k + 4 ∨ x = k + 4 + 1) T3 w3 T5 w5 := ⟨z2.os, z2.tape, z2.output, z2.size, z2.block, z2.tag, z2.high⟩; have HB5 : Hid (SBlk k T5 w5 s h b top told) := H3.out.2.2.1.goes z2' (by omega); have H5 : Hid (SideAt k T5 (w5.setCell ⟨s, 3, none⟩ (.bool false)) s h B b o l3 (m ++ [n]) top false ∧ Goes (mine k) T w T5 (w5.setCell ⟨s, 3, none⟩ (.bool false))) := ⟨⟨(H3.out.1.goes z2' (by omega) (by omega) (by omega)).goes (HB5.out.told false).2 (by omega) (by omega) (by omega), z1.goes (HB5.out.told false).2 (by omega) (by omega), (HB5.out.told false).1, H3.out.2.2.2.1, H3.out.2.2.2.2.1, fun h => by cases h⟩, (H3.out.2.2.2.2.2.trans (goes_mine z2' (by omega))).trans (goes_mine (HB5.out.told false).2 (by omega))⟩; have gc3 := HB5.out.c3; have gf3 := HB5.out.f3; clear z1 z2 z2')))
    all_goals go_wp2
    all_goals go_ret
    all_goals exact ⟨rfl, T5, l3, m ++ [n], top, false, H5.out.1, H5.out.2, by simp [lenOf]⟩)

end Hp
end Go.Proofs.Ytodgomgacgoliaa
