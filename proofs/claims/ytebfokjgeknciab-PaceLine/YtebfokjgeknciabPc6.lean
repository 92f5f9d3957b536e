import Derived.Test.YtebfokjgeknciabPc5
namespace Go.Proofs.Ytebfokjgeknciab
namespace Pcm
open Go.RowKit Laws Irw
set_option linter.unusedVariables false
set_option linter.unusedSimpArgs false
set_option maxRecDepth 20000

theorem wtd {a b : Int} (ha : 0 ≤ a) (hR : R64 a) (hb : 1 ≤ b) : IntKind.i64.wrap (a.tdiv b) = a / b := by
  rw [Int.tdiv_eq_ediv_of_nonneg ha]
  have h := div_le ha hb
  unfold R64 at hR
  exact IntWalk.i64_in _ (by omega)
/-- the numbers of a list's cells -/
def ints (vs : Array Value) : List Int := vs.toList.map intOf
theorem inil : ∀ x ∈ ([] : List Value).map intOf, R64 x := by simp
theorem icons {a : Int} {l : List Value} (ha : R64 a) (hl : ∀ x ∈ l.map intOf, R64 x) : ∀ x ∈ (Value.int .i64 a :: l).map intOf, R64 x := by
  intro y hy
  rw [List.map_cons] at hy
  rcases List.mem_cons.1 hy with rfl | hy
  · exact ha
  · exact hl y hy
theorem sumD_any (W : World) (T : TypeId) (vs : Array Value) (n : Nat) (hv : vs.toList = cellsI (ints vs)) (hn : n = (ints vs).length) (hr : ∀ x ∈ ints vs, R64 x) (hl : n ≤ 1000 := by decide) :
    Calls Try.prog 40 #[.slice (some ⟨W.heap.size, 0, none⟩) n n] (W.alloc (.cells vs T)).drew fun e w' => e = .returned (.int .i64 (ssum (ints vs))) ∧ Below (W.alloc (.cells vs T)).drew.heap.size (W.alloc (.cells vs T)).drew w' :=
  (sum_any W.heap.size 0 n n (ints vs) _ (row_newD W _ T vs hv) hn (by omega) hr).mono fun e w' ⟨he, hw⟩ => ⟨he, by rw [hw]; exact Below.refl _ _⟩
theorem sumN_any (W : World) (T : TypeId) (vs : Array Value) (n : Nat) (hv : vs.toList = cellsI (ints vs)) (hn : n = (ints vs).length) (hr : ∀ x ∈ ints vs, R64 x) (hl : n ≤ 1000 := by decide) :
    Calls Try.prog 40 #[.slice (some ⟨W.heap.size, 0, none⟩) n n] (W.alloc (.cells vs T)) fun e w' => e = .returned (.int .i64 (ssum (ints vs))) ∧ Below (W.alloc (.cells vs T)).heap.size (W.alloc (.cells vs T)) w' :=
  (sum_any W.heap.size 0 n n (ints vs) _ (row_new W _ T vs hv) hn (by omega) hr).mono fun e w' ⟨he, hw⟩ => ⟨he, by rw [hw]; exact Below.refl _ _⟩

end Pcm
end Go.Proofs.Ytebfokjgeknciab
