import Derived.Test.YtanpbknjnpmmnaaMr5
namespace Go.Proofs.Ytanpbknjnpmmnaa
namespace Mnf
open Go.RowKit CMath Byt Cod Crw Irw Laws
set_option linter.unusedVariables false
set_option linter.unusedSimpArgs false
set_option maxRecDepth 20000
def kPl : Knd Pl := ⟨83, 2, 16, .agg #[.int .i64 0, .int .u64 0], fun p => [.int .i64 p.1, .int .u64 (p.2 : Int)], fun _ => rfl, fun x u hu => by simp at hu; rcases hu with rfl | rfl <;> rfl, by omega, rfl, by omega⟩
def kPd : Knd Pd := ⟨87, 7, 72, .agg #[.int .i64 0, .int .u64 0, .int .i64 0, .int .i64 0, .int .i64 0, .string ⟨#[]⟩, .string ⟨#[]⟩], pdC, fun _ => rfl, fun x u hu => by simp [pdC] at hu; rcases hu with rfl | rfl | rfl | rfl | rfl | rfl | rfl <;> rfl, by omega, rfl, by omega⟩
def kT : Knd ByteArray := ⟨9, 1, 16, .string ⟨#[]⟩, fun s => [.string s], fun _ => rfl, fun x u hu => by simp at hu; subst hu; rfl, by omega, rfl, by omega⟩
theorem infoPl : (Try.prog.info? 83).map (fun i => (i.zero, i.size, i.bytes)) = some (some kPl.zero, 2, 16) := by kernel_rfl
theorem infoPd : (Try.prog.info? 87).map (fun i => (i.zero, i.size, i.bytes)) = some (some kPd.zero, 7, 72) := by kernel_rfl
theorem infoT : (Try.prog.info? 9).map (fun i => (i.zero, i.size, i.bytes)) = some (some kT.zero, 1, 16) := by kernel_rfl

variable {α : Type} {K : Knd α}
/-- n things being laid at G: the first are xs -/
def Mk (K : Knd α) (w : World) (G n : Nat) (xs : List α) : Prop := xs.length ≤ n ∧ ∃ cells, w.ownsRow 0 K.ty K.size (.slice (some ⟨G, 0, none⟩) n n) n cells ∧ cells.take (xs.length * K.size) = K.cells xs
theorem Mk.start {w1 : World} {G n : Nat} {cells : List Value} (h : w1.ownsRow 0 K.ty K.size (.slice (some ⟨G, 0, none⟩) n n) n cells) : Mk K w1 G n [] := ⟨Nat.zero_le _, cells, h, by simp [Knd.cells]⟩
theorem own_below {base : Nat} {e : TypeId} {size : Nat} {v : Value} {n : Nat} {xs : List Value} {w w' : World} (h : w.ownsRow base e size v n xs) (hb : Below w.heap.size w w') : w'.ownsRow base e size v n xs := by
  have hlt := fun g hv => (h.lt g hv).2
  refine ⟨h.1, ?_⟩
  rcases h.2 with h1 | ⟨g, cap, cur, hv, hb', hh, hr⟩
  · exact .inl h1
  · have hv' : v.ownBlock = some g := by rw [hv]; rfl
    exact .inr ⟨g, cap, cur, hv, hb', (hb.block g (hlt g hv')).trans hh, hr⟩
theorem Mk.below {w w' : World} {G n : Nat} {xs : List α} (h : Mk K w G n xs) (hb : Below w.heap.size w w') : Mk K w' G n xs := by
  obtain ⟨h1, cells, h2, h3⟩ := h
  exact ⟨h1, cells, own_below h2 hb, h3⟩
theorem Mk.lt {w : World} {G n : Nat} {xs : List α} (h : Mk K w G n xs) : G < w.heap.size := by
  obtain ⟨h1, cells, h2, h3⟩ := h
  exact (h2.lt G rfl).2
theorem Mk.ex {w : World} {G n : Nat} {xs : List α} (h : Mk K w G n xs) {j : Nat} (hj : j < n * K.size) : ∃ u, w.cell? ⟨G, j, none⟩ = some u := by
  obtain ⟨h1, cells, h2, h3⟩ := h
  rw [h2.cellAt j hj]
  exact ⟨_, List.getElem?_eq_getElem (by rw [h2.1]; exact hj)⟩
theorem Mk.fr {w : World} {G n : Nat} {xs : List α} (h : Mk K w G n xs) (j : Nat) : w.frozen? ⟨G, j, none⟩ = false := by
  obtain ⟨h1, cells, h2, h3⟩ := h
  exact h2.frozenAt j
theorem own_sets {base : Nat} {e : TypeId} {size g n c : Nat} (vs : List Value) : ∀ (o : Nat) (w : World) (xs : List Value), w.ownsRow base e size (.slice (some ⟨g, 0, none⟩) n c) n xs → o + vs.length ≤ xs.length →
    ∃ ys, (sets w g o vs).ownsRow base e size (.slice (some ⟨g, 0, none⟩) n c) n ys ∧ ys.take (o + vs.length) = xs.take o ++ vs := by
  induction vs with
  | nil => intro o w xs h _; exact ⟨xs, h, by simp⟩
  | cons v vs ih =>
    intro o w xs h hl
    have h1 := (h.stored o v).1
    simp only [List.length_cons] at hl
    obtain ⟨ys, h2, h3⟩ := ih (o + 1) _ _ h1 (by rw [List.length_set]; omega)
    refine ⟨ys, h2, ?_⟩
    rw [List.length_cons, show o + (vs.length + 1) = o + 1 + vs.length by omega, h3, take_set rfl (by omega)]
    simp
theorem Mk.add {w : World} {G n : Nat} {xs : List α} (h : Mk K w G n xs) (x : α) (hn : xs.length < n) : Mk K (sets w G (xs.length * K.size) (K.cs x)) G n (xs ++ [x]) := by
  obtain ⟨h1, cells, h2, h3⟩ := h
  have hs : (xs.length + 1) * K.size ≤ n * K.size := Nat.mul_le_mul_right _ hn
  rw [Nat.succ_mul] at hs
  obtain ⟨ys, h4, h5⟩ := own_sets (K.cs x) (xs.length * K.size) w cells h2 (by rw [K.len, h2.1]; exact hs)
  refine ⟨by simp; omega, ys, h4, ?_⟩
  rw [K.len, h3] at h5
  rw [List.length_append, List.length_singleton, Nat.succ_mul, h5, Knd.cells_append]
  simp [Knd.cells]
theorem Mk.done {w : World} {G n : Nat} {xs : List α} (h : Mk K w G n xs) (hn : xs.length = n) : w.ownsRow 0 K.ty K.size (.slice (some ⟨G, 0, none⟩) xs.length xs.length) xs.length (K.cells xs) := by
  obtain ⟨h1, cells, h2, h3⟩ := h
  subst hn
  rw [List.take_of_length_le (by rw [h2.1]; exact Nat.le_refl _)] at h3
  rw [← h3]
  exact h2
/-- what a reader of a list answers -/
def LsOk (K : Knd α) (a : Option Addr) (l : List Nat) (xs : List α) (r : List Nat) (w : World) (e : Ending) (w' : World) : Prop := ∃ G a', e = .returned (.tuple #[.slice (some ⟨G, 0, none⟩) xs.length xs.length, .slice a' r.length r.length, .bool true]) ∧ Sub a l a' r ∧ Below w.heap.size w w' ∧ w.heap.size ≤ G ∧ w'.ownsRow 0 K.ty K.size (.slice (some ⟨G, 0, none⟩) xs.length xs.length) xs.length (K.cells xs)
theorem readPlace_any (a : Option Addr) (L : Nat) (l : List Nat) (w : World) (h : IsB w a l) (hL : l.length = L) (hm : L ≤ 9223372036854775807) :
    Calls Try.prog 44 #[.slice a L L] w fun e w' => RdIs a l plV (plV (0, 0)) (rdPl l) w e w' := by
  cases hr : rdPl l with
  | some x => exact (readPlace_ok a L l x.1 x.2 w h hL hm hr).mono fun e w' hp => .inl ⟨_, _, rfl, hp⟩
  | none => exact (readPlace_no a L l w h hL hm hr).mono fun e w' hp => .inr ⟨rfl, hp⟩
theorem readKey_any (a : Option Addr) (L : Nat) (l : List Nat) (w : World) (h : IsB w a l) (hL : l.length = L) (hm : L ≤ 9223372036854775807) :
    Calls Try.prog 48 #[.slice a L L] w fun e w' => RdIs a l Value.string (.string ⟨#[]⟩) (rdK l) w e w' := by
  cases hr : rdK l with
  | some x => exact (readKey_ok a L l x.1 x.2 w h hL hm hr).mono fun e w' hp => .inl ⟨_, _, rfl, hp⟩
  | none => exact (readKey_no a L l w h hL hm hr).mono fun e w' hp => .inr ⟨rfl, hp⟩
theorem RdIs.ok {β : Type} {a : Option Addr} {l : List Nat} {V : β → Value} {z : Value} {o : Option (β × List Nat)} {x : β} {r : List Nat} {w : World} {e : Ending} {w' : World} (h : RdIs a l V z o w e w') (ho : o = some (x, r)) : RdOk a l (V x) r w e w' := by
  rcases h with ⟨x', r', h1, h2⟩ | ⟨h1, _⟩
  · rw [ho] at h1
    cases h1
    exact h2
  · rw [ho] at h1; cases h1
theorem RdIs.no {β : Type} {a : Option Addr} {l : List Nat} {V : β → Value} {z : Value} {o : Option (β × List Nat)} {w : World} {e : Ending} {w' : World} (h : RdIs a l V z o w e w') (ho : o = none) : RdNo z w e w' := by
  rcases h with ⟨x', r', h1, h2⟩ | ⟨h1, h2⟩
  · rw [ho] at h1; cases h1
  · exact h2
theorem rdLst_n {β : Type} {o : List Nat → Option (β × List Nat)} {most n : Nat} {l r1 : List Nat} (h : rdN most l = some (n, r1)) : rdLst o most l = rdL o n r1 := by unfold rdLst; rw [h]; rfl
end Mnf
end Go.Proofs.Ytanpbknjnpmmnaa
