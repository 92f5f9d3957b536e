import Derived.Test.YtjbnnhephagdmaaDoorMl4
namespace Go.Proofs.YtjbnnhephagdmaaDoor
namespace Mnf
open Go.RowKit CMath Byt Cod Crw Irw Laws
set_option linter.unusedVariables false
set_option linter.unusedSimpArgs false
set_option maxRecDepth 20000
/-- only the count has changed -/
def OnlyC (C : Nat) (w w' : World) : Prop := (∀ u : World, u.heap.size ≤ C → Below u.heap.size u w → Below u.heap.size u w') ∧ ∀ B vs, B ≠ C → Zb w B vs → Zb w' B vs
theorem OnlyC.refl (C : Nat) (w : World) : OnlyC C w w := ⟨fun _ _ h => h, fun _ _ _ h => h⟩
theorem OnlyC.set (C : Nat) (w : World) (v : Value) : OnlyC C w (w.setCell ⟨C, 0, none⟩ v) :=
  ⟨fun u hu h => h.setCell (p := ⟨C, 0, none⟩) hu v, fun B vs hB h => h.keep (Below.heap_setCell w _ v B hB) (by simp)⟩
/-- what a count answers -/
def CtIs (C : Nat) (w : World) (x : Int) (n : Nat) (r : Ending) (w' : World) : Prop := (∃ v, r = .returned v) ∧ ∃ z, Ct C w' z ∧ (0 ≤ z → 0 ≤ x ∧ z = x - n) ∧ OnlyC C w w'
theorem add_n (C : Nat) (w : World) (x : Int) (n : Nat) (y : Int) (hy : y = n) (hn : n ≤ 9223372036854775807) (h : Ct C w x) :
    Calls Tryd.prog 46 #[.pointer (some ⟨C, 0, none⟩), .int .i64 y] w fun r w' => CtIs C w x n r w' := by
  subst hy
  have HC : Hid (Ct C w x) := h
  obtain ⟨h1, h2, h3, h4⟩ := h
  by_cases hx : 0 ≤ x
  · go_enter Tryd.func46, Tryd.ntmps46
    go_wp2
    go_ret
    exact ⟨⟨_, rfl⟩, x - n, HC.out.set _ (by omega), fun _ => ⟨hx, rfl⟩, OnlyC.set _ _ _⟩
  · go_enter Tryd.func46, Tryd.ntmps46
    go_wp2
    go_ret
    exact ⟨⟨_, rfl⟩, x, HC.out, fun h => by omega, OnlyC.refl _ _⟩
set_option maxHeartbeats 1000000 in
theorem add_m (C : Nat) (w : World) (x : Int) (n : Nat) (h : Ct C w x) :
    Calls Tryd.prog 46 #[.pointer (some ⟨C, 0, none⟩), .int .i64 (-9223372036854775808)] w fun r w' => CtIs C w x n r w' := by
  have HC : Hid (Ct C w x) := h
  obtain ⟨h1, h2, h3, h4⟩ := h
  by_cases hx : 0 ≤ x
  · have e : IntKind.i64.wrap (x - -9223372036854775808) = x - 9223372036854775808 := by rw [IntKind.wrap_i64]; omega
    have e2 : IntKind.i64.wrap (x + 9223372036854775808) = x - 9223372036854775808 := by rw [IntKind.wrap_i64]; omega
    go_enter Tryd.func46, Tryd.ntmps46
    go_wp2
    go_ret
    exact ⟨⟨_, rfl⟩, x - 9223372036854775808, HC.out.set _ (by omega), fun h => by omega, OnlyC.set _ _ _⟩
  · go_enter Tryd.func46, Tryd.ntmps46
    go_wp2
    go_ret
    exact ⟨⟨_, rfl⟩, x, HC.out, fun h => by omega, OnlyC.refl _ _⟩
theorem add_w (C : Nat) (w : World) (x : Int) (L : Nat) (y : Int) (hy : y = IntKind.i64.wrap (1 + (L : Int))) (hL : L ≤ 9223372036854775807) (h : Ct C w x) :
    Calls Tryd.prog 46 #[.pointer (some ⟨C, 0, none⟩), .int .i64 y] w fun r w' => CtIs C w x (1 + L) r w' := by
  rw [IntKind.wrap_i64] at hy
  by_cases hm : L = 9223372036854775807
  · have e : y = -9223372036854775808 := by omega
    rw [e]
    exact add_m C w x _ h
  · exact add_n C w x (1 + L) y (by omega) (by omega) h
theorem text_w (C : Nat) (w : World) (x : Int) (s : ByteArray) (hs : s.size ≤ 9223372036854775807) (h : Ct C w x) :
    Calls Tryd.prog 54 #[.pointer (some ⟨C, 0, none⟩), .string s] w fun r w' => CtIs C w x (1 + s.size) r w' := by
  have HC : Hid (Ct C w x) := h
  obtain ⟨L, hL⟩ : ∃ L, s.size = L := ⟨_, rfl⟩
  rw [hL] at hs ⊢
  clear h
  go_enter Tryd.func54, Tryd.ntmps54
  go_wp2_with (go_at_call 46; refine (add_w C w x L _ (by first | rfl | (rw [IntKind.wrap_i64]; omega) | (unfold wrap64; rw [IntKind.wrap_i64])) hs HC.out).mono ?_; rintro r w2 ⟨⟨v, rfl⟩, hz⟩)
  go_end0
  exact ⟨⟨_, rfl⟩, hz⟩
theorem many_k (w : World) :
    Calls Tryd.prog 16 #[.int .i64 10000] w fun r w' => r = .returned (.pointer (some ⟨w.heap.size, 0, none⟩)) ∧ Ct w.heap.size w' 10000 ∧ Below w.heap.size w w' := by
  go_enter Tryd.func16, Tryd.ntmps16
  go_wp2
  go_ret
  exact ⟨rfl, ⟨by simp, by rw [World.cell?_alloc_at _ _ _ _ rfl]; rfl, World.frozen?_alloc_at _ _ _ _ rfl, by omega⟩, (Below.refl _ _).alloc (Nat.le_refl _) _⟩
end Mnf
end Go.Proofs.YtjbnnhephagdmaaDoor
