import Derived.Test.YtpappjcbeibhiaaHp6
namespace Go.Proofs.Ytpappjcbeibhiaa
namespace Hp
open Go.RowKit Laws Irw
set_option linter.unusedVariables false
set_option maxRecDepth 100000
set_option linter.unusedSimpArgs false

/-! The document's side: Ahead, and a bag. -/
def digit (a : Int) : Int := if a.tmod 10 < 0 then - (a.tmod 10) else a.tmod 10
def aheadF (o a b : Int) : Bool := if o = 1 then decide (b < a) else if o = 2 then decide (digit a < digit b) else if o = 3 then false else decide (a < b)
theorem ord_aheadF (o : Int) : Ord (aheadF o) := by
  unfold aheadF
  by_cases h1 : o = 1
  · simp only [if_pos h1]; exact ⟨fun a b h => by simp at *; omega, fun a b c h k => by simp at *; omega⟩
  · by_cases h2 : o = 2
    · simp only [if_neg h1, if_pos h2]; exact ⟨fun a b h => by simp at *; omega, fun a b c h k => by simp at *; omega⟩
    · by_cases h3 : o = 3
      · simp only [if_neg h1, if_neg h2, if_pos h3]; exact ⟨fun a b h => by simp at h, fun a b c h k => rfl⟩
      · simp only [if_neg h1, if_neg h2, if_neg h3]; exact ⟨fun a b h => by simp at *; omega, fun a b c h k => by simp at *; omega⟩

theorem digit_any (a : Int) (w : World) : Calls Try.prog 29 #[.int .i64 a] w fun e w' => e = .returned (.int .i64 (digit a)) ∧ w' = w := by
  have hb : -10 < a.tmod 10 ∧ a.tmod 10 < 10 := by
    have e := Int.emod_nonneg a (by omega : (10 : Int) ≠ 0)
    have e2 := Int.emod_lt_of_pos a (by omega : (0 : Int) < 10)
    rw [Int.tmod_eq_emod]
    split <;> simp <;> omega
  have w1 : IntKind.i64.wrap (a.tmod 10) = a.tmod 10 := IntWalk.i64_in _ (by omega)
  have w2 : IntKind.i64.wrap (-(a.tmod 10)) = -(a.tmod 10) := IntWalk.i64_in _ (by omega)
  have w3 : wrap64 (a.tmod 10) = a.tmod 10 := by unfold wrap64; omega
  have w4 : wrap64 (-(a.tmod 10)) = -(a.tmod 10) := by unfold wrap64; omega
  by_cases h : a.tmod 10 < 0
  · have HD : Hid (digit a = -(a.tmod 10)) := by show digit a = _; unfold digit; rw [if_pos h]
    go_enter Try.func29, Try.ntmps29
    go_wp2
    go_ret
    exact ⟨by rw [HD.out]; simp [w1, w2, w3, w4], rfl⟩
  · have HD : Hid (digit a = a.tmod 10) := by show digit a = _; unfold digit; rw [if_neg h]
    go_enter Try.func29, Try.ntmps29
    go_wp2
    go_ret
    exact ⟨by rw [HD.out]; simp [w1, w3], rfl⟩

theorem aheadR_any (o a b : Int) (w : World) : Calls Try.prog 22 #[.int .i64 o, .int .i64 a, .int .i64 b] w fun e w' => e = .returned (.bool (aheadF o a b)) ∧ w' = w := by
  have HE : Hid (aheadF o a b = if o = 1 then decide (b < a) else if o = 2 then decide (digit a < digit b) else if o = 3 then false else decide (a < b)) := rfl
  by_cases h1 : o = 1
  · subst h1
    go_enter Try.func22, Try.ntmps22
    go_wp2
    go_ret
    exact ⟨by rw [HE.out]; simp, rfl⟩
  · by_cases h2 : o = 2
    · subst h2
      go_enter Try.func22, Try.ntmps22
      go_wp2_with (first
        | (go_at_call_of 29 a; refine (digit_any a _).mono ?_; rintro e w9 ⟨rfl, hw9⟩; have hw8 := hw9.symm; clear hw9; subst hw8)
        | (go_at_call_of 29 b; refine (digit_any b _).mono ?_; rintro e w9 ⟨rfl, hw9⟩; have hw8 := hw9.symm; clear hw9; subst hw8))
      go_ret
      exact ⟨by rw [HE.out]; simp, rfl⟩
    · by_cases h3 : o = 3
      · subst h3
        go_enter Try.func22, Try.ntmps22
        go_wp2
        go_ret
        exact ⟨by rw [HE.out]; simp, rfl⟩
      · go_enter Try.func22, Try.ntmps22
        go_wp2
        go_ret
        exact ⟨by rw [HE.out]; simp [h1, h2, h3], rfl⟩

theorem less_heap : Less 21 aheadF := by
  refine ⟨enters_of Try.func21 (by kernel_rfl) rfl, fun o a b B W hc => ?_⟩
  go_enter Try.func21, Try.ntmps21
  go_wp2_with (go_at_call 22; refine (aheadR_any o a b _).mono ?_; rintro e w9 ⟨rfl, hw9⟩; have hw8 := hw9.symm; clear hw9; subst hw8)
  go_ret
  exact ⟨rfl, 0, rfl⟩

/-- heap(order) -/
theorem heap_any (T : Nat → Nat) (w : World) (o : Int) (t : Nat) :
    Calls Try.prog 11 #[.int .i64 o] w fun e w' => e = .returned (.pointer (some ⟨w.heap.size + 1, 0, none⟩)) ∧ HeapAt t (upd (upd T w.heap.size (t + 2)) (w.heap.size + 1) t) w' (w.heap.size + 1) 21 w.heap.size o [] ∧ Below w.heap.size w w' := by
  have hmf : ∀ (fn : Fn) (first cap : Array Value) (w : World), (Instr.makeFunc fn first cap).run Try.prog w = .ok (.func fn first cap) w := fun _ _ _ _ => rfl
  have HN : Hid (∀ W : World, W = w.alloc (.cells #[.int .i64 o] 3) → Calls Try.prog 20 #[.func (.func 21) #[] #[.pointer (some ⟨w.heap.size, 0, none⟩)]] W fun e w' => e = .returned (.pointer (some ⟨w.heap.size + 1, 0, none⟩)) ∧ Hid (HeapAt t (upd (upd T w.heap.size (t + 2)) (w.heap.size + 1) t) w' (w.heap.size + 1) 21 w.heap.size o [] ∧ Below w.heap.size w w')) := by
    rintro W rfl
    have hs : (w.alloc (.cells #[.int .i64 o] 3)).heap.size = w.heap.size + 1 := by simp
    have := new_any (upd T w.heap.size (t + 2)) (w.alloc (.cells #[.int .i64 o] 3)) 21 w.heap.size o t (by simp) (upd_same _ _ _) (by simp)
    rw [hs] at this
    refine this.mono ?_
    rintro e w' ⟨rfl, h1, h2⟩
    exact ⟨rfl, h1, ((Below.refl _ _).alloc (Nat.le_refl _) _).trans (h2.mono (by omega))⟩
  go_enter Try.func11, Try.ntmps11
  go_wp2_with (go_at_call 20; refine (HN.out _ rfl).mono ?_; rintro e w9 ⟨rfl, HZ⟩)
  go_ret
  exact ⟨rfl, HZ.out⟩

end Hp
end Go.Proofs.Ytpappjcbeibhiaa
