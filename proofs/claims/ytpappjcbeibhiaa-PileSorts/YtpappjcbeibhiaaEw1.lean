import Derived.Test.YtpappjcbeibhiaaEp9
import Derived.Deep.QuietTactic
import Derived.BigQuiet
namespace Go.Proofs.Ytpappjcbeibhiaa
namespace Ehp
open Go.RowKit Laws Irw Erw
set_option linter.unusedVariables false
set_option maxRecDepth 100000
set_option linter.unusedSimpArgs false

/-- where a thing stands: the first place, or -1 -/
def whr (l : List En) (e : En) : Int := match l.findIdx? (fun x => decide (x = e)) with | some k => (k : Int) | none => -1
theorem whr_mem {l : List En} {e : En} (h : e ∈ l) : ∃ k, k < l.length ∧ whr l e = (k : Int) ∧ l.getD k ez = e := by
  unfold whr
  cases hf : l.findIdx? (fun x => decide (x = e)) with
  | none =>
    rw [List.findIdx?_eq_none_iff] at hf
    have := hf e h
    simp at this
  | some k =>
    obtain ⟨hk, h1, _⟩ := List.findIdx?_eq_some_iff_getElem.1 hf
    refine ⟨k, hk, rfl, ?_⟩
    simpa [List.getD_eq_getElem?_getD, hk] using h1
theorem whr_at {l : List En} {e : En} {k : Nat} (hk : k < l.length) (h1 : l.getD k ez = e) (h2 : ∀ j, j < k → l.getD j ez ≠ e) : whr l e = (k : Int) := by
  have : l.findIdx? (fun x => decide (x = e)) = some k := by
    rw [List.findIdx?_eq_some_iff_getElem]
    refine ⟨hk, by simpa [hk] using h1, fun j hj => ?_⟩
    have := h2 j hj
    simpa [show j < l.length by omega] using this
  unfold whr; rw [this]
theorem whr_no {l : List En} {e : En} (h2 : ∀ j, j < l.length → l.getD j ez ≠ e) : whr l e = -1 := by
  have : l.findIdx? (fun x => decide (x = e)) = none := by
    rw [List.findIdx?_eq_none_iff]
    intro x hx
    obtain ⟨j, hj, rfl⟩ := List.getElem_of_mem hx
    have := h2 j hj
    simpa [hj] using this
  unfold whr; rw [this]

theorem neL {a b : ByteArray} (h : ¬ a = b) : (a.toList == b.toList) = false := by
  rw [beq_eq_false_iff_ne, ByteArray.toList_eq, ByteArray.toList_eq]
  intro e
  apply h
  obtain ⟨x⟩ := a
  obtain ⟨y⟩ := b
  have e2 : x = y := Array.toList_inj.1 e
  rw [e2]
set_option maxHeartbeats 400000 in
theorem where_any (a : Option Addr) (n c : Nat) (l : List En) (e : En) (w : World) (ha : IsE w a l) (hn : n = l.length) (hl : l.length ≤ 1000000000000) :
    Calls Try.prog 9 #[.slice a n c, .agg #[.string e.1, .int .u64 e.2.1, .bool e.2.2.1, .string e.2.2.2]] w fun x w' => x = .returned (.int .i64 (whr l e)) ∧ Below w.heap.size w w' := by
  obtain ⟨ek, es, ed, ev⟩ := e
  dsimp only
  have HB1 : Hid (Below w.heap.size w (w.alloc (.cells #[.string ek, .int .u64 es, .bool ed, .string ev] 28))) := (Below.refl _ _).alloc (Nat.le_refl _) _
  have b0 : (w.alloc (.cells #[.string ek, .int .u64 es, .bool ed, .string ev] 28)).cell? ⟨w.heap.size, 0, none⟩ = some (.string ek) := by simp
  have b1 : (w.alloc (.cells #[.string ek, .int .u64 es, .bool ed, .string ev] 28)).cell? ⟨w.heap.size, 1, none⟩ = some (.int .u64 es) := by simp
  have b2 : (w.alloc (.cells #[.string ek, .int .u64 es, .bool ed, .string ev] 28)).cell? ⟨w.heap.size, 2, none⟩ = some (.bool ed) := by simp
  have b3 : (w.alloc (.cells #[.string ek, .int .u64 es, .bool ed, .string ev] 28)).cell? ⟨w.heap.size, 3, none⟩ = some (.string ev) := by simp
  have HA : Hid (IsE (w.alloc (.cells #[.string ek, .int .u64 es, .bool ed, .string ev] 28)) a l) := ha.below HB1.out
  have HN : Hid (n = l.length) := hn
  have hl' : n ≤ 1000000000000 := by omega
  clear ha hn
  go_enter Try.func9, Try.ntmps9
  generalize hW1 : w.alloc (.cells #[.string ek, .int .u64 es, .bool ed, .string ev] 28) = W1 at *
  go_wp2
  go_loopw [5] (fun i wr => ∃ k m : Nat, k ≤ n ∧ i = .int .i64 k ∧ wr = W1.drewN m ∧ Hid (∀ j, j < k → l.getD j ez ≠ (ek, es, ed, ev))) (fun i _ => n - (intOf i).toNat)
  case atStart => exact ⟨0, 0, Nat.zero_le _, rfl, rfl, (show ∀ j, j < 0 → l.getD j ez ≠ (ek, es, ed, ev) from fun j hj => absurd hj (Nat.not_lt_zero j))⟩
  case round =>
    obtain ⟨k, m, hk, rfl, rfl, HJ⟩ := hrel
    by_cases hlt : k < n
    · have hlt' : k < l.length := by rw [← HN.out]; exact hlt
      obtain ⟨bl, o1, rfl, hr1⟩ := HA.out.at_ (by omega)
      obtain ⟨c0, c1, c2, c3⟩ := hr1.2 k (l.getD k ez) (by simp [hlt'])
      have q1 : (k : Int) < (n : Int) := by omega
      by_cases heq : l.getD k ez = (ek, es, ed, ev)
      · rw [heq] at c0 c1 c2 c3
        dsimp only at c0 c1 c2 c3
        have HE : Hid (whr l (ek, es, ed, ev) = (k : Int)) := whr_at hlt' heq HJ.out
        clear heq
        go_wp2
        go_quiet (fail)
        go_wp2
        go_ret
        exact ⟨by rw [HE.out]; rfl, Hp.below_drewN (Hp.below_drewN HB1.out _) _⟩
      · have HNE : Hid (l.getD k ez ≠ (ek, es, ed, ev)) := heq
        clear heq
        have HX : Hid (∀ j, j < k + 1 → l.getD j ez ≠ (ek, es, ed, ev)) := by
          intro j hj
          rcases Nat.lt_succ_iff_lt_or_eq.1 hj with h | h
          · exact HJ.out j h
          · rw [h]; exact HNE.out
        generalize l.getD k ez = x at *
        obtain ⟨xk, xs, xd, xv⟩ := x
        dsimp only at c0 c1 c2 c3
        have hor : (xk.toList == ek.toList) = false ∨ (xk = ek ∧ (xs == es) = false) ∨ (xk = ek ∧ xs = es ∧ (xd == ed) = false) ∨ (xk = ek ∧ xs = es ∧ xd = ed ∧ (xv.toList == ev.toList) = false) := by
          by_cases h1 : xk = ek
          · by_cases h2 : xs = es
            · by_cases h3 : xd = ed
              · by_cases h4 : xv = ev
                · exact absurd (by rw [h1, h2, h3, h4]) HNE.out
                · exact .inr (.inr (.inr ⟨h1, h2, h3, neL h4⟩))
              · exact .inr (.inr (.inl ⟨h1, h2, by simpa using h3⟩))
            · exact .inr (.inl ⟨h1, by simpa using h2⟩)
          · exact .inl (neL h1)
        clear HNE
        rcases hor with h1 | ⟨rfl, h1⟩ | ⟨rfl, rfl, h1⟩ | ⟨rfl, rfl, rfl, h1⟩
        all_goals (
          go_wp2
          go_quiet (fail)
          go_wp2
          go_roundw
          case rel => exact ⟨k + 1, _, by omega, by go_num, rfl, HX⟩
          case measure => simp [intOf]; omega)
    · obtain rfl : k = n := by omega
      have HE : Hid (whr l (ek, es, ed, ev) = -1) := whr_no (by rw [← HN.out]; exact HJ.out)
      go_wp2
      go_ret
      exact ⟨by rw [HE.out]; rfl, Hp.below_drewN HB1.out _⟩

end Ehp
end Go.Proofs.Ytpappjcbeibhiaa
