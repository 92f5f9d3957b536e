import Derived.Test.YtodgomgacgoliaaBg3
namespace Go.Proofs.Ytodgomgacgoliaa
namespace Hp
open Go.RowKit Laws Irw
set_option linter.unusedVariables false
set_option maxRecDepth 100000
set_option linter.unusedSimpArgs false

set_option maxHeartbeats 4000000 in
/-- LEAST, of one that is there, and nothing is ahead of it. -/
theorem least_any (t : Nat) (T : Nat → Nat) (w : World) (p : Nat) (o : Int) (l : List Int) (x : Int) (h : BagAt t T w p o l) (hx : x ∈ l) (ha : ∀ y ∈ l, aheadF o y x = false) (hlen : l.length ≤ 100000000000) :
    Calls Try.prog 47 #[.pointer (some ⟨p, 0, none⟩), .int .i64 x] w fun e w' => e = .returned (.bool true) ∧ Below w.heap.size w w' := by
  obtain ⟨k0, hk0, hkx, hkn⟩ := first_at hx
  have HKN : Hid (l.getD k0 0 = x) := hkx
  have HA : Hid (∀ y ∈ l, aheadF o y x = false) := ha
  clear hkx hkn hx ha
  have h0 : 0 < l.length := by omega
  have HH : Hid (BagAt t T w p o l) := h
  clear h
  go_enter Try.func47, Try.ntmps47
  go_wp2
  go_loopw [5, 6] (fun th i wr => ∃ (k : Nat) (b : Bool), k ≤ l.length ∧ i = .int .i64 (k : Int) ∧ th = .bool b ∧ Hid (k0 < k → b = true) ∧ Hid (BagAt t T wr p o l) ∧ Hid (Below w.heap.size w wr)) (fun _ i _ => l.length - (intOf i).toNat)
  case atStart => exact ⟨0, false, Nat.zero_le _, rfl, rfl, fun h => by omega, HH, Below.refl _ _⟩
  case round =>
    clear HH
    obtain ⟨k, b, hk, rfl, rfl, HB, HH, HW⟩ := hrel
    obtain ⟨a, c, hc, ho, hi, hcap, hn⟩ := HH.out.form
    obtain ⟨gl, rfl⟩ := OwnL.some ho h0
    have hord := HH.out.ord
    have HR : Hid (IRow wr gl 0 l) := IRow.of ho h0
    clear ho hi hcap hn
    by_cases hlt : k < l.length
    · have ck : wr.cell? ⟨gl, k, none⟩ = some (.int .i64 (l.getD k 0)) := by have := HR.out.cell (i := k) hlt; simpa using this
      have d1 : (k : Int) < (l.length : Int) := by omega
      have w4 : IntKind.i64.wrap ((k : Int) + 1) = (k : Int) + 1 := IntWalk.i64_in _ (by omega)
      have HC : Hid (∀ z, Calls Try.prog 33 #[.int .i64 o, .int .i64 (l.getD k 0), .int .i64 x] (wr.drewN z) fun e w' => e = .returned (.bool false) ∧ w' = wr.drewN z) := fun z => by have := aheadR_any o (l.getD k 0) x (wr.drewN z); rwa [HA.out (l.getD k 0) (by simp [hlt])] at this
      have HB' : Hid (l.getD k 0 = x ∨ (k0 < k + 1 → b = true)) := by
        by_cases e : k = k0
        · rw [e]; exact .inl HKN.out
        · exact .inr fun h => HB.out (by omega)
      obtain ⟨y, hy⟩ : ∃ y, l.getD k 0 = y := ⟨_, rfl⟩
      rw [hy] at ck HC HB'
      clear hy
      by_cases hyx : y = x
      · subst hyx
        go_wp2
        go_quiet ((go_at_call 33; exact Calls.quiet_of_same (HC.out _)))
        go_wp2
        go_roundw
        case rel => exact ⟨k + 1, true, by omega, by go_num, rfl, fun _ => rfl, HH.out.below (below_drewN (Below.refl _ _) _), below_drewN HW.out _⟩
        case measure => simp [intOf]; omega
      · have HB2 : Hid (k0 < k + 1 → b = true) := HB'.out.resolve_left hyx
        go_wp2
        go_quiet ((go_at_call 33; exact Calls.quiet_of_same (HC.out _)))
        go_wp2
        go_roundw
        case rel => exact ⟨k + 1, b, by omega, by go_num, rfl, HB2, HH.out.below (below_drewN (Below.refl _ _) _), below_drewN HW.out _⟩
        case measure => simp [intOf]; omega
    · have hb : b = true := HB.out (by omega)
      subst hb
      have d1 : ¬ (k : Int) < (l.length : Int) := by omega
      go_wp2
      go_ret
      exact ⟨rfl, HW.out⟩

end Hp
end Go.Proofs.Ytodgomgacgoliaa
