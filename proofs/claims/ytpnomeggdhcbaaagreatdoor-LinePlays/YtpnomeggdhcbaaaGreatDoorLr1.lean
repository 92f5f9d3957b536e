import Derived.Test.YtpnomeggdhcbaaaGreatDoorLp5
namespace Go.Proofs.YtpnomeggdhcbaaaGreatDoor
namespace Lin
open Go.RowKit Go.Shelf Laws Irw
set_option linter.unusedVariables false
set_option maxRecDepth 100000

set_option maxHeartbeats 1600000 in
/-- The document's line: where one stands. -/
theorem rat_any (t : Nat) (T : Nat → Nat) (w : World) (p : Nat) (l : List Int) (x : Int) (h : LineAt t T w p l) (hlen : l.length ≤ 1000000000000) :
    Calls Tryz.prog 37 #[.pointer (some ⟨p, 0, none⟩), .int .i64 x] w fun e w' => e = .returned (.int .i64 (plc l x)) ∧ w' = w := by
  obtain ⟨a, c, hc, _, hi, _, _⟩ := h.form
  have HA : Hid (IsI w a l) := hi
  clear h hi
  go_enter Tryz.func37, Tryz.ntmps37
  go_wp2
  go_loopw [5] (fun i wr => ∃ k : Nat, k ≤ l.length ∧ i = .int .i64 k ∧ wr = w ∧ Hid (∀ j, j < k → l.getD j 0 ≠ x)) (fun i _ => l.length - (intOf i).toNat)
  case atStart => exact ⟨0, Nat.zero_le _, rfl, rfl, fun j hj => by omega⟩
  case round =>
    obtain ⟨k, hk, rfl, hwr, HN⟩ := hrel
    have hw2 := hwr.symm
    clear hwr
    subst hw2
    by_cases hlt : k < l.length
    · obtain ⟨b, o, rfl, hr⟩ := HA.out.at_ (by omega)
      have c0 := hr.cell hlt
      have q1 : (k : Int) < (l.length : Int) := by omega
      have HX : Hid (l.getD k 0 = l.getD k 0) := rfl
      generalize hy : l.getD k 0 = y at c0
      by_cases e : y = x
      · have HP : Hid (plc l x = k) := plc_hit hlt (hy.trans e) HN.out
        clear hy
        go_wp2
        go_ret
        exact ⟨by rw [HP.out]; rfl, rfl⟩
      · have HN' : Hid (∀ j, j < k + 1 → l.getD j 0 ≠ x) := fun j hj => by
          by_cases ej : j = k
          · rw [ej, hy]; exact e
          · exact HN.out j (by omega)
        clear hy
        go_wp2
        go_roundw
        case rel => exact ⟨k + 1, by omega, by go_num, by first | trivial | rfl, HN'⟩
        case measure => simp [intOf]; omega
    · have HP : Hid (plc l x = -1) := plc_miss fun j hj => HN.out j (by omega)
      go_wp2
      go_ret
      exact ⟨by rw [HP.out]; rfl, rfl⟩

/-- The document's line: First. -/
theorem rfirst_any (t : Nat) (T : Nat → Nat) (w : World) (p : Nat) (l : List Int) (h : LineAt t T w p l) (hlen : l.length ≤ 1000000000000) :
    Calls Tryz.prog 10 #[.pointer (some ⟨p, 0, none⟩)] w fun e w' => e = .returned (.tuple #[.int .i64 (l.getD 0 0), .bool (decide (0 < l.length))]) ∧ w' = w := by
  obtain ⟨a, c, hc, _, hi, _, _⟩ := h.form
  by_cases h0 : l = []
  · subst h0
    go_enter Tryz.func10, Tryz.ntmps10
    go_wp2
    go_ret2
    exact ⟨by simp, rfl⟩
  · obtain ⟨b, off, rfl, hr⟩ := hi h0
    have hp : 0 < l.length := List.length_pos_iff.2 h0
    have c0 : w.cell? ⟨b, off, none⟩ = some (.int .i64 (l.getD 0 0)) := by have := hr.cell hp; simpa using this
    have q1 : ¬ (l.length : Int) = 0 := by omega
    have q2 : (0 : Int) < l.length := by omega
    generalize l.getD 0 0 = y at *
    go_enter Tryz.func10, Tryz.ntmps10
    go_wp2
    go_ret2
    exact ⟨by simp [hp], rfl⟩

end Lin
end Go.Proofs.YtpnomeggdhcbaaaGreatDoor
