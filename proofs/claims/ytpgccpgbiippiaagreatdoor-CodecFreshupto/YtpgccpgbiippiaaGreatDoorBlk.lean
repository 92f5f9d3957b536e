import Derived.Test.YtpgccpgbiippiaaGreatDoorRows
namespace Go.Proofs.YtpgccpgbiippiaaGreatDoor
namespace Blk

theorem len_le {H : Type} (l : List (DataW H)) : l.length ≤ Rows.uptoBulkAll l := by
  induction l with
  | nil => simp
  | cons x r ih =>
    have h1 : 1 ≤ Rows.uptoBulk x := by
      cases x with
      | lit y => cases y <;> simp [Rows.uptoBulk]
      | nil => simp [Rows.uptoBulk]
      | ptr _ => simp [Rows.uptoBulk]
      | slice _ _ => simp [Rows.uptoBulk]
      | agg _ => simp [Rows.uptoBulk]
      | iface _ _ => simp [Rows.uptoBulk]
      | map _ => simp [Rows.uptoBulk]
      | held _ => simp [Rows.uptoBulk]
    simp only [Rows.uptoBulkAll, List.length_cons]
    omega
theorem bytes {H : Type} {d : DataW H} {l : List Nat} (h : l = [] ∨ ∃ es sp, d = .slice es sp ∧ es.length = l.length) : l.length ≤ Rows.uptoBulk d := by
  rcases h with rfl | ⟨es, sp, rfl, h⟩
  · simp
  · have := len_le es
    simp only [Rows.uptoBulk]
    omega
theorem str {H : Type} (s : ByteArray) : Rows.uptoBulk (DataW.lit (H := H) (.string s.data.toList)) = s.size + 1 := by
  simp only [Rows.uptoBulk]
  rw [Array.length_toList]
  rfl

end Blk
end Go.Proofs.YtpgccpgbiippiaaGreatDoor
