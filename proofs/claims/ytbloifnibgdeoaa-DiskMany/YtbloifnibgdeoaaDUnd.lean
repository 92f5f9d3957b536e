import Derived.Test.YtbloifnibgdeoaaDBck
namespace Go.Proofs.Ytbloifnibgdeoaa
namespace Dsk
open Go.RowKit Go.Shelf Go.Maps Go.Sort Byt Laws
set_option linter.unusedVariables false
set_option maxRecDepth 100000

/-- A name given to a file, or to nothing. -/
def putD (l : List (Key × Nat)) (k : Key) : Option Nat → List (Key × Nat)
  | none => del l k
  | some i => ins l k i
def undo1 (l : List (Key × Nat)) (c : Chg) : List (Key × Nat) := putD (if c.to.toList.isEmpty = true then l else putD l (ky c.to) c.over) (ky c.name) c.was
theorem putD_len (l : List (Key × Nat)) (k : Key) (o : Option Nat) : (putD l k o).length ≤ l.length + 1 := by
  cases o with
  | none => have := len_del l k; simp only [putD]; omega
  | some i =>
    simp only [putD]
    induction l with
    | nil => simp [ins]
    | cons p r ih =>
      simp only [ins]
      split
      · simp
      · split
        · simp
        · simp only [List.length_cons] at ih ⊢; omega
theorem undo1_len (l : List (Key × Nat)) (c : Chg) : (undo1 l c).length ≤ l.length + 2 := by
  have h1 := putD_len (if c.to.toList.isEmpty = true then l else putD l (ky c.to) c.over) (ky c.name) c.was
  unfold undo1
  split at h1
  · rename_i h; rw [if_pos h]; omega
  · rename_i h; rw [if_neg h]; have := putD_len l (ky c.to) c.over; omega

set_option maxHeartbeats 1000000 in
theorem put_any {w : World} {mb n : Nat} {fb : Nat → Nat} {l : List (Key × Nat)} {D : DataW (Option Addr)} (ho : w.ownsMap Try.prog 9 ptrR mb n D) (hd : DirIs D fb l) (s : ByteArray) (hs : s.size ≤ maxLen) (o : Option Nat) (hl : l.length < 1073741824) :
    Calls Try.prog 80 #[.map (some mb), .string s, pv fb o] w fun e w' => e = .returned (.tuple #[]) ∧ (∃ n' D', w'.ownsMap Try.prog 9 ptrR mb n' D' ∧ DirIs D' fb (putD l (ky s) o)) ∧ w.grownBy w' (some mb) := by
  have ho' := tight ho (size_dir hd ho keyed Try.underlying9)
  have HO : Hid (w.ownsMap Try.prog 9 ptrR mb l.length D) := ho'
  have HD : Hid (DirIs D fb l) := hd
  have HS : Hid (s.size ≤ maxLen) := hs
  have HL : Hid (l.length < maxLen) := by show _ < _; unfold maxLen; omega
  clear ho ho' hd hs hl
  cases o with
  | none =>
    simp only [pv]
    go_enter Try.func80, Try.ntmps80
    go_wp2_with (at_delete; refine wpList_delete_own _ (by rfl) (.tmp 8) (.tmp 9) 82 9 (by rfl) 87 keyed Try.underlying82 ptrR mb _ D (by rfl) HO.out _ (.string (ky s)) (by rfl) (keyOf_s s HS.out) ?_; intro w4 ho4 ht4; have H4 : Hid (w4.ownsMap Try.prog 9 ptrR mb l.length (D.del (.string (ky s))) ∧ w.grownBy w4 (some mb)) := ⟨ho4, ht4.grown⟩; clear ho4 ht4)
    refine bodyPost_ret (results_none Try.results80 _ _ _) rfl ?_
    exact ⟨rfl, ⟨_, _, H4.out.1, HD.out.del _⟩, H4.out.2⟩
  | some i =>
    simp only [pv]
    go_enter Try.func80, Try.ntmps80
    go_wp2_with (at_mapUpdate; refine wpList_mapUpdate_own _ (by rfl) (.tmp 10) (.tmp 11) (.tmp 12) 82 (by rfl) 9 87 keyed Try.underlying82 ptrR mb _ D (by rfl) HO.out HL.out _ _ (.string (ky s)) (by rfl) (by rfl) (keyOf_s s HS.out) (.held (some ⟨fb i, 0, none⟩)) [] (by rfl) ?_; intro w4 ho4 hg4; have H4 : Hid (w4.ownsMap Try.prog 9 ptrR mb (l.length + 1) (D.put (.string (ky s)) (.held (some ⟨fb i, 0, none⟩))) ∧ w.grownBy w4 (some mb)) := ⟨ho4, hg4⟩; clear ho4 hg4)
    go_end0
    exact ⟨rfl, ⟨_, _, H4.out.1, HD.out.put _ _⟩, H4.out.2⟩
end Dsk
end Go.Proofs.Ytbloifnibgdeoaa
