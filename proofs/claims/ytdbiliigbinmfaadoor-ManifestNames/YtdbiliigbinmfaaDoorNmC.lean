import Derived.Test.YtdbiliigbinmfaaDoorNmB
import Derived.Test.YtdbiliigbinmfaaDoorRfr
namespace Go.Proofs.YtdbiliigbinmfaaDoor
namespace Nms
open Go.RowKit Go.Sort CMath Byt Cod Laws
set_option linter.unusedVariables false
set_option linter.unusedSimpArgs false
set_option maxRecDepth 20000
def isM (s : ByteArray) : Bool := match numB s with
  | some (k, _) => k == 109
  | none => false
/-- what Points answers -/
def pts (l : List Nat) : ByteArray × Int := if ((unframe l).2.2 == 0 && (unframe l).2.1 == l.length && isM (ofB (unframe l).1)) = true then (ofB (unframe l).1, 0) else (⟨#[]⟩, 140)
theorem new_conv {base : Nat} {w : World} {a : Option Addr} {c : Nat} {l : List Nat} (h : New 5 base w a c l) : (convert 23 9 (.slice a l.length c)).run Tryd.prog w = .ok (.string (ofB l)) w := by
  obtain ⟨hn, ⟨h1, h2⟩ | ⟨g, c', h1, h2, h3, h4⟩⟩ := isB_of_own h.row h.byte
  · subst h2
    injection h1 with e1 e2 e3
    subst e1; subst e3
    go_simp
    rfl
  · injection h1 with e1 e2 e3
    subst e1
    exact conv_back w ⟨g, 0, none⟩ c l.length l (IsB.some h4 h.byte) rfl
theorem numB_lt (s : ByteArray) (k n : Nat) (h : numB s = some (k, n)) : k < 256 ∧ n < 1000000000000 := by
  unfold numB at h
  split at h
  · rename_i hc
    simp only [Bool.and_eq_true, beq_iff_eq] at hc
    simp only [Option.some.injEq, Prod.mk.injEq] at h
    rw [← h.1, ← h.2]
    exact ⟨bt_lt _ _, vl_lt s 12 hc.2⟩
  · exact absurd h (by simp)
end Nms
end Go.Proofs.YtdbiliigbinmfaaDoor
