import Derived.Test.YtkebbmdghnplmaaDoorQr2
import Derived.Test.YtkebbmdghnplmaaDoorQc3
import Derived.Test.YtkebbmdghnplmaaDoorQd4
import Derived.BigQuiet
import Derived.Deep.QuietTactic
namespace Go.Proofs.YtkebbmdghnplmaaDoor
namespace Qb
open Go.RowKit CMath Byt Laws Irw Crw Cod
set_option linter.unusedVariables false
set_option linter.unusedSimpArgs false
set_option maxRecDepth 20000

theorem val_four {l : List Nat} {x0 x1 x2 x3 : Nat} (h0 : l[0]? = some x0) (h1 : l[1]? = some x1) (h2 : l[2]? = some x2) (h3 : l[3]? = some x3) : val (l.take 4) = x0 + x1 * 256 + x2 * 65536 + x3 * 16777216 := by
  match l, h0, h1, h2, h3 with
  | a :: b :: c :: d :: t, h0, h1, h2, h3 =>
    simp at h0 h1 h2 h3
    subst h0 h1 h2 h3
    simp [val]
    omega
set_option maxHeartbeats 2000000 in
theorem refNumber_any (b off : Nat) (n cap : Nat) (l : List Nat) (w : World) (ha : IsB w (some ⟨b, off, none⟩) l) (hn : n = l.length) (h4 : 4 ≤ l.length) (hl : l.length ≤ 1000000000000) :
    Calls Tryd.prog 40 #[.slice (some ⟨b, off, none⟩) n cap] w fun e w' => e = .returned (.int .i64 ((val (l.take 4) : Nat) : Int)) ∧ ∃ n, w' = w.drewN n := by
  obtain ⟨b', off', e', hr⟩ := ha.1 (by rintro rfl; simp at h4)
  cases e'
  obtain ⟨x0, h0⟩ : ∃ x, l[0]? = some x := ⟨_, List.getElem?_eq_getElem (by omega)⟩
  obtain ⟨x1, h1⟩ : ∃ x, l[1]? = some x := ⟨_, List.getElem?_eq_getElem (by omega)⟩
  obtain ⟨x2, h2⟩ : ∃ x, l[2]? = some x := ⟨_, List.getElem?_eq_getElem (by omega)⟩
  obtain ⟨x3, h3⟩ : ∃ x, l[3]? = some x := ⟨_, List.getElem?_eq_getElem (by omega)⟩
  have b0 := ha.2 x0 (List.mem_of_getElem? h0)
  have b1 := ha.2 x1 (List.mem_of_getElem? h1)
  have b2 := ha.2 x2 (List.mem_of_getElem? h2)
  have b3 := ha.2 x3 (List.mem_of_getElem? h3)
  have c0 := hr.2 0 _ h0
  have c1 := hr.2 1 _ h1
  have c2 := hr.2 2 _ h2
  have c3 := hr.2 3 _ h3
  rw [val_four h0 h1 h2 h3]
  have hN : ((x0 + x1 * 256 + x2 * 65536 + x3 * 16777216 : Nat) : Int) = (x0 : Int) + (x1 : Int) * 256 + (x2 : Int) * 65536 + (x3 : Int) * 16777216 := by omega
  rw [hN]
  have hn4 : 4 ≤ n := by omega
  have hn5 : (n : Int) ≤ 1000000000000 := by omega
  have q0 : (0 : Int) < (n : Int) := by omega
  have q1 : (1 : Int) < (n : Int) := by omega
  have q2 : (2 : Int) < (n : Int) := by omega
  have q3 : (3 : Int) < (n : Int) := by omega
  simp only [Nat.add_zero] at c0
  clear ha hr h0 h1 h2 h3 h4 hl hn hN
  go_enter Tryd.func40, Tryd.ntmps40
  go_wp2
  go_quiet (fail)
  go_wp2
  go_ret
  refine ⟨?_, _, rfl⟩
  first | rfl | (congr 2; simp; omega) | simp
end Qb
end Go.Proofs.YtkebbmdghnplmaaDoor
