import Derived.Test.YtcmbogogakdeoaaDoorProg
import Derived.Test.YtcmbogogakdeoaaDoorMath
import Derived.WalkKit
import Derived.WalkSpells
import Derived.WalkLawsBesides
namespace Go.Proofs.YtcmbogogakdeoaaDoor
namespace Chk
open Go.RowKit KMath
set_option linter.unusedVariables false

theorem bcell {W w1 : World} (hb : Below W.heap.size W w1) : (∀ b o, b < W.heap.size → w1.cell? ⟨b, o, none⟩ = W.cell? ⟨b, o, none⟩) ∧ (∀ b o, b < W.heap.size → w1.frozen? ⟨b, o, none⟩ = W.frozen? ⟨b, o, none⟩) :=
  ⟨fun b o h => hb.cell (p := ⟨b, o, none⟩) h, fun b o h => hb.frozen (p := ⟨b, o, none⟩) h⟩

theorem ret_int {k : IntKind} {a b : Int} (h : a = b) : Ending.returned (.int k a) = .returned (.int k b) := by rw [h]
/-- An entry as a value. -/
abbrev entV (k : ByteArray) (s : Int) (d : Bool) (v : ByteArray) : Value := .agg #[.string k, .int .u64 s, .bool d, .string v]

/-- The error of a key (P1.1). -/
def err (n : Nat) : Int := if n = 0 then 10 else if 64 < n then 11 else 0


set_option maxHeartbeats 400000 in
theorem num_any (n : Int) (w : World) :
    Calls Tryd.prog 9 #[.int .i64 n] w fun e w' => e = .returned (.int .i64 n) ∧ w' = w := by
  go_enter Tryd.func9, Tryd.ntmps9
  go_wp2
  go_ret
  exact ⟨rfl, rfl⟩

/-- The value that counts. -/
def val (d : Bool) (v : ByteArray) : ByteArray := if d then ⟨#[]⟩ else v
theorem val_true (v : ByteArray) : val true v = ⟨#[]⟩ := rfl
theorem val_false (v : ByteArray) : val false v = v := rfl
theorem val_size (d : Bool) (v : ByteArray) (h : v.size ≤ maxLen) : (val d v).size ≤ maxLen := by
  cases d
  · exact h
  · exact Nat.zero_le _


/-- The error of a write. -/
def errW (k : ByteArray) (d : Bool) (v : ByteArray) : Int := if err k.size = 0 then (if 512 < (val d v).size then 12 else 0) else err k.size


/-- A write: key, deleted, value. -/
abbrev Wr := ByteArray × Bool × ByteArray

/-- The writes lie in a row of cells, three a write. -/
def WrRow (w : World) (b off : Nat) (ws : List Wr) : Prop :=
  b < w.heap.size ∧ ∀ (i : Nat) (x : Wr), ws[i]? = some x → w.cell? ⟨b, off + i * 3, none⟩ = some (.string x.1) ∧ w.cell? ⟨b, off + i * 3 + 1, none⟩ = some (.bool x.2.1) ∧ w.cell? ⟨b, off + i * 3 + 2, none⟩ = some (.string x.2.2)

/-- A slice of writes in memory: its address, and what it holds. -/
def IsWr (w : World) (a : Option Addr) (ws : List Wr) : Prop :=
  (ws ≠ [] → ∃ b off, a = some ⟨b, off, none⟩ ∧ WrRow w b off ws) ∧ ws.length ≤ maxLen ∧ ∀ x ∈ ws, x.1.size ≤ maxLen ∧ x.2.2.size ≤ maxLen

theorem WrRow.below {w w' : World} {B b off : Nat} {ws : List Wr} (h : WrRow w b off ws) (hb : Below B w w') (hB : b < B) : WrRow w' b off ws := by
  refine ⟨Nat.lt_of_lt_of_le h.1 hb.size, fun i x hx => ?_⟩
  obtain ⟨h0, h1, h2⟩ := h.2 i x hx
  exact ⟨(hb.cell (p := ⟨b, _, none⟩) hB).trans h0, (hb.cell (p := ⟨b, _, none⟩) hB).trans h1, (hb.cell (p := ⟨b, _, none⟩) hB).trans h2⟩

theorem IsWr.below {w w' : World} {a : Option Addr} {ws : List Wr} (h : IsWr w a ws) (hb : Below w.heap.size w w') : IsWr w' a ws := by
  refine ⟨fun hne => ?_, h.2⟩
  obtain ⟨b, off, rfl, hr⟩ := h.1 hne
  exact ⟨b, off, rfl, hr.below hb hr.1⟩

/-- The error of the first write that has one. -/
def errL : List Wr → Int
  | [] => 0
  | x :: r => if errW x.1 x.2.1 x.2.2 = 0 then errL r else errW x.1 x.2.1 x.2.2
def errB (ws : List Wr) : Int := if 16 < ws.length then 13 else errL ws

theorem errL_ok {ws : List Wr} {k : Nat} {x : Wr} (hx : ws[k]? = some x) (h : errW x.1 x.2.1 x.2.2 = 0) : errL (ws.drop k) = errL (ws.drop (k + 1)) := by
  obtain ⟨hk, rfl⟩ := List.getElem?_eq_some_iff.1 hx
  rw [List.drop_eq_getElem_cons hk]
  simp [errL, h]
theorem errL_no {ws : List Wr} {k : Nat} {x : Wr} (hx : ws[k]? = some x) (h : errW x.1 x.2.1 x.2.2 ≠ 0) : errL (ws.drop k) = errW x.1 x.2.1 x.2.2 := by
  obtain ⟨hk, rfl⟩ := List.getElem?_eq_some_iff.1 hx
  rw [List.drop_eq_getElem_cons hk]
  simp [errL, h]

end Chk
end Go.Proofs.YtcmbogogakdeoaaDoor
