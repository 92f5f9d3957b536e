import Derived.Test.YtkebbmdghnplmaaDoorQs2
import Derived.Test.YtkebbmdghnplmaaDoorTxt
import Derived.BigRegion
import Derived.BigQuiet
namespace Go.Proofs.YtkebbmdghnplmaaDoor
namespace Qb
open Go.RowKit CMath Byt Laws Irw Crw Cod
set_option linter.unusedVariables false
set_option linter.unusedSimpArgs false
set_option maxRecDepth 20000

/-- An entry read behind a key, as the document says it: without a bound of the key. -/
def rdG (b ah : List Nat) (s m t p : Nat) : Option (En × Nat) :=
  if ah.length < s then none
  else if b.length - p < m then none
  else if t % 2 = 1 then some ((ofB (ah.take s ++ (b.drop p).take m), ((t / 2 : Nat) : Int), true, ⟨#[]⟩), p + m)
  else if (text (b.drop (p + m)) 512).2.2 ≠ 0 then none
  else some ((ofB (ah.take s ++ (b.drop p).take m), ((t / 2 : Nat) : Int), false, ofB (text (b.drop (p + m)) 512).1), p + m + (text (b.drop (p + m)) 512).2.1)
def rdF (b ah : List Nat) : Option (En × Nat) :=
  if (rd b 0 0).2.2 ≠ 0 then none else
  if (rd (b.drop (rd b 0 0).2.1) 0 0).2.2 ≠ 0 then none else
  if (rd (b.drop ((rd b 0 0).2.1 + (rd (b.drop (rd b 0 0).2.1) 0 0).2.1)) 0 0).2.2 ≠ 0 then none else
  rdG b ah (rd b 0 0).1 (rd (b.drop (rd b 0 0).2.1) 0 0).1 (rd (b.drop ((rd b 0 0).2.1 + (rd (b.drop (rd b 0 0).2.1) 0 0).2.1)) 0 0).1 ((rd b 0 0).2.1 + (rd (b.drop (rd b 0 0).2.1) 0 0).2.1 + (rd (b.drop ((rd b 0 0).2.1 + (rd (b.drop (rd b 0 0).2.1) 0 0).2.1)) 0 0).2.1)
theorem ofB_sz (s : List Nat) : (ofB s).size = s.length := by simp [ofB, ByteArray.size]
theorem rdG_rdK (b ah : List Nat) (s m t p : Nat) : rdE.rdK b ah s m t p = (rdG b ah s m t p).filter (fun x => decide (x.1.1.size ≤ 64)) := by
  unfold rdE.rdK rdG
  by_cases h1 : ah.length < s
  · rw [if_pos (.inl h1), if_pos h1]; rfl
  by_cases h2 : b.length - p < m
  · rw [if_pos (.inr (.inr h2)), if_neg h1, if_pos h2]; rfl
  rw [if_neg h1, if_neg h2]
  have hs : (ah.take s ++ (b.drop p).take m).length = s + m := by simp; omega
  by_cases h3 : 64 < s + m
  · rw [if_pos (.inr (.inl h3))]
    have hk : ¬ (ofB (ah.take s ++ (b.drop p).take m)).size ≤ 64 := by rw [ofB_sz, hs]; omega
    split
    · simp [Option.filter, hk]
    · split
      · rfl
      · simp [Option.filter, hk]
  · rw [if_neg (by omega)]
    have hk : (ofB (ah.take s ++ (b.drop p).take m)).size ≤ 64 := by rw [ofB_sz, hs]; omega
    split
    · simp [Option.filter, hk]
    · split
      · rfl
      · simp [Option.filter, hk]
theorem rdE_rdF (b ah : List Nat) : rdE b ah = (rdF b ah).filter (fun x => decide (x.1.1.size ≤ 64)) := by
  unfold rdE rdF
  split
  · rfl
  split
  · rfl
  split
  · rfl
  exact rdG_rdK _ _ _ _ _ _
theorem rdF_ok {b ah : List Nat} {x : En × Nat} (h : rdF b ah = some x) (hk : x.1.1.size ≤ 64) : rdE b ah = some x := by
  rw [rdE_rdF, h]; simp [Option.filter, hk]
theorem rdF_none {b ah : List Nat} (h : rdF b ah = none) : rdE b ah = none := by rw [rdE_rdF, h]; rfl
theorem rdF_long {b ah : List Nat} {x : En × Nat} (h : rdF b ah = some x) (hk : ¬ x.1.1.size ≤ 64) : rdE b ah = none := by
  rw [rdE_rdF, h]; simp [Option.filter, hk]
/-- What is read takes no more than there is, and is not long. -/
theorem rdF_sz {b ah : List Nat} {x : En × Nat} (hb : ∀ x ∈ b, x < 256) (h : rdF b ah = some x) : 3 ≤ x.2 ∧ x.2 ≤ b.length ∧ x.1.1.size ≤ ah.length + b.length ∧ x.1.2.2.2.size ≤ 512 ∧ 0 ≤ x.1.2.1 := by
  unfold rdF at h
  split at h
  · cases h
  rename_i h1
  split at h
  · cases h
  rename_i h2
  split at h
  · cases h
  rename_i h3
  obtain ⟨⟨n1, k1, f1⟩, hr1⟩ : ∃ x, rd b 0 0 = x := ⟨_, rfl⟩
  rw [hr1] at h h1 h2 h3
  simp only [] at h h1 h2 h3
  obtain ⟨⟨n2, k2, f2⟩, hr2⟩ : ∃ x, rd (b.drop k1) 0 0 = x := ⟨_, rfl⟩
  rw [hr2] at h h2 h3
  simp only [] at h h2 h3
  obtain ⟨⟨n3, k3, f3⟩, hr3⟩ : ∃ x, rd (b.drop (k1 + k2)) 0 0 = x := ⟨_, rfl⟩
  rw [hr3] at h h3
  simp only [] at h h3
  obtain rfl : f1 = 0 := by simpa using h1
  obtain rfl : f2 = 0 := by simpa using h2
  obtain rfl : f3 = 0 := by simpa using h3
  obtain ⟨a1, a2, a3⟩ := rd_bytes hb hr1
  obtain ⟨b1, b2, b3⟩ := rd_bytes (fun x hx => hb x (List.mem_of_mem_drop hx)) hr2
  obtain ⟨c1, c2, c3⟩ := rd_bytes (fun x hx => hb x (List.mem_of_mem_drop hx)) hr3
  simp only [List.length_drop] at b2 c2
  unfold rdG at h
  split at h
  · cases h
  rename_i g1
  split at h
  · cases h
  rename_i g2
  have hs : (ah.take n1 ++ (b.drop (k1 + k2 + k3)).take n2).length = n1 + n2 := by simp; omega
  split at h
  · cases h
    refine ⟨by simp only []; omega, by simp only []; omega, by simp only []; rw [ofB_sz, hs]; omega, by simp only []; show (0 : Nat) ≤ _; omega, Int.natCast_nonneg _⟩
  split at h
  · cases h
  rename_i g4
  cases h
  have ht : (text (b.drop (k1 + k2 + k3 + n2)) 512).2.1 ≤ b.length - (k1 + k2 + k3 + n2) ∧ (text (b.drop (k1 + k2 + k3 + n2)) 512).1.length ≤ 512 := by
    unfold text at g4 ⊢
    split
    · rename_i g5; rw [if_pos g5] at g4; simp only [] at g4; exact absurd g5 (by simpa using g4)
    rename_i g5
    rw [if_neg g5] at g4
    split
    · rename_i g6; rw [if_pos g6] at g4; simp at g4
    rename_i g6
    rw [if_neg g6] at g4
    split
    · rename_i g7; rw [if_pos g7] at g4; simp at g4
    rename_i g7
    simp only [List.length_drop] at g7
    simp only [List.length_take, List.length_drop]
    omega
  refine ⟨by simp only []; omega, by simp only []; omega, by simp only []; rw [ofB_sz, hs]; omega, by simp only []; rw [ofB_sz]; exact ht.2, Int.natCast_nonneg _⟩

def enV : Option (En × Nat) → Value
  | none => .tuple #[.agg #[.string ⟨#[]⟩, .int .u64 0, .bool false, .string ⟨#[]⟩], .int .i64 0]
  | some x => .tuple #[.agg #[.string x.1.1, .int .u64 x.1.2.1, .bool x.1.2.2.1, .string x.1.2.2.2], .int .i64 (x.2 : Int)]
end Qb
end Go.Proofs.YtkebbmdghnplmaaDoor
