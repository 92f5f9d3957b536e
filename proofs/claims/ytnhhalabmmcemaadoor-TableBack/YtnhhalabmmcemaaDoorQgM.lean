import Derived.Test.YtnhhalabmmcemaaDoorQcM
import Derived.Test.YtnhhalabmmcemaaDoorEAp
namespace Go.Proofs.YtnhhalabmmcemaaDoor
namespace Qb
open Go.RowKit CMath Byt Laws Irw Crw Cod
set_option linter.unusedVariables false
set_option linter.unusedSimpArgs false
set_option maxRecDepth 100000

theorem num_any (x : Int) (w : World) : Calls Tryd.prog 11 #[.int .i64 x] w fun e w' => e = .returned (.int .i64 x) ∧ w' = w := by
  go_enter Tryd.func11, Tryd.ntmps11
  go_wp2
  go_ret
  exact ⟨rfl, rfl⟩

/-- The entries that a maker takes. -/
def mdStep (acc : List En) (e : En) : List En := if adds (lastE ⟨#[]⟩ acc) e = 0 then acc ++ [e] else acc
def mds (l : List En) : List En := l.foldl mdStep []
theorem mds_snoc (l : List En) (e : En) : mds (l ++ [e]) = mdStep (mds l) e := by simp [mds]
theorem mds_take {l : List En} {k : Nat} {e : En} (h : l[k]? = some e) : mds (l.take (k + 1)) = mdStep (mds (l.take k)) e := by
  rw [List.take_add_one, h]
  exact mds_snoc _ _
theorem mds_all (l : List En) : chain ⟨#[]⟩ (mds l) ∧ (∀ e ∈ mds l, e ∈ l) ∧ (mds l).length ≤ l.length := by
  have key : ∀ (l acc : List En), chain ⟨#[]⟩ acc → chain ⟨#[]⟩ (l.foldl mdStep acc) ∧ (∀ e ∈ l.foldl mdStep acc, e ∈ acc ∨ e ∈ l) ∧ (l.foldl mdStep acc).length ≤ acc.length + l.length := by
    intro l
    induction l with
    | nil => intro acc h; exact ⟨h, fun e he => .inl he, by simp⟩
    | cons x l ih =>
      intro acc h
      have h1 : chain ⟨#[]⟩ (mdStep acc x) := by
        unfold mdStep
        split
        · rename_i h2; exact chain_snoc h h2
        · exact h
      have h3 := ih _ h1
      refine ⟨h3.1, fun e he => ?_, ?_⟩
      · rcases h3.2.1 e he with h4 | h4
        · unfold mdStep at h4
          split at h4
          · rcases List.mem_append.1 h4 with h5 | h5
            · exact .inl h5
            · rw [List.mem_singleton.1 h5]; exact .inr List.mem_cons_self
          · exact .inl h4
        · exact .inr (List.mem_cons_of_mem _ h4)
      · have h5 : (mdStep acc x).length ≤ acc.length + 1 := by
          unfold mdStep
          split
          · simp
          · omega
        have := h3.2.2
        simp only [List.foldl_cons, List.length_cons]
        omega
  have := key l [] trivial
  refine ⟨this.1, fun e he => ?_, by simpa [mds] using this.2.2⟩
  rcases this.2.1 e he with h | h
  · simp at h
  · exact h
theorem mds_chain {l : List En} (h : chain ⟨#[]⟩ l) : mds l = l := by
  have key : ∀ (l acc : List En), chain (lastE ⟨#[]⟩ acc) l → l.foldl mdStep acc = acc ++ l := by
    intro l
    induction l with
    | nil => intro acc _; simp
    | cons x l ih =>
      intro acc h
      have h1 : mdStep acc x = acc ++ [x] := by unfold mdStep; rw [if_pos h.1]
      simp only [List.foldl_cons]
      rw [h1, ih _ (by rw [lastE_snoc]; exact h.2)]
      simp
  exact key l [] h
theorem isE_new10 {w : World} {x : En} {u : TypeId} : Erw.IsE (w.alloc (.cells #[.string x.1, .int .u64 x.2.1, .bool x.2.2.1, .string x.2.2.2] u)) (some ⟨w.heap.size, 0, none⟩) [x] := by
  refine Erw.IsE.of ⟨by simp, fun i z hz => ?_⟩
  cases i with
  | zero => simp at hz; subst hz; refine ⟨?_, ?_, ?_, ?_⟩ <;> (rw [World.cell?_alloc_at _ _ _ _ rfl]; rfl)
  | succ i => simp at hz
end Qb
end Go.Proofs.YtnhhalabmmcemaaDoor
