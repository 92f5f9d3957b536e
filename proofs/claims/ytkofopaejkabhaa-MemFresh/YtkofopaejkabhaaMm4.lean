import Derived.Test.YtkofopaejkabhaaEa4
import Derived.Test.YtkofopaejkabhaaMk6
namespace Go.Proofs.Ytkofopaejkabhaa
namespace Mem
open Go.RowKit Laws Irw Erw KMath Skm Byt Sk
set_option linter.unusedVariables false
set_option maxRecDepth 100000
set_option linter.unusedSimpArgs false

/-- what From tells -/
def frm (k : ByteArray) (s : Int) (es : List En) : List En := (stt s (es.filter fun e => !decide (cmpE e.1 k e.2.1 s < 0))).2
/-- what Get tells -/
def gk (k : ByteArray) (s : Int) (es : List En) : Option En := (es.filter fun e => decide (e.1 = k) && decide (e.2.1 ≤ s)).head?
theorem drop_filter {α : Type} {p : α → Bool} : ∀ {A B : List α}, (∀ a ∈ A, p a = true) → (∀ b ∈ B, p b = false) → (A ++ B).filter (fun x => !p x) = B := by
  intro A B hA hB
  rw [List.filter_append]
  have h1 : A.filter (fun x => !p x) = [] := by
    rw [List.filter_eq_nil_iff]
    intro a ha
    simp [hA a ha]
  have h2 : B.filter (fun x => !p x) = B := by
    rw [List.filter_eq_self]
    intro b hb
    simp [hB b hb]
  rw [h1, h2, List.nil_append]
theorem post_filter {W : World} {L : Nat} {k : ByteArray} {s : Int} {ns pre post : List Nd} (h : Wk W L k s ns pre post) : post.map Nd.e = (ns.map Nd.e).filter fun e => !decide (cmpE e.1 k e.2.1 s < 0) := by
  have h1 : ns.filter (fun n => !aheadB k s n) = post := by
    rw [h.cut]
    exact drop_filter h.hpre h.hpost
  rw [List.filter_map, ← h1]
  rfl
theorem post_getE {W : World} {L : Nat} {k : ByteArray} {s : Int} {ns pre post : List Nd} (h : Wk W L k s ns pre post) (hs : ns.Pairwise (fun a b => ltE a.e b.e)) : getE k post = gk k s (ns.map Nd.e) := by
  have hsp : (post.map Nd.e).Pairwise ltE := by
    rw [List.pairwise_map]
    rw [h.cut] at hs
    exact (List.pairwise_append.1 hs).2.1
  have hpf := post_filter h
  have hmem : ∀ e ∈ ns.map Nd.e, e.1 = k → e.2.1 ≤ s → e ∈ post.map Nd.e := fun e he h1 h2 => by
    rw [hpf, List.mem_filter]
    refine ⟨he, ?_⟩
    simp only [Bool.not_eq_true', decide_eq_false_iff_not]
    rw [cmpE_lt_iff, h1]
    rintro (h3 | h3)
    · rw [bl_irrefl] at h3; cases h3
    · omega
  have hback : ∀ e ∈ post.map Nd.e, e ∈ ns.map Nd.e ∧ ¬ cmpE e.1 k e.2.1 s < 0 := fun e he => by
    rw [hpf, List.mem_filter] at he
    simpa using he
  unfold gk
  cases post with
  | nil =>
    have : (ns.map Nd.e).filter (fun e => decide (e.1 = k) && decide (e.2.1 ≤ s)) = [] := by
      rw [List.filter_eq_nil_iff]
      intro e he h9
      simp only [Bool.and_eq_true, decide_eq_true_eq] at h9
      exact absurd (hmem e he h9.1 h9.2) (by simp)
    rw [this]
    rfl
  | cons n r =>
    have hn := hback n.e (by simp)
    show (if n.e.1 = k then some n.e else none) = _
    by_cases hk : n.e.1 = k
    · rw [if_pos hk]
      have hns : n.e.2.1 ≤ s := by
        have := hn.2
        rw [cmpE_lt_iff, hk] at this
        rcases Int.lt_or_le s n.e.2.1 with h9 | h9
        · exact absurd (.inr ⟨rfl, h9⟩) this
        · exact h9
      have hnm : n.e ∈ (ns.map Nd.e).filter (fun e => decide (e.1 = k) && decide (e.2.1 ≤ s)) := by
        rw [List.mem_filter]
        exact ⟨hn.1, by simp [hk, hns]⟩
      have hsF : ((ns.map Nd.e).filter (fun e => decide (e.1 = k) && decide (e.2.1 ≤ s))).Pairwise ltE := (List.pairwise_map.2 hs).filter _
      cases hF : (ns.map Nd.e).filter (fun e => decide (e.1 = k) && decide (e.2.1 ≤ s)) with
      | nil => rw [hF] at hnm; cases hnm
      | cons x q =>
        rw [hF] at hnm hsF
        have hx : x ∈ (ns.map Nd.e).filter (fun e => decide (e.1 = k) && decide (e.2.1 ≤ s)) := by rw [hF]; simp
        rw [List.mem_filter] at hx
        simp only [Bool.and_eq_true, decide_eq_true_eq] at hx
        have hxp := hmem x hx.1 hx.2.1 hx.2.2
        rcases List.mem_cons.1 hnm with e | e
        · rw [e]; rfl
        · have l1 := (List.pairwise_cons.1 hsF).1 _ e
          rw [List.map_cons] at hxp hsp
          rcases List.mem_cons.1 hxp with e2 | e2
          · rw [e2]; rfl
          · exact absurd ((List.pairwise_cons.1 hsp).1 _ e2) (ltE_asym _ _ l1)
    · rw [if_neg hk]
      have : (ns.map Nd.e).filter (fun e => decide (e.1 = k) && decide (e.2.1 ≤ s)) = [] := by
        rw [List.filter_eq_nil_iff]
        intro e he h9
        simp only [Bool.and_eq_true, decide_eq_true_eq] at h9
        have h10 := hmem e he h9.1 h9.2
        rw [List.map_cons] at h10 hsp
        rcases List.mem_cons.1 h10 with e2 | e2
        · rw [← e2, h9.1] at hk; exact hk rfl
        · have l1 := (List.pairwise_cons.1 hsp).1 _ e2
          unfold ltE at l1
          rw [cmpE_lt_iff, h9.1] at l1
          have l2 := hn.2
          rw [cmpE_lt_iff] at l2
          rcases l1 with l1 | l1
          · exact l2 (.inl l1)
          · exact hk (toList_inj l1.1)
      rw [this]
      rfl
theorem get_mem {t : Nat} {T : Nat → Nat} {w : World} {M L : Nat} {ds : List Nat} {ns : List Nd} {fz : Bool} (h : Mt t T w M L ds ns fz) (k : ByteArray) (s : Int) :
    Calls Try.prog 25 #[.pointer (some ⟨M, 0, none⟩), .string k, .int .u64 s] w fun r w' => r = .returned (getV (gk k s (ns.map Nd.e))) ∧ Below w.heap.size w w' := by
  obtain ⟨pre, post, hwk⟩ := Wk.of h.sl k s
  have h1 := get_any h k s
  rw [← post_of hwk, post_getE hwk h.sl.sorted] at h1
  exact h1
theorem from_mem (M : Nat) (k : ByteArray) (s : Int) (w : World) {B : Nat} (hB : w.heap.size = B) :
    Calls Try.prog 27 #[.pointer (some ⟨M, 0, none⟩), .string k, .int .u64 s] w fun e w' => e = .returned (.func (.func 73) #[] #[.pointer (some ⟨B, 0, none⟩), .pointer (some ⟨B + 1, 0, none⟩), .pointer (some ⟨B + 2, 0, none⟩)]) ∧ Below w.heap.size w w' ∧ w'.cell? ⟨B, 0, none⟩ = some (.pointer (some ⟨M, 0, none⟩)) ∧ w'.cell? ⟨B + 1, 0, none⟩ = some (.string k) ∧ w'.cell? ⟨B + 2, 0, none⟩ = some (.int .u64 s) := by
  subst hB
  go_enter Try.func27, Try.ntmps27
  go_wp2
  go_ret
  refine ⟨rfl, (((Below.refl _ _).alloc (Nat.le_refl _) _).alloc (by simp) _).alloc (by simp; omega) _, ?_, ?_, ?_⟩
  · rw [World.cell?_of_block (Below.heap_alloc _ _ _ (by simp <;> omega)), World.cell?_of_block (Below.heap_alloc _ _ _ (by simp <;> omega)), World.cell?_alloc_at _ _ _ _ rfl]; rfl
  · rw [World.cell?_of_block (Below.heap_alloc _ _ _ (by simp <;> omega)), World.cell?_alloc_at _ _ _ _ (by simp)]; rfl
  · rw [World.cell?_alloc_at _ _ _ _ (by simp)]; rfl
theorem mtaken_mem {t : Nat} {T : Nat → Nat} {w : World} {M L : Nat} {ds : List Nat} {ns : List Nd} {fz : Bool} (h : Mt t T w M L ds ns fz) {B n : Nat} {k : ByteArray} {s : Int} (hl : ns.length ≤ 1000000000) (hBT : T (B + 2) ≠ t) (hn : (frm k s (ns.map Nd.e)).length = n) (k1 : w.cell? ⟨B, 0, none⟩ = some (.pointer (some ⟨M, 0, none⟩))) (k2 : w.cell? ⟨B + 1, 0, none⟩ = some (.string k)) (k3 : w.cell? ⟨B + 2, 0, none⟩ = some (.int .u64 s)) :
    Calls Try.prog 26 #[.func (.func 73) #[] #[.pointer (some ⟨B, 0, none⟩), .pointer (some ⟨B + 1, 0, none⟩), .pointer (some ⟨B + 2, 0, none⟩)], .int .i64 (-1)] w fun e w' => ∃ a c, e = .returned (.tuple #[.slice a n c, .bool true]) ∧ IsE w' a (frm k s (ns.map Nd.e)) ∧ (∀ b off, a = some ⟨b, off, none⟩ → w.heap.size ≤ b) ∧ Below w.heap.size w w' := by
  obtain ⟨pre, post, hwk⟩ := Wk.of h.sl k s
  have := mtaken_some (-1) (by omega) B (B + 1) (B + 2) M L k s ns pre post w hwk k1 h.c0 k2 k3 ⟨fun e => hBT (by rw [e]; exact h.sl.tag), fun nd hnd e => hBT (by rw [← e]; exact h.sl.tags nd hnd)⟩ hl
  have e : tkn (-1) (stt s (post.map Nd.e)).2 = frm k s (ns.map Nd.e) := by
    rw [tkn_all (.inl (by omega)), post_filter hwk]
    rfl
  rw [e, hn] at this
  exact this
end Mem
end Go.Proofs.Ytkofopaejkabhaa
