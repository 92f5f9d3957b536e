import Derived.Test.YtkknpcpioodhaabBat
import Derived.Test.YtkknpcpioodhaabWei
namespace Go.Proofs.Ytkknpcpioodhaab
namespace KeyBounds
open Go.RowKit KMath Cmp Ent Chk Bat Wei
set_option linter.unusedVariables false

/-- The sum of the weights, no wrap but one. -/
def total (l : List Wr) : Int := (l.map fun x => wt x.1 x.2.1 x.2.2).sum
theorem wrap_add (a b : Int) : wrap64 (wrap64 a + b) = wrap64 (a + b) := by
  unfold wrap64
  generalize (9223372036854775808 : Int) = h
  generalize (18446744073709551616 : Int) = m
  rw [show (a + h) % m - h + b + h = (a + h) % m + b by omega, Int.emod_add_emod, show a + h + b = a + b + h by omega]
theorem wrap_add' (a b : Int) : wrap64 (wrap64 a + wrap64 b) = wrap64 (a + b) := by
  rw [wrap_add, Int.add_comm, wrap_add, Int.add_comm]
theorem wrap_id (n : Int) (h0 : 0 ≤ n) (h1 : n ≤ 1000000) : wrap64 n = n := by
  unfold wrap64
  rw [Int.emod_eq_of_lt (by omega) (by omega)]
  omega
theorem total_nil : total [] = 0 := by unfold total; rw [List.map_nil, List.sum_nil]
theorem total_cons (x : Wr) (l : List Wr) : total (x :: l) = wt x.1 x.2.1 x.2.2 + total l := by unfold total; rw [List.map_cons, List.sum_cons]
theorem total_append (l r : List Wr) : total (l ++ r) = total l + total r := by
  induction l with
  | nil => rw [List.nil_append, total_nil, Int.zero_add]
  | cons x l ih => rw [List.cons_append, total_cons, total_cons, ih, Int.add_assoc]
theorem foldl_total (l : List Wr) : ∀ s : Int, l.foldl (fun s x => wrap64 (s + wt x.1 x.2.1 x.2.2)) (wrap64 s) = wrap64 (s + total l) := by
  induction l with
  | nil => intro s; rw [total_nil, Int.add_zero, List.foldl_nil]
  | cons x l ih =>
    intro s
    have h := ih (s + wt x.1 x.2.1 x.2.2)
    rw [total_cons, ← Int.add_assoc, ← h, List.foldl_cons, wrap_add]
theorem sumF_total (l : List Wr) : sumF l = wrap64 (total l) := by
  have h := foldl_total l 0
  rw [Int.zero_add, wrap_id 0 (by omega) (by omega)] at h
  exact h
theorem sumF_cut (l : List Wr) (c : Nat) : wrap64 (sumF (l.take c) + sumF (l.drop c)) = sumF l := by
  rw [sumF_total, sumF_total, sumF_total, wrap_add']
  rw [← total_append, List.take_append_drop]

/-- P1.7: what an entry that may be weighs. -/
theorem wt_bounds (k : ByteArray) (d : Bool) (v : ByteArray) (h : err k.size = 0) (h2 : (val d v).size ≤ 512) : 450 ≤ wt k d v ∧ wt k d v ≤ 1088 := by
  unfold err at h
  have hk : k.size ≠ 0 ∧ k.size ≤ 64 := by
    by_cases e : k.size = 0
    · simp [e] at h
    · by_cases e2 : 64 < k.size
      · simp [e, e2] at h
      · exact ⟨e, by omega⟩
  unfold wt
  rw [wrap_id (2 * (k.size : Int)) (by omega) (by omega), wrap_id (2 * (k.size : Int) + ((val d v).size : Int)) (by omega) (by omega), wrap_id _ (by omega) (by omega)]
  omega
theorem errW_zero {k : ByteArray} {d : Bool} {v : ByteArray} (h : errW k d v = 0) : err k.size = 0 ∧ (val d v).size ≤ 512 := by
  unfold errW at h
  by_cases e : err k.size = 0
  · rw [if_pos e] at h
    refine ⟨e, ?_⟩
    by_cases e2 : 512 < (val d v).size
    · rw [if_pos e2] at h; cases h
    · omega
  · rw [if_neg e] at h; exact absurd h e
theorem errL_total (l : List Wr) (h : errL l = 0) : 0 ≤ total l ∧ total l ≤ 1088 * (l.length : Int) := by
  induction l with
  | nil => rw [total_nil]; exact ⟨Int.le_refl _, by simp⟩
  | cons x l ih =>
    unfold errL at h
    by_cases e : errW x.1 x.2.1 x.2.2 = 0
    · rw [if_pos e] at h
      have h1 := ih h
      obtain ⟨e1, e2⟩ := errW_zero e
      have h2 := wt_bounds x.1 x.2.1 x.2.2 e1 e2
      rw [total_cons, List.length_cons]
      omega
    · rw [if_neg e] at h; exact absurd h e
theorem errB_sum (l : List Wr) (h : errB l = 0) : sumF l ≤ 17408 := by
  unfold errB at h
  by_cases e : 16 < l.length
  · rw [if_pos e] at h; cases h
  · rw [if_neg e] at h
    have h1 := errL_total l h
    rw [sumF_total, wrap_id _ h1.1 (by omega)]
    omega

/-- Parts of a list of writes. -/
theorem IsWr.take {w : World} {a : Option Addr} {ws : List Wr} (h : IsWr w a ws) (c : Nat) : IsWr w a (ws.take c) := by
  refine ⟨fun hne => ?_, by have := h.2.1; simp; omega, fun x hx => h.2.2 x (List.mem_of_mem_take hx)⟩
  obtain ⟨b, off, e, hr⟩ := h.1 (by intro e; rw [e] at hne; simp at hne)
  refine ⟨b, off, e, hr.1, fun i x hx => hr.2 i x ?_⟩
  have hi := (List.getElem?_eq_some_iff.1 hx).1
  rw [List.getElem?_take_of_lt (by simp at hi; omega)] at hx
  exact hx
theorem IsWr.drop {w : World} {b off : Nat} {ws : List Wr} (h : IsWr w (some ⟨b, off, none⟩) ws) (c : Nat) (hc : ws ≠ []) : IsWr w (some ⟨b, off + c * 3, none⟩) (ws.drop c) := by
  refine ⟨fun hne => ?_, by have := h.2.1; simp; omega, fun x hx => h.2.2 x (List.mem_of_mem_drop hx)⟩
  obtain ⟨b', off', e, hr⟩ := h.1 hc
  cases e
  refine ⟨b, off + c * 3, rfl, hr.1, fun i x hx => ?_⟩
  rw [List.getElem?_drop] at hx
  have := hr.2 (c + i) x hx
  rw [show off + c * 3 + i * 3 = off + (c + i) * 3 by omega]
  exact this

theorem run_cut (a : Option Addr) (n cap c : Nat) (hc : c ≤ n) (hcap : n ≤ cap) :
    (∀ w, (Instr.slice 28 (.slice a n cap) none (some (.int .i64 (c : Int))) none).run Try.prog w = .ok (.slice (if cap = 0 then a else a.map (·.add (0 * 3))) (c - 0) (cap - 0)) w) ∧
    (∀ w, (Instr.slice 28 (.slice a n cap) (some (.int .i64 (c : Int))) none none).run Try.prog w = .ok (.slice (if cap = c then a else a.map (·.add (c * 3))) (n - c) (cap - c)) w) := by
  have hs : ∀ w, (sizeOf 39).run Try.prog w = .ok 3 w := fun w => by kernel_rfl
  have he : Try.prog.elem 28 = 39 := by kernel_rfl
  have ht : Try.prog.underlying 28 = some (.slice (Try.prog.elem 28)) := by rw [he]; exact Try.underlying28
  constructor
  · intro w
    rw [run_slice_h w 28 a n cap ht .i64 (c : Int) (by omega) (by omega), he, hs]
    rfl
  · intro w
    rw [run_slice_l w 28 a n cap ht .i64 (c : Int) (by omega) (by omega), he, hs]
    rfl

theorem cutL (a : Option Addr) (cap : Nat) (ws : List Wr) (c : Nat) (W : World) (h : IsWr W a ws) (hn : a = none → cap = 0) (hc : c ≤ ws.length) (hcap : ws.length ≤ cap) :
    ∃ (A1 A2 : Option Addr) (ts ds : List Wr), (∀ w, (Instr.slice 28 (.slice a ws.length cap) none (some (.int .i64 (c : Int))) none).run Try.prog w = .ok (.slice A1 ts.length cap) w) ∧
      (∀ w, (Instr.slice 28 (.slice a ws.length cap) (some (.int .i64 (c : Int))) none none).run Try.prog w = .ok (.slice A2 ds.length (cap - c)) w) ∧ IsWr W A1 ts ∧ IsWr W A2 ds ∧ wrap64 (sumF ts + sumF ds) = sumF ws := by
  obtain ⟨r1, r2⟩ := run_cut a ws.length cap c hc hcap
  refine ⟨a, (if cap = c then a else a.map (·.add (c * 3))), ws.take c, ws.drop c, fun w => ?_, fun w => ?_, ?_, ?_, sumF_cut ws c⟩
  · rw [r1]
    have e : (if cap = 0 then a else a.map (·.add (0 * 3))) = a := by
      split
      · rfl
      · cases a with
        | none => rfl
        | some ad => simp [Addr.add]
    rw [e, List.length_take, Nat.min_eq_left hc]
    rfl
  · rw [r2, List.length_drop]
  · exact IsWr.take h c
  · by_cases hne : ws = []
    · subst hne
      exact ⟨fun h => absurd (by simp) h, by simp, by simp⟩
    · obtain ⟨b, off, rfl, hr⟩ := h.1 hne
      by_cases e : cap = c
      · have hz : ws.drop c = [] := List.drop_of_length_le (by omega)
        rw [hz]
        exact ⟨fun h => absurd rfl h, by simp, by simp⟩
      · rw [if_neg e]
        have hd := IsWr.drop h c hne
        have ea : (some (⟨b, off, none⟩ : Addr)).map (·.add (c * 3)) = some ⟨b, off + c * 3, none⟩ := by
          simp only [Option.map_some]
          unfold Addr.add
          by_cases hz : c * 3 = 0 <;> simp [hz]
        rw [ea]
        exact hd

end KeyBounds
end Go.Proofs.Ytkknpcpioodhaab
