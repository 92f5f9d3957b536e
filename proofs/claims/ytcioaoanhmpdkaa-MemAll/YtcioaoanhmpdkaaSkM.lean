import Derived.Test.YtcioaoanhmpdkaaERw
import Derived.Test.YtcioaoanhmpdkaaEnt
namespace Go.Proofs.Ytcioaoanhmpdkaa
namespace Skm
open Go.RowKit Laws Irw Erw KMath
set_option linter.unusedVariables false

/-- A node: where it lies, its entry, how high its tower is. -/
structure Nd where
  b : Nat
  e : En
  h : Nat
/-- Does an entry stand ahead of a place? -/
def aheadB (k : ByteArray) (s : Int) (n : Nd) : Bool := decide (cmpE n.e.1 k n.e.2.1 s < 0)
/-- the next node on list i -/
def nxt (i : Nat) : List Nd → Option Addr
  | [] => none
  | n :: r => if i < n.h then some ⟨n.b, 0, none⟩ else nxt i r
def lev (i : Nat) (r : List Nd) : List Nd := r.filter fun n => decide (i < n.h)
/-- the first on list i, and what is behind it -/
def drp (i : Nat) : List Nd → Option (Nd × List Nd)
  | [] => none
  | n :: r => if i < n.h then some (n, r) else drp i r
theorem drp_none {i : Nat} : ∀ {r : List Nd}, drp i r = none → nxt i r = none ∧ lev i r = []
  | [], _ => ⟨rfl, rfl⟩
  | n :: r, h => by
    unfold drp at h
    split at h
    · cases h
    · rename_i hn
      have := drp_none h
      exact ⟨by rw [nxt, if_neg hn]; exact this.1, by rw [lev, List.filter_cons, if_neg (by simpa using hn)]; exact this.2⟩
theorem drp_some {i : Nat} : ∀ {r : List Nd} {x : Nd} {s : List Nd}, drp i r = some (x, s) → nxt i r = some ⟨x.b, 0, none⟩ ∧ lev i r = x :: lev i s ∧ i < x.h ∧ ∃ z, r = z ++ x :: s
  | [], _, _, h => by cases h
  | n :: r, x, s, h => by
    unfold drp at h
    split at h
    · rename_i hn
      cases h
      exact ⟨by rw [nxt, if_pos hn], by rw [lev, List.filter_cons, if_pos (by simpa using hn)]; rfl, hn, [], rfl⟩
    · rename_i hn
      obtain ⟨h1, h2, h3, z, rfl⟩ := drp_some h
      exact ⟨by rw [nxt, if_neg hn]; exact h1, by rw [lev, List.filter_cons, if_neg (by simpa using hn)]; exact h2, h3, n :: z, rfl⟩
theorem nxt_append {i : Nat} {y r : List Nd} (h : ∀ n ∈ y, n.h ≤ i) : nxt i (y ++ r) = nxt i r := by
  induction y with
  | nil => rfl
  | cons n y ih =>
    rw [List.cons_append, nxt, if_neg (by have := h n List.mem_cons_self; omega)]
    exact ih fun m hm => h m (List.mem_cons_of_mem _ hm)
theorem lev_append (i : Nat) (y r : List Nd) : lev i (y ++ r) = lev i y ++ lev i r := by simp [lev]
theorem lev_mem {i : Nat} {r : List Nd} {n : Nd} (h : n ∈ lev i r) : n ∈ r := (List.mem_filter.1 h).1

/-- the last station of list i -/
def lst (L i : Nat) (p : List Nd) : Nat := p.foldl (fun acc n => if i < n.h then n.b else acc) L
theorem lst_append (L i : Nat) (p q : List Nd) : lst L i (p ++ q) = lst (lst L i p) i q := by simp [lst]
theorem lst_lev (i : Nat) (y : List Nd) : ∀ s, lst s i y = (lev i y).foldl (fun _ n => n.b) s := by
  induction y with
  | nil => intro s; rfl
  | cons n y ih =>
    intro s
    unfold lst lev at *
    rw [List.foldl_cons, List.filter_cons]
    by_cases hn : i < n.h
    · rw [if_pos hn, if_pos (by simpa using hn), List.foldl_cons]; exact ih _
    · rw [if_neg hn, if_neg (by simpa using hn)]; exact ih _
/-- where it stands -/
theorem lst_at (L i : Nat) (p : List Nd) : ∃ y, (∀ n ∈ y, n.h ≤ i) ∧ ((lst L i p = L ∧ y = p) ∨ ∃ x n, p = x ++ n :: y ∧ lst L i p = n.b ∧ i < n.h) := by
  induction p generalizing L with
  | nil => exact ⟨[], by simp, .inl ⟨rfl, rfl⟩⟩
  | cons m p ih =>
    have e : lst L i (m :: p) = lst (if i < m.h then m.b else L) i p := rfl
    obtain ⟨y, hy, h⟩ := ih (if i < m.h then m.b else L)
    rcases h with ⟨h1, rfl⟩ | ⟨x, n, rfl, h1, h2⟩
    · by_cases hm : i < m.h
      · rw [if_pos hm] at h1 e
        exact ⟨y, hy, .inr ⟨[], m, rfl, by rw [e, h1], hm⟩⟩
      · rw [if_neg hm] at h1 e
        refine ⟨m :: y, fun n hn => ?_, .inl ⟨by rw [e, h1], rfl⟩⟩
        rcases List.mem_cons.1 hn with rfl | hn
        · omega
        · exact hy n hn
    · exact ⟨y, hy, .inr ⟨m :: x, n, rfl, by rw [e, h1], h2⟩⟩
/-- one list down -/
theorem lst_down {L i : Nat} {p y : List Nd} (h : (lst L (i + 1) p = L ∧ y = p) ∨ ∃ x n, p = x ++ n :: y ∧ lst L (i + 1) p = n.b ∧ i + 1 < n.h) : lst (lst L (i + 1) p) i y = lst L i p := by
  rcases h with ⟨h1, rfl⟩ | ⟨x, n, rfl, h1, h2⟩
  · rw [h1]
  · rw [h1, lst_append]
    show _ = lst (if i < n.h then n.b else lst L i x) i y
    rw [if_pos (by omega)]
/-- a part that goes on as long as things are ahead is all that is ahead -/
theorem part_eq {α : Type} {P : α → Bool} : ∀ {A B C : List α} {x : α}, (∀ a ∈ A, P a = true) → (∀ b ∈ B, P b = false) → (∀ c ∈ C, P c = true) → P x = false → C ++ [x] <+: A ++ B → C = A
  | [], B, [], x, _, _, _, _, _ => rfl
  | [], B, c :: C, x, _, hB, hC, _, ⟨t, h⟩ => by
    cases B with
    | nil => simp at h
    | cons b B =>
      simp at h
      have h1 := hB b List.mem_cons_self
      have h2 := hC c List.mem_cons_self
      rw [h.1, h1] at h2
      cases h2
  | a :: A, B, [], x, hA, _, _, hx, ⟨t, h⟩ => by
    simp at h
    have := hA a List.mem_cons_self
    rw [← h.1, hx] at this
    cases this
  | a :: A, B, c :: C, x, hA, hB, hC, hx, ⟨t, h⟩ => by
    simp at h
    have := part_eq (A := A) (B := B) (C := C) (x := x) (fun q hq => hA q (List.mem_cons_of_mem _ hq)) hB (fun q hq => hC q (List.mem_cons_of_mem _ hq)) hx ⟨t, by simpa using h.2⟩
    rw [this, h.1]
theorem all_eq {α : Type} {P : α → Bool} {A B : List α} (hB : ∀ b ∈ B, P b = false) (h : ∀ c ∈ A ++ B, P c = true) : A ++ B = A := by
  cases B with
  | nil => simp
  | cons b B =>
    have h1 := hB b List.mem_cons_self
    have h2 := h b (List.mem_append_right _ List.mem_cons_self)
    rw [h1] at h2
    cases h2
end Skm
end Go.Proofs.Ytcioaoanhmpdkaa
