import Derived.Test.YtjfhhjkggjflfaaGreatDoorOpenB
import Derived.Test.YtjfhhjkggjflfaaGreatDoorTsr
import Derived.SliceStrings
namespace Go.Proofs.YtjfhhjkggjflfaaGreatDoor
namespace Opn
open Go.ChangeShapes Go.WideShapes Go.ChangeAt Go.RowKit CMath Byt Tsr
set_option linter.unusedVariables false
set_option maxRecDepth 100000

theorem cellsS : Tryz.prog.cellsOf 9 = 1 := by kernel_rfl
theorem bytesS : Tryz.prog.bytesOf 9 = 16 := by kernel_rfl
section
variable {H : Type} {enc : TypeId × Value → H} {w : World} {base : Nat} {spare : Nat → Bool} {held : Bool} {r : Reach} {b0 : Nat}

/-- An argument of texts. -/
theorem texts {v : Value} {d : DataW H} {p : List MemPlace} (hv : Value.okWide Tryz.prog w r b0 22 v) (h : DataW.Trod enc Tryz.prog w base spare held 22 v d p) :
    ∃ (a : Option Addr) (cap : Nat) (l : List ByteArray), v = .slice a l.length cap ∧ IsT w a l ∧ (a = none → cap = 0) ∧ l.length ≤ cap ∧ cap ≤ 9223372036854775807 ∧ (∀ s ∈ l, s.size ≤ 9223372036854775807) ∧ (l = [] ∨ ∃ es sp, d = .slice es sp ∧ es = strs l) := by
  obtain ⟨a0, len, cap, rfl⟩ := okWide_slice Tryz.underlying22 hv
  obtain ⟨fuel, hf⟩ := h
  rcases open_strings Tryz.underlying22 Tryz.underlying9 cellsS hf with ⟨hcs, hx⟩ | ⟨a, len', cap', zs, hcs, _, hl, hm, hz, hx, hcell, hwz⟩
  · simp [Value.cells] at hcs
    obtain ⟨rfl, rfl, rfl⟩ := hcs
    exact ⟨none, 0, [], rfl, IsT.nil _ _, fun _ => rfl, Nat.le_refl _, Nat.zero_le _, by simp, .inl rfl⟩
  · simp [Value.cells] at hcs
    obtain ⟨rfl, rfl, rfl⟩ := hcs
    simp only [Prod.mk.injEq] at hx
    obtain ⟨rfl, rfl⟩ := hx
    have hlm : len ≤ zs.length := by rw [hz]; split <;> omega
    have hlen : (zs.take len).length = len := by simp; omega
    refine ⟨some a, cap, zs.take len, by rw [hlen], fun hne => ?_, fun e => (by cases e), (by rw [hlen]; exact hl), hm, fun x hx' => hwz x (List.mem_of_mem_take hx'), .inr ⟨_, _, rfl, rfl⟩⟩
    have h0 : 0 < len := by
      rcases Nat.eq_zero_or_pos len with rfl | h0
      · simp at hne
      · exact h0
    obtain ⟨b, off, sp⟩ := a
    have hsp : sp = none := by
      have := World.cell?_spot (hcell 0 (by omega))
      simpa [Addr.add] using this
    subst hsp
    refine ⟨b, off, rfl, ?_, fun i x hx' => ?_⟩
    · have := World.block_lt_of_cell? w _ (hcell 0 (by omega))
      simpa [Addr.add] using this
    · have hi : i < len := by
        have := (List.getElem?_eq_some_iff.1 hx').1
        rw [hlen] at this
        exact this
      have q := hcell i (by omega)
      rw [Byt.add_plain'] at q
      rw [q]
      have hzi : i < zs.length := by omega
      rw [List.getElem?_take_of_lt hi] at hx'
      simp [List.getD, hx']
theorem reachT {P : Program} {ts : List TypeId} {ds : List (DataW H)} {t e : TypeId} {l : List ByteArray} {d : DataW H} {j : Nat} (hsz : (DataW.weightsEach P ts ds).all (· ≤ reachBytes) = true) (ht : ts[j]? = some t) (hd : ds[j]? = some d) (hu : P.underlying t = some (.slice e)) (hb : P.bytesOf e = 16)
    (h : l = [] ∨ ∃ es sp, d = .slice es sp ∧ es = strs l) : l.length * 16 + 4096 ≤ 140737488355328 := by
  rcases h with rfl | ⟨es, sp, rfl, rfl⟩
  · simp
  · have := sized_slice hsz ht hd hu
    rw [hb] at this
    simp only [reachBytes] at this
    simp [strs] at this
    omega
theorem weights_strs {P : Program} {e : TypeId} {l : List ByteArray} {s : ByteArray} (h : s ∈ l) : s.data.toList.length ∈ DataW.weightsAll (H := H) P e (strs l) := by
  induction l with
  | nil => cases h
  | cons x r ih =>
    rcases List.mem_cons.1 h with rfl | h
    · simp [strs, DataW.weightsAll, DataW.weights]
    · have := ih h
      simp only [strs, List.map_cons, DataW.weightsAll, List.mem_append]
      exact .inr this
theorem reachS {P : Program} {ts : List TypeId} {ds : List (DataW H)} {t e : TypeId} {l : List ByteArray} {d : DataW H} {j : Nat} (hsz : (DataW.weightsEach P ts ds).all (· ≤ reachBytes) = true) (ht : ts[j]? = some t) (hd : ds[j]? = some d) (hu : P.underlying t = some (.slice e))
    (h : l = [] ∨ ∃ es sp, d = .slice es sp ∧ es = strs l) : ∀ s ∈ l, s.size ≤ 140737488355328 := by
  rcases h with rfl | ⟨es, sp, rfl, rfl⟩
  · simp
  · intro s hs
    have this : s.data.toList.length ≤ reachBytes := of_decide_eq_true (List.all_eq_true.1 hsz _ (DataW.weights_mem_each ht hd s.data.toList.length (by
      simp only [DataW.weights, hu, List.mem_cons, List.mem_append]
      exact .inr (.inl (weights_strs hs)))))
    simp only [reachBytes] at this
    have h2 : s.size = s.data.toList.length := by simp
    omega
/-- An argument of ints. -/
theorem ints {v : Value} {d : DataW H} {p : List MemPlace} (cells3 : Tryz.prog.cellsOf 3 = 1) (hv : Value.okWide Tryz.prog w r b0 29 v) (h : DataW.Trod enc Tryz.prog w base spare held 29 v d p) :
    ∃ (a : Option Addr) (cap : Nat) (l : List Int), v = .slice a l.length cap ∧ (l ≠ [] → ∃ b off, a = some ⟨b, off, none⟩ ∧ b < w.heap.size ∧ ∀ (i : Nat) (x : Int), l[i]? = some x → w.cell? ⟨b, off + i, none⟩ = some (.int .i64 x)) ∧ (a = none → cap = 0) ∧ l.length ≤ cap ∧ cap ≤ 9223372036854775807 ∧ (∀ x ∈ l, -9223372036854775808 ≤ x ∧ x ≤ 9223372036854775807) := by
  obtain ⟨a0, len, cap, rfl⟩ := okWide_slice Tryz.underlying29 hv
  obtain ⟨fuel, hf⟩ := h
  rcases open_ints Tryz.underlying29 Tryz.underlying3 cells3 hf with ⟨hcs, hx⟩ | ⟨a, len', cap', zs, hcs, _, hl, hm, hz, hx, hcell, hwz⟩
  · simp [Value.cells] at hcs
    obtain ⟨rfl, rfl, rfl⟩ := hcs
    exact ⟨none, 0, [], rfl, fun h => absurd rfl h, fun _ => rfl, Nat.le_refl _, Nat.zero_le _, by simp⟩
  · simp [Value.cells] at hcs
    obtain ⟨rfl, rfl, rfl⟩ := hcs
    have hlm : len ≤ zs.length := by rw [hz]; split <;> omega
    have hlen : (zs.take len).length = len := by simp; omega
    refine ⟨some a, cap, zs.take len, by rw [hlen], fun hne => ?_, fun e => (by cases e), (by rw [hlen]; exact hl), hm, fun x hx' => i64_wf (hwz x (List.mem_of_mem_take hx'))⟩
    have h0 : 0 < len := by
      rcases Nat.eq_zero_or_pos len with rfl | h0
      · simp at hne
      · exact h0
    obtain ⟨b, off, sp⟩ := a
    have hsp : sp = none := by
      have := World.cell?_spot (hcell 0 (by omega))
      simpa [Addr.add] using this
    subst hsp
    refine ⟨b, off, rfl, ?_, fun i x hx' => ?_⟩
    · have := World.block_lt_of_cell? w _ (hcell 0 (by omega))
      simpa [Addr.add] using this
    · have hi : i < len := by
        have := (List.getElem?_eq_some_iff.1 hx').1
        rw [hlen] at this
        exact this
      have q := hcell i (by omega)
      rw [Byt.add_plain'] at q
      rw [q]
      have hzi : i < zs.length := by omega
      rw [List.getElem?_take_of_lt hi] at hx'
      simp [List.getD, hx']
end
end Opn
end Go.Proofs.YtjfhhjkggjflfaaGreatDoor
