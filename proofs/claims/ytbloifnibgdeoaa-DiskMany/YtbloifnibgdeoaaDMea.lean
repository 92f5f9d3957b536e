import Derived.Test.YtbloifnibgdeoaaDImg
namespace Go.Proofs.Ytbloifnibgdeoaa
namespace Dsk
open Go.RowKit Go.Shelf Go.Maps Go.Sort Byt Laws
set_option linter.unusedVariables false
set_option maxRecDepth 100000

/-- A file that is handed in. -/
structure Fj where
  name : ByteArray
  data : List Nat
  sure : Int
/-- Files that lie in a slice. -/
structure FjAt (w : World) (a : Option Addr) (fs : List Fj) (ds : List (Option Addr × Nat)) : Prop where
  len : ds.length = fs.length
  at_ : ∀ (j : Nat) (f : Fj) (x : Option Addr × Nat), fs[j]? = some f → ds[j]? = some x → (∃ b off, a = some ⟨b, off, none⟩ ∧ w.cell? ⟨b, off + j * 3, none⟩ = some (.string f.name) ∧ w.cell? ⟨b, off + j * 3 + 1, none⟩ = some (.slice x.1 f.data.length x.2) ∧ w.cell? ⟨b, off + j * 3 + 2, none⟩ = some (.int .i64 f.sure)) ∧
    IsB w x.1 f.data ∧ (x.1 = none → x.2 = 0) ∧ f.data.length ≤ x.2 ∧ x.2 ≤ 9223372036854775807 ∧ f.name.size ≤ maxLen ∧ -9223372036854775808 ≤ f.sure ∧ f.sure ≤ 9223372036854775807
theorem FjAt.below {w w' : World} {a : Option Addr} {fs : List Fj} {ds : List (Option Addr × Nat)} (h : FjAt w a fs ds) (hb : Below w.heap.size w w') : FjAt w' a fs ds :=
  ⟨h.len, fun j f x hf hx => by
    obtain ⟨⟨b, off, e, h1, h2, h3⟩, h4, h5⟩ := h.at_ j f x hf hx
    have hlt := World.block_lt_of_cell? w _ h1
    exact ⟨⟨b, off, e, (hb.cell (p := ⟨b, off + j * 3, none⟩) hlt).trans h1, (hb.cell (p := ⟨b, off + j * 3 + 1, none⟩) hlt).trans h2, (hb.cell (p := ⟨b, off + j * 3 + 2, none⟩) hlt).trans h3⟩, h4.below hb, h5⟩⟩

/-- A file that a disk can begin with. -/
def okF (f : Fj) : Bool := okN f.name && decide (f.data.length ≤ 2147483648) && decide (0 ≤ f.sure) && decide (f.sure ≤ f.data.length)
def sumF (fs : List Fj) : Nat := (fs.map fun f => f.data.length).sum
def measR (fs : List Fj) : Nat × Bool := if fs.all okF then (sumF fs, true) else (0, false)
theorem sumF_take {fs : List Fj} {k : Nat} {f : Fj} (h : fs[k]? = some f) : sumF (fs.take (k + 1)) = sumF (fs.take k) + f.data.length := by
  unfold sumF
  rw [List.take_add_one, h]
  simp
theorem sumF_le {fs : List Fj} (h : ∀ f ∈ fs, f.data.length ≤ 2147483648) : sumF fs ≤ fs.length * 2147483648 := by
  induction fs with
  | nil => simp [sumF]
  | cons f r ih =>
    have h1 := ih (fun x hx => h x (by simp [hx]))
    have h2 := h f (by simp)
    have e : sumF (f :: r) = f.data.length + sumF r := by simp [sumF]
    rw [e, List.length_cons]
    omega

set_option maxHeartbeats 2000000 in
theorem measure_any (a : Option Addr) (n c : Nat) (fs : List Fj) (ds : List (Option Addr × Nat)) (w : World) (h : FjAt w a fs ds) (hn : n = fs.length) (hc : n ≤ c) (hc2 : c ≤ 9223372036854775807) (hl : fs.length ≤ 8388608) :
    Calls Try.prog 67 #[.slice a n c] w fun e w' => e = .returned (.tuple #[.int .i64 (measR fs).1, .bool (measR fs).2]) ∧ Below w.heap.size w w' := by
  have HF : Hid (FjAt w a fs ds) := h
  have HN : Hid (n = fs.length) := hn
  clear h hn
  go_enter Try.func67, Try.ntmps67
  go_wp2
  go_loopw [4, 6, 9, 10, 11, 12, 13, 14, 15, 16, 17, 18, 19, 20, 21, 22, 23, 24, 25, 26, 27, 28, 29, 30, 31, 32, 33, 34, 35, 36, 37, 38, 39, 40, 41] (fun s _ i _ _ _ _ _ _ _ _ _ _ _ _ _ _ _ _ _ _ _ _ _ _ _ _ _ _ _ _ _ _ _ _ wr => ∃ k : Nat, k ≤ n ∧ i = .int .i64 k ∧ s = .int .i64 (sumF (fs.take k) : Nat) ∧ (fs.take k).all okF = true ∧ Below w.heap.size w wr) (fun _ _ i _ _ _ _ _ _ _ _ _ _ _ _ _ _ _ _ _ _ _ _ _ _ _ _ _ _ _ _ _ _ _ _ _ => n - (intOf i).toNat)
  case atStart => exact ⟨0, Nat.zero_le _, rfl, rfl, by simp, Below.refl _ _⟩
  case round =>
    rename World => W
    obtain ⟨k, hk, rfl, rfl, hall, hbw⟩ := hrel
    by_cases hlt : k < n
    · have hlt' : (k : Int) < (n : Int) := by omega
      have hks : k < fs.length := by have := HN.out; omega
      obtain ⟨f, hf⟩ : ∃ f, fs[k]? = some f := ⟨_, List.getElem?_eq_getElem hks⟩
      obtain ⟨x, hx⟩ : ∃ x, ds[k]? = some x := ⟨_, List.getElem?_eq_getElem (by rw [HF.out.len]; exact hks)⟩
      obtain ⟨⟨b, off, rfl, c0, c1, c2⟩, hib, hnil, hle, hcx, hnm, hs1, hs2⟩ := (HF.out.below hbw).at_ k f x hf hx
      have hs9 : f.name.size ≤ 9223372036854775807 := by unfold maxLen at hnm; omega
      have hsum : sumF (fs.take k) ≤ 8388608 * 2147483648 := by
        have z := sumF_le (fs := fs.take k) (fun g hg => by
          have := List.all_eq_true.1 hall g hg
          simp only [okF, Bool.and_eq_true, decide_eq_true_eq] at this
          exact this.1.1.2)
        have z2 : (fs.take k).length ≤ 8388608 := by rw [List.length_take]; omega
        exact Nat.le_trans z (Nat.mul_le_mul_right _ z2)
      have hnx := sumF_take hf
      have HNX : Hid (sumF (fs.take (k + 1)) = sumF (fs.take k) + f.data.length) := hnx
      generalize sumF (fs.take k) = sk at *
      have HBW : Hid (Below w.heap.size w W) := hbw
      have hWs := hbw.size
      have hln : f.data.length ≤ 9223372036854775807 := by omega
      have HOF : Hid ((fs.take (k + 1)).all okF = okF f ∧ (okF f = false → fs.all okF = false)) := by
        refine ⟨by rw [List.take_add_one, hf]; simp only [Option.toList_some, List.all_append, hall, List.all_cons, List.all_nil]; simp, fun e => ?_⟩
        rw [Bool.eq_false_iff]; intro ha
        have := List.all_eq_true.1 ha f (List.mem_of_getElem? hf)
        rw [e] at this; cases this
      obtain ⟨len, hlen⟩ : ∃ len, len = f.data.length := ⟨_, rfl⟩
      have HLEN : Hid (len = f.data.length) := hlen
      rw [← hlen] at c1 hln hle
      clear hbw hnx hf hx hib hnil hnm hlen
      go_wp2_with (first | (go_at_call 72; refine (mayBe_any _ _ hs9).mono ?_; rintro e w9 ⟨rfl, hw9⟩; have hw8 := hw9.symm; clear hw9; subst hw8))
      all_goals
        have hbA : Below w.heap.size w (W.alloc (.cells #[.string f.name, .slice x.1 len x.2, .int .i64 f.sure] 67)) := HBW.out.trans (((Below.refl W.heap.size W).alloc (Nat.le_refl _) _).mono hWs)
        have hlenE := HLEN.out
        first
          | (have hno : okF f = false := by
               rw [Bool.eq_false_iff]; intro ho
               simp only [okF, Bool.and_eq_true, decide_eq_true_eq] at ho
               obtain ⟨⟨⟨o1, o2⟩, o3⟩, o4⟩ := ho
               first | omega | simp_all
             go_ret2
             have e : measR fs = (0, false) := by unfold measR; rw [HOF.out.2 hno]; rfl
             rw [e]
             exact ⟨rfl, hbA⟩)
          | (have hyes : okF f = true := by
               simp only [okF, Bool.and_eq_true, decide_eq_true_eq]
               refine ⟨⟨⟨?_, by omega⟩, by omega⟩, by omega⟩
               first | assumption | simp_all
             refine ⟨⟨k + 1, hlt, by go_num, ?_, ?_, hbA⟩, ?_⟩
             · rw [HNX.out, hlenE]; go_num
             · rw [HOF.out.1]; exact hyes
             · simp [intOf]; omega)
    · have hk' : k = n := by omega
      subst hk'
      have e1 : fs.take k = fs := List.take_of_length_le (by have := HN.out; omega)
      rw [e1] at hall ⊢
      have e : measR fs = (sumF fs, true) := by unfold measR; rw [if_pos hall]
      go_wp2
      go_ret2
      rw [e]
      exact ⟨rfl, hbw⟩
end Dsk
end Go.Proofs.Ytbloifnibgdeoaa
