import Derived.Test.YtbloifnibgdeoaaProg
import Derived.Test.YtbloifnibgdeoaaDSml
import Derived.WalkKit
import Derived.WalkSpells
import Derived.WalkLawsBesides
import Derived.Lib.SliceRun
namespace Go.Proofs.Ytbloifnibgdeoaa
namespace Dsk
open Go.RowKit Go.Maps Go.Sort Byt Laws
set_option linter.unusedVariables false
set_option maxRecDepth 100000

theorem below_of {B : Nat} {a w1 w2 : World} {r : Option Nat} (h : Below B a w1) (hg : w1.grownBy w2 r) (hB : B ≤ w1.heap.size) (hr : ∀ j, r = some j → B ≤ j) : Below B a w2 :=
  h.trans ⟨hg.os, hg.tape, hg.output, hg.size, fun i hi => hg.block i (by omega) (fun e => by have := hr i e.symm; omega)⟩

set_option maxHeartbeats 1000000 in
theorem clone_any (a : Option Addr) (n c : Nat) (l : List Nat) (w : World) (ha : IsB w a l) (na : a = none → c = 0) (hn : n = l.length) (hl : l.length ≤ 140737488355328) :
    Calls Try.prog 50 #[.slice a n c] w fun e w' => ∃ a' c', e = .returned (.slice a' l.length c') ∧ New 5 w.heap.size w' a' c' l ∧ Below w.heap.size w w' := by
  subst hn
  obtain ⟨i8, hi8, hz0, hz1, hz2⟩ := info_parts infoB
  cases a with
  | none =>
    have hl0 := ha.none
    subst hl0
    obtain rfl := na rfl
    clear ha na
    have q22 : ∀ (w : World) (n c : Nat), (binOp .eql 30 (.slice none n c) (.slice none 0 0)).run Try.prog w = .ok (.bool true) w := fun w n c => Lib.run_eql_slice_nil w _ _ none n c 0 0 Try.underlying30
    go_enter Try.func50, Try.ntmps50
    go_wp2
    go_ret
    exact ⟨none, 0, rfl, ⟨World.ownsRow_nil _ _ _ _, by simp⟩, Below.refl _ _⟩
  | some ad =>
    have HI : Hid (IsB w (some ad) l) := ha
    clear ha na
    have q22 : ∀ (w : World) (n c : Nat), (binOp .eql 30 (.slice (some ad) n c) (.slice none 0 0)).run Try.prog w = .ok (.bool false) w := fun w n c => Lib.run_eql_slice_nil w _ _ (some ad) n c 0 0 Try.underlying30
    go_enter Try.func50, Try.ntmps50
    have hal : Below w.heap.size w (w.alloc (.cells #[] 5)) := (Below.refl _ _).alloc (Nat.le_refl _) _
    have HIA : Hid (IsB (w.alloc (.cells #[] 5)) (some ad) l) := HI.out.below hal
    have HOWN : Hid ((w.alloc (.cells #[] 5)).ownsRow w.heap.size 5 1 (.slice (some ⟨w.heap.size, 0, none⟩) 0 0) 0 (cellsB [])) := World.ownsRow_lit w #[] 0 (Nat.le_refl _) (by simp [maxLen]) (by simp)
    have HAL : Hid (Below w.heap.size w (w.alloc (.cells #[] 5))) := hal
    clear hal
    go_wp2_with (at_builtin; refine wpList_appAt (by rfl) (.tmp 5) (.tmp 6) 30 (by rfl) w.heap.size 5 i8 Try.underlying30 hi8 hz0 hz1 hz2 _ [] 0 (by rfl) HOWN.out (some ad) l.length c l (by rfl) rfl (by simp) HIA.out (by omega) (by simp) ?_; intro v1 w1 hown1 hgr1 hat1; have HO1 : Hid (w1.ownsRow w.heap.size 5 1 v1 (0 + l.length) (cellsB ([] ++ l))) := hown1; have HG1 : Hid ((w.alloc (.cells #[] 5)).grownBy w1 (some w.heap.size)) := hgr1; clear hown1 hgr1 hat1)
    go_ret
    obtain ⟨a', c', rfl, hnew⟩ := New.of HO1.out (by simpa using HI.out.2)
    simp only [List.nil_append] at hnew ⊢
    exact ⟨a', c', rfl, hnew, below_of HAL.out HG1.out (by simp) (fun j hj => by cases hj; exact Nat.le_refl _)⟩

/-- P3.5: Read. -/
def Dm.read (m : Dm) (s : ByteArray) : List Nat × Int :=
  if m.down then ([], 30) else if okN s then (match look m.now (ky s) with
    | none => ([], 34)
    | some i => (((m.fl[i]?).map (·.data)).getD [], 0)) else ([], 33)

set_option maxHeartbeats 1000000 in
theorem read_any {T : Nat → Nat} {w : World} {d mb : Nat} {fb : Nat → Nat} {m : Dm} (h : Pd T w d mb fb m) (s : ByteArray) (hs : s.size ≤ maxLen) :
    Calls Try.prog 29 #[.pointer (some ⟨d, 0, none⟩), .string s] w fun e w' => ∃ a' c', e = .returned (.tuple #[.slice a' (m.read s).1.length c', .int .i64 (m.read s).2]) ∧ New 5 w.heap.size w' a' c' (m.read s).1 ∧ Below w.heap.size w w' := by
  obtain ⟨cv, D, h⟩ := h
  have HH : Hid (Pdi T w d mb fb m cv D) := h
  have HS : Hid (s.size ≤ maxLen) := hs
  have hs9 : s.size ≤ 9223372036854775807 := by unfold maxLen at hs; omega
  have c6 := (h.top.1.2 6 (by omega)).1
  have c8 := (h.top.1.2 8 (by omega)).1
  simp only [Top.cell] at c6 c8
  clear h hs
  have fin0 : ∀ x, m.read s = ([], x) → ∃ a' c', Ending.returned (.tuple #[.slice none 0 0, .int .i64 x]) = .returned (.tuple #[.slice a' (m.read s).1.length c', .int .i64 (m.read s).2]) ∧ New 5 w.heap.size w a' c' (m.read s).1 ∧ Below w.heap.size w w := by
    intro x e
    rw [e]
    exact ⟨none, 0, rfl, ⟨World.ownsRow_nil _ _ _ _, by simp⟩, Below.refl _ _⟩
  have FIN : Hid (∀ x, m.read s = ([], x) → ∃ a' c', Ending.returned (.tuple #[.slice none 0 0, .int .i64 x]) = .returned (.tuple #[.slice a' (m.read s).1.length c', .int .i64 (m.read s).2]) ∧ New 5 w.heap.size w a' c' (m.read s).1 ∧ Below w.heap.size w w) := fin0
  clear fin0
  cases hd : m.down
  · rw [hd] at c8
    cases ho : okN s
    · go_enter Try.func29, Try.ntmps29
      go_wp2_with (first | (go_at_call 72; refine (mayBe_any _ _ hs9).mono ?_; rintro e w9 ⟨rfl, hw9⟩; have hw8 := hw9.symm; clear hw9; subst hw8; rw [ho]))
      go_ret2
      exact FIN.out 33 (by simp [Dm.read, hd, ho])
    · cases hl : look m.now (ky s) with
      | none =>
        go_enter Try.func29, Try.ntmps29
        go_wp2_with (first | (go_at_call 72; refine (mayBe_any _ _ hs9).mono ?_; rintro e w9 ⟨rfl, hw9⟩; have hw8 := hw9.symm; clear hw9; subst hw8; rw [ho]) | (at_lookup; refine wpList_look HH.out s HS.out (by rfl) (.tmp 19) (.tmp 20) (by rfl) (by rfl) (by rfl) ?_; rw [hl]; simp only [pv]))
        go_ret2
        exact FIN.out 34 (by simp [Dm.read, hd, ho, hl])
      | some i =>
        obtain ⟨f, hf⟩ : ∃ f, m.fl[i]? = some f := ⟨_, List.getElem?_eq_getElem (HH.out.ids _ (look_some hl))⟩
        obtain ⟨a, c, hfa⟩ := HH.out.file i f hf
        have cf0 := (hfa.fld.2 0 (by omega)).1
        simp only [fcell, if_true] at cf0
        have HF : Hid (FileAt T w (fb i) i f a c) := hfa
        have hbig := hfa.big
        have HE : Hid (m.read s = (f.data, 0)) := by show _ = _; simp [Dm.read, hd, ho, hl, hf]
        clear hf hfa
        go_enter Try.func29, Try.ntmps29
        go_wp2_with (first | (go_at_call 72; refine (mayBe_any _ _ hs9).mono ?_; rintro e w9 ⟨rfl, hw9⟩; have hw8 := hw9.symm; clear hw9; subst hw8; rw [ho]) | (at_lookup; refine wpList_look HH.out s HS.out (by rfl) (.tmp 19) (.tmp 20) (by rfl) (by rfl) (by rfl) ?_; rw [hl]; simp only [pv]) | (at_lookup; refine wpList_look HH.out s HS.out (by rfl) (.tmp 26) (.tmp 27) (by rfl) (by rfl) (by rfl) ?_; rw [hl]; simp only [pv]) | (go_at_call 50; refine (clone_any a f.data.length c f.data _ HF.out.own.isB HF.out.own.cap rfl (by omega)).mono ?_; rintro e w' ⟨a', c', rfl, h1, h2⟩; have HR : Hid (New 5 w.heap.size w' a' c' f.data ∧ Below w.heap.size w w') := ⟨h1, h2⟩; clear h1 h2))
        go_ret2
        rw [HE.out]
        exact ⟨a', c', rfl, HR.out.1, HR.out.2⟩
  · rw [hd] at c8
    go_enter Try.func29, Try.ntmps29
    go_wp2
    go_ret2
    exact FIN.out 30 (by simp [Dm.read, hd])
end Dsk
end Go.Proofs.Ytbloifnibgdeoaa
