import Derived.Test.YtbloifnibgdeoaaDKp1
namespace Go.Proofs.Ytbloifnibgdeoaa
namespace Dsk
open Go.RowKit Go.Shelf Go.Maps Go.Sort Byt Laws
set_option linter.unusedVariables false
set_option maxRecDepth 100000
set_option linter.unusedSimpArgs false
attribute [local go_sem ↓] Go.wp_at_zero Go.wp_at_succ

set_option maxHeartbeats 1000000 in
/-- The first place of a name that is there. -/
theorem at_any (a : Option Addr) (c n : Nat) (base : Nat) (fs : List Fi) (ds : List (Option Addr × Nat)) (w : World) (h : FilesAt base w (.slice a fs.length c) fs ds) (s : ByteArray) (hs : ∃ f ∈ fs, f.name = s) (hn : n = fs.length) (hl : fs.length ≤ 1000000000000) :
    Calls Try.prog 35 #[.slice a n c, .string s] w fun e w' => (∃ k : Nat, e = .returned (.int .i64 (k : Int)) ∧ ∃ f, fs[k]? = some f ∧ f.name = s) ∧ w' = w := by
  have HF : Hid (FilesAt base w (.slice a fs.length c) fs ds ∧ n = fs.length) := ⟨h, hn⟩
  have HS : Hid (∃ f ∈ fs, f.name = s) := hs
  have hnn : n ≤ 1000000000000 := by omega
  clear h hn hs hl
  go_enter Try.func35, Try.ntmps35
  go_wp2
  go_loopw [5] (fun i wr => ∃ k : Nat, k ≤ n ∧ i = .int .i64 (k : Int) ∧ wr = w ∧ Hid (∀ (j : Nat) (f : Fi), j < k → fs[j]? = some f → f.name ≠ s)) (fun i _ => n - (intOf i).toNat)
  case atStart => exact ⟨0, Nat.zero_le _, rfl, rfl, fun j f hj => by omega⟩
  case round =>
    obtain ⟨k, hk, rfl, rfl, HB⟩ := hrel
    by_cases hlt : k < n
    · have hlt' : k < fs.length := by rw [← HF.out.2]; exact hlt
      obtain ⟨f, hf⟩ : ∃ f, fs[k]? = some f := ⟨_, List.getElem?_eq_getElem hlt'⟩
      obtain ⟨x, hx⟩ : ∃ x, ds[k]? = some x := ⟨_, List.getElem?_eq_getElem (by rw [HF.out.1.len]; exact hlt')⟩
      obtain ⟨g, cap, e, h1, h2, c0, _⟩ := HF.out.1.cells hf hx
      obtain ⟨rfl, _, rfl⟩ := Value.slice.inj e
      have q1 : (k : Int) < (n : Int) := by omega
      have q2 : n ≤ c := by rw [HF.out.2]; exact h1
      have HK : Hid (fs[k]? = some f) := hf
      obtain ⟨nm, hnm⟩ : ∃ nm, nm = f.name := ⟨_, rfl⟩
      have HNM : Hid (nm = f.name) := hnm
      rw [← hnm] at c0
      clear hlt' hf hx e h1 hnm
      by_cases hq : nm = s
      · subst hq
        go_wp2
        go_ret
        exact ⟨⟨k, rfl, f, HK.out, HNM.out.symm⟩, rfl⟩
      · have hq3 : ¬ nm.toList = s.toList := fun e => hq (ByteArray.ext (Array.toList_inj.1 (by rw [← ByteArray.toList_eq, ← ByteArray.toList_eq]; exact e)))
        have hq4 : (nm.toList == s.toList) = false := by simp [hq3]
        go_wp2
        go_roundw
        case rel =>
          refine ⟨k + 1, by omega, by go_num, by trivial, fun j f' hj hf' => ?_⟩
          by_cases e : j = k
          · subst e
            have z := HK.out
            rw [hf'] at z
            cases z
            rw [← HNM.out]; exact hq
          · exact HB.out j f' (by omega) hf'
        case measure => simp [intOf]; omega
    · exfalso
      obtain ⟨f, hf, e⟩ := HS.out
      obtain ⟨j, hj⟩ := List.getElem?_of_mem hf
      have : j < fs.length := (List.getElem?_eq_some_iff.1 hj).1
      exact HB.out j f (by have := HF.out.2; omega) hj e
end Dsk
end Go.Proofs.Ytbloifnibgdeoaa
