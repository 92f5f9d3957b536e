import Derived.Test.YtbloifnibgdeoaaRTwn
namespace Go.Proofs.Ytbloifnibgdeoaa
namespace Dsk
open Go.RowKit Go.Shelf Go.Maps Go.Sort Byt Laws
set_option linter.unusedVariables false
set_option maxRecDepth 100000
set_option linter.unusedSimpArgs false

/-- What the law's small tells of files alone. -/
def smallAns (fs : List Fj) (e : Ending) : Prop := ∃ b : Bool, e = .returned (.bool b) ∧ (b = true → sumF fs ≤ 1048576)

set_option maxHeartbeats 1000000 in
theorem small_nil (a : Option Addr) (n c : Nat) (fs : List Fj) (ds : List (Option Addr × Nat)) (w : World) (h : FjAt w a fs ds) (hn : n = fs.length) (hc : n ≤ c) (hc2 : c ≤ 9223372036854775807) (hl : ∀ f ∈ fs, f.data.length ≤ 140737488355328) :
    Calls Try.prog 9 #[.slice a n c, .slice none 0 0] w fun e w' => smallAns fs e ∧ w' = w := by
  have HF : Hid (FjAt w a fs ds) := h
  have HN : Hid (n = fs.length) := hn
  have HL : Hid (∀ f ∈ fs, f.data.length ≤ 140737488355328) := hl
  clear h hn hl
  go_enter Try.func9, Try.ntmps9
  go_wp2
  go_loopw [5, 6] (fun s i wr => ∃ k sk : Nat, k ≤ n ∧ i = .int .i64 k ∧ s = .int .i64 (sk : Int) ∧ sk ≤ 1048576 ∧ Hid (sumF (fs.take k) = sk) ∧ wr = w) (fun _ i _ => n - (intOf i).toNat)
  case atStart => exact ⟨0, 0, Nat.zero_le _, rfl, rfl, by omega, show _ = _ from rfl, rfl⟩
  case round =>
    obtain ⟨k, sk, hk, rfl, rfl, hs, HS, rfl⟩ := hrel
    by_cases hlt : k < n
    · have hlt' : (k : Int) < (n : Int) := by omega
      have hks : k < fs.length := by have := HN.out; omega
      obtain ⟨f, hf⟩ : ∃ f, fs[k]? = some f := ⟨_, List.getElem?_eq_getElem hks⟩
      obtain ⟨x, hx⟩ : ∃ x, ds[k]? = some x := ⟨_, List.getElem?_eq_getElem (by rw [HF.out.len]; exact hks)⟩
      obtain ⟨⟨b, off, rfl, c0, c1, c2⟩, hib, hnil, hle, hcx, hnm, hs1, hs2⟩ := HF.out.at_ k f x hf hx
      have hob := HL.out f (List.mem_of_getElem? hf)
      have HNX : Hid (sumF (fs.take (k + 1)) = sumF (fs.take k) + f.data.length) := sumF_take hf
      obtain ⟨len, hlen⟩ : ∃ len, len = f.data.length := ⟨_, rfl⟩
      have HLEN : Hid (len = f.data.length) := hlen
      rw [← hlen] at c1 hob hle
      clear hf hx hib hnil hnm hlen hs1 hs2 c0 c2
      by_cases hbig : 1048576 < sk + len
      · have hbig' : (1048576 : Int) < (sk : Int) + (len : Int) := by omega
        go_wp2
        go_ret
        exact ⟨⟨false, rfl, by intro e; cases e⟩, rfl⟩
      · have hbig' : ¬ (1048576 : Int) < (sk : Int) + (len : Int) := by omega
        go_wp2
        go_roundw
        case rel => exact ⟨k + 1, sk + len, by omega, by go_num, by go_num, by omega, show _ = _ by rw [HNX.out, HS.out, HLEN.out], by first | rfl | trivial⟩
        case measure => simp [intOf]; omega
    · have hk' : k = n := by omega
      subst hk'
      have HT : Hid (sumF fs ≤ 1048576) := by
        have e := HS.out
        rw [List.take_of_length_le (by rw [← HN.out]; exact Nat.le_refl _)] at e
        show _ ≤ _
        rw [e]; exact hs
      clear HS
      go_wp2
      go_loopw [7] (fun i w9 => i = .int .i64 0 ∧ w9 = wr) (fun i _ => (intOf i).toNat)
      case atStart => exact ⟨rfl, by first | rfl | trivial⟩
      case round =>
        obtain ⟨rfl, rfl⟩ := hrel
        go_wp2
        go_ret
        exact ⟨⟨true, rfl, fun _ => HT.out⟩, rfl⟩
end Dsk
end Go.Proofs.Ytbloifnibgdeoaa
