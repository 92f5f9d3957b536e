import Derived.Test.YtpefacgdkgediaaDoorProg
import Derived.Test.YtpefacgdkgediaaDoorKno
import Derived.WalkKit
import Derived.WalkSpells
import Derived.WalkLawsBesides
namespace Go.Proofs.YtpefacgdkgediaaDoor
namespace CodecForm
open Go.RowKit CMath Byt Cod
set_option linter.unusedVariables false
set_option maxRecDepth 20000

theorem take_take' {l : List Nat} {i : Nat} (h : i ≤ l.length) : (l.take i).length = i := by simp; omega

/-- A beginning of a number's bytes. -/
theorem uint_part {l : List Nat} {n k : Nat} (hr : rd l 0 0 = (n, k, 0)) (a : Option Addr) (cap i : Nat) (w : World) (ha : IsB w a l) (hcap : l.length ≤ cap) (hlen : cap ≤ 9223372036854775807) (hi : i < k) (hk : k ≤ l.length) :
    Calls Tryd.prog 19 #[.slice a i cap] w fun e w' => e = .returned (.tuple #[.int .u64 0, .int .i64 0, .int .i64 20]) ∧ w' = w := by
  have h := uint_any a cap i (l.take i) w (ha.take i) (by simp; omega) hlen (take_take' (by omega)).symm
  rw [rd_part0 hr hi] at h
  exact h
theorem text_part {l : List Nat} {most : Int} {s : List Nat} {k : Nat} (hr : ∀ i, i < k → (text (l.take i) most).2.2 ≠ 0) (a : Option Addr) (cap i : Nat) (w : World) (ha : IsB w a l) (hcap : l.length ≤ cap) (hlen : cap ≤ 9223372036854775807) (hm : -9223372036854775808 ≤ most ∧ most ≤ 9223372036854775807) (hi : i < k) (hk : k ≤ l.length) :
    Calls Tryd.prog 21 #[.slice a i cap, .int .i64 most] w fun e w' => (∃ t k' f', e = .returned (.tuple #[.string t, .int .i64 k', .int .i64 f']) ∧ ((f' == 0) = false)) ∧ w' = w := by
  have h := text_any a cap i (l.take i) most w (ha.take i) (by simp; omega) hlen hm (take_take' (by omega)).symm
  unfold txt at h
  have h0 := hr i hi
  refine h.mono fun e w' ⟨he, hw⟩ => ⟨⟨_, _, _, he, ?_⟩, hw⟩
  simpa using h0
theorem unframe_part {l : List Nat} {k : Nat} (hr : ∀ i, i < k → (unframe (l.take i)).2.2 ≠ 0) (a : Option Addr) (cap i : Nat) (w : World) (ha : IsB w a l) (ht : Tab w) (hcap : l.length ≤ cap) (hlen : cap ≤ 9223372036854775807) (hi : i < k) (hk : k ≤ l.length) :
    Calls Tryd.prog 22 #[.slice a i cap] w fun e w' => (∃ a' c' n' k' f', e = .returned (.tuple #[.slice a' n' c', .int .i64 k', .int .i64 f']) ∧ ((f' == 0) = false)) ∧ Below w.heap.size w w' := by
  have h := unframe_any a cap i (l.take i) w (ha.take i) ht (by simp; omega) hlen (take_take' (by omega)).symm
  unfold unfV at h
  have h0 := hr i hi
  refine h.mono fun e w' ⟨a', c', he, hn, hb⟩ => ⟨⟨a', c', _, _, _, he, ?_⟩, hb⟩
  simpa using h0
theorem keepB {w W w' : World} (hb : Below W.heap.size W w') (h : Below w.heap.size w W) : Below w.heap.size w w' := h.trans (hb.mono h.size)
theorem keepN {T : Nat} {w W w' : World} {a : Option Addr} {c : Nat} {l : List Nat} (hb : Below W.heap.size W w') (h : Below w.heap.size w W ∧ New T w.heap.size W a c l ∧ Tab W) : Below w.heap.size w w' ∧ New T w.heap.size w' a c l ∧ Tab w' := ⟨keepB hb h.1, h.2.1.below hb, h.2.2.below hb h.2.2.lt⟩
theorem keepDN {T : Nat} {w W : World} {a : Option Addr} {c n : Nat} {l : List Nat} (h : Below w.heap.size w W ∧ New T w.heap.size W a c l ∧ Tab W) : Below w.heap.size w (W.drewN n) ∧ New T w.heap.size (W.drewN n) a c l ∧ Tab (W.drewN n) := keepN (below_drewN (Below.refl _ _) n) h
theorem keepD {T : Nat} {w W : World} {a : Option Addr} {c : Nat} {l : List Nat} (h : Below w.heap.size w W ∧ New T w.heap.size W a c l ∧ Tab W) : Below w.heap.size w W.drew ∧ New T w.heap.size W.drew a c l ∧ Tab W.drew := keepN (Below.refl _ _).drew h
theorem ofB_size (s : List Nat) : (ofB s).size = s.length := by
  have : (ofB s).data.size = s.length := by simp [ofB]
  exact this

end CodecForm
end Go.Proofs.YtpefacgdkgediaaDoor
