import Derived.Test.YtbloifnibgdeoaaDKp2
import Derived.Deep.RegionLaw
namespace Go.Proofs.Ytbloifnibgdeoaa
namespace Dsk
open Go.RowKit Go.Shelf Go.Maps Go.Sort Byt Laws
set_option linter.unusedVariables false
set_option maxRecDepth 100000
set_option linter.unusedSimpArgs false
set_option maxHeartbeats 1000000 in
theorem prefix_true (a b : Option Addr) (ca cb n m : Nat) (l r : List Nat) (w : World) (ha : IsB w a l) (hb : IsB w b r) (na : a = none → ca = 0) (nb : b = none → cb = 0) (hn : n = l.length) (hm : m = r.length) (hmc : m ≤ cb) (hcb : cb ≤ 9223372036854775807) (hp : l <+: r) :
    Calls Try.prog 36 #[.slice a n ca, .slice b m cb] w fun e w' => e = .returned (.bool true) ∧ Below w.heap.size w w' := by
  have hle : n ≤ m := by rw [hn, hm]; exact hp.length_le
  have hle' : (n : Int) ≤ (m : Int) := by omega
  have ht : r.take n = l := by rw [hn]; exact (List.prefix_iff_eq_take.1 hp).symm
  have h1 := fun w' (h : IsB w' a l) => conv_any w' a ca n l h hn na
  have h2 := fun w' (h : IsB w' b l) => conv_any w' b cb n l h hn nb
  have h1' := h1 w.drew ha
  have h2' := h2 w.drew (by rw [← ht]; exact hb.take _)
  have hnc : n ≤ cb := by omega
  have hd : decide ((n : Int) ≤ (m : Int)) = true := by simpa using hle'
  clear ha hb na nb hn hm h1 h2 hp ht
  generalize ofB l = s at *
  go_enter Try.func36, Try.ntmps36
  go_wp2
  go_region
  go_wp2
  go_ret
  exact ⟨rfl, (Below.refl _ _).drew⟩
end Dsk
end Go.Proofs.Ytbloifnibgdeoaa
