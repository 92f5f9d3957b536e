import Derived.Test.YtanpbknjnpmmnaaProg
import Derived.Test.YtanpbknjnpmmnaaTxp
import Derived.WalkKit
import Derived.WalkSpells
import Derived.WalkLawsBesides
namespace Go.Proofs.Ytanpbknjnpmmnaa
namespace Cod
open Go.RowKit CMath Byt
set_option linter.unusedVariables false
set_option maxRecDepth 20000

set_option maxHeartbeats 400000 in
theorem refText_err (a : Option Addr) (cap L n k : Nat) (most : Int) (w : World) (f : Nat) (C1 : Hid (Calls Try.prog 53 #[.slice a L cap] w fun e w' => e = .returned (.tuple #[.int .u64 (n : Nat), .int .i64 k, .int .i64 (f : Nat)]) ∧ w' = w)) (g : ((f : Int) != 0) = true) :
    Calls Try.prog 54 #[.slice a L cap, .int .i64 most] w fun e w' => e = .returned (.tuple #[.string ⟨#[]⟩, .int .i64 0, .int .i64 f]) ∧ w' = w := by
  go_enter Try.func54, Try.ntmps54
  go_wp2_with (go_at_call 53; refine C1.out.mono ?_; rintro e w' ⟨rfl, hw⟩; have hw2 := hw.symm; clear hw; subst hw2)
  go_ret3
  exact ⟨rfl, rfl⟩

set_option maxHeartbeats 400000 in
theorem refText_neg (a : Option Addr) (cap L n k : Nat) (most : Int) (w : World) (C1 : Hid (Calls Try.prog 53 #[.slice a L cap] w fun e w' => e = .returned (.tuple #[.int .u64 (n : Nat), .int .i64 k, .int .i64 (0 : Nat)]) ∧ w' = w)) (hL : L ≤ 9223372036854775807) (h1 : 1 ≤ k) (h2 : k ≤ L) (h3 : k ≤ 10) (h4 : n < 18446744073709551616) (hm : -9223372036854775808 ≤ most ∧ most ≤ 9223372036854775807) (hm0 : most < 0) :
    Calls Try.prog 54 #[.slice a L cap, .int .i64 most] w fun e w' => e = .returned (.tuple #[.string ⟨#[]⟩, .int .i64 0, .int .i64 22]) ∧ w' = w := by
  go_enter Try.func54, Try.ntmps54
  go_wp2_with (go_at_call 53; refine C1.out.mono ?_; rintro e w' ⟨rfl, hw⟩; have hw2 := hw.symm; clear hw; subst hw2)
  go_ret3
  exact ⟨rfl, rfl⟩

set_option maxHeartbeats 400000 in
theorem refText_long (a : Option Addr) (cap L n k : Nat) (most : Int) (w : World) (C1 : Hid (Calls Try.prog 53 #[.slice a L cap] w fun e w' => e = .returned (.tuple #[.int .u64 (n : Nat), .int .i64 k, .int .i64 (0 : Nat)]) ∧ w' = w)) (hL : L ≤ 9223372036854775807) (h1 : 1 ≤ k) (h2 : k ≤ L) (h3 : k ≤ 10) (h4 : n < 18446744073709551616) (hm : -9223372036854775808 ≤ most ∧ most ≤ 9223372036854775807) (hm0 : 0 ≤ most) (hmo : most < (n : Int)) :
    Calls Try.prog 54 #[.slice a L cap, .int .i64 most] w fun e w' => e = .returned (.tuple #[.string ⟨#[]⟩, .int .i64 0, .int .i64 22]) ∧ w' = w := by
  go_enter Try.func54, Try.ntmps54
  go_wp2_with (go_at_call 53; refine C1.out.mono ?_; rintro e w' ⟨rfl, hw⟩; have hw2 := hw.symm; clear hw; subst hw2)
  go_ret3
  exact ⟨rfl, rfl⟩

set_option maxHeartbeats 400000 in
theorem refText_short (a : Option Addr) (cap L n k : Nat) (most : Int) (w : World) (C1 : Hid (Calls Try.prog 53 #[.slice a L cap] w fun e w' => e = .returned (.tuple #[.int .u64 (n : Nat), .int .i64 k, .int .i64 (0 : Nat)]) ∧ w' = w)) (hL : L ≤ 9223372036854775807) (h1 : 1 ≤ k) (h2 : k ≤ L) (h3 : k ≤ 10) (h4 : n < 18446744073709551616) (hm : -9223372036854775808 ≤ most ∧ most ≤ 9223372036854775807) (hmo : (n : Int) ≤ most) (hsh : L < k + n) :
    Calls Try.prog 54 #[.slice a L cap, .int .i64 most] w fun e w' => e = .returned (.tuple #[.string ⟨#[]⟩, .int .i64 0, .int .i64 20]) ∧ w' = w := by
  go_enter Try.func54, Try.ntmps54
  go_wp2_with (go_at_call 53; refine C1.out.mono ?_; rintro e w' ⟨rfl, hw⟩; have hw2 := hw.symm; clear hw; subst hw2)
  go_ret3
  exact ⟨rfl, rfl⟩

set_option maxHeartbeats 400000 in
theorem refText_end (a : Option Addr) (cap L n k : Nat) (most : Int) (w : World) (C1 : Hid (Calls Try.prog 53 #[.slice a L cap] w fun e w' => e = .returned (.tuple #[.int .u64 (n : Nat), .int .i64 k, .int .i64 (0 : Nat)]) ∧ w' = w)) (hL : L ≤ 9223372036854775807) (h1 : 1 ≤ k) (h2 : k ≤ L) (h3 : k ≤ 10) (h4 : n < 18446744073709551616) (hm : -9223372036854775808 ≤ most ∧ most ≤ 9223372036854775807) (hmo : (n : Int) ≤ most) (hsh : k + n ≤ L) (hc : L ≤ cap) (hc2 : cap ≤ 9223372036854775807) (hck : cap = k) (t : ByteArray) (b off : Nat) (ha : a = some ⟨b, off, none⟩) (hcv : ∀ c, (convert 24 9 (.slice (some ⟨b, off, none⟩) n c)).run Try.prog w = .ok (.string t) w) :
    Calls Try.prog 54 #[.slice a L cap, .int .i64 most] w fun e w' => e = .returned (.tuple #[.string t, .int .i64 ((k + n : Nat) : Int), .int .i64 0]) ∧ w' = w := by
  subst ha
  have hcc : cap - k = 0 := by omega
  have hnn : n < 1 := by omega
  clear hck
  go_enter Try.func54, Try.ntmps54
  go_wp2_with (go_at_call 53; refine C1.out.mono ?_; rintro e w' ⟨rfl, hw⟩; have hw2 := hw.symm; clear hw; subst hw2)
  go_ret3
  exact ⟨rfl, rfl⟩

set_option maxHeartbeats 400000 in
theorem refText_ok (a : Option Addr) (cap L n k : Nat) (most : Int) (w : World) (C1 : Hid (Calls Try.prog 53 #[.slice a L cap] w fun e w' => e = .returned (.tuple #[.int .u64 (n : Nat), .int .i64 k, .int .i64 (0 : Nat)]) ∧ w' = w)) (hL : L ≤ 9223372036854775807) (h1 : 1 ≤ k) (h2 : k ≤ L) (h3 : k ≤ 10) (h4 : n < 18446744073709551616) (hm : -9223372036854775808 ≤ most ∧ most ≤ 9223372036854775807) (hmo : (n : Int) ≤ most) (hsh : k + n ≤ L) (hc : L ≤ cap) (hc2 : cap ≤ 9223372036854775807) (hck : k < cap) (t : ByteArray) (b off : Nat) (ha : a = some ⟨b, off, none⟩) (hcv : ∀ c, (convert 24 9 (.slice (some ⟨b, off + k, none⟩) n c)).run Try.prog w = .ok (.string t) w) :
    Calls Try.prog 54 #[.slice a L cap, .int .i64 most] w fun e w' => e = .returned (.tuple #[.string t, .int .i64 ((k + n : Nat) : Int), .int .i64 0]) ∧ w' = w := by
  subst ha
  go_enter Try.func54, Try.ntmps54
  go_wp2_with (go_at_call 53; refine C1.out.mono ?_; rintro e w' ⟨rfl, hw⟩; have hw2 := hw.symm; clear hw; subst hw2)
  go_ret3
  exact ⟨rfl, rfl⟩


end Cod
end Go.Proofs.Ytanpbknjnpmmnaa
