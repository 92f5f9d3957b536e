import Derived.Test.YtdbiliigbinmfaaDoorNm4
import Derived.Shelf.LaysM
import Derived.Shelf.Lay
import Derived.Shelf.Strconv.Itoa1
import Derived.Shelf.Strconv.Itoa2
import Derived.Lib.ItoaMem
import Derived.Lib.AppendIntMem
import Derived.Ground.NamesProg
namespace Go.Proofs
open Go.Shelf Go.RowKit
shelf_lay Lays.n283 Nm 283 at Tryd as Tryd.smallA
shelf_lay LaysM.n284 Nm 284 at Tryd as Tryd.digA
shelf_lay Lays.n285 Nm 285 at Tryd as Tryd.fmtA
namespace YtdbiliigbinmfaaDoor
namespace Nms
open Go.RowKit Go.Sort CMath Byt Cod Laws
set_option linter.unusedVariables false
set_option linter.unusedSimpArgs false
set_option maxRecDepth 20000
theorem smallF : Tryd.smallA_ren.f 283 = 66 := by kernel_rfl
theorem digF : Tryd.digA_ren.f 284 = 67 := by kernel_rfl
theorem fmtF : Tryd.fmtA_ren.f 285 = 68 := by kernel_rfl
theorem small_any (i : Nat) (h : i < 100) (w : World) : Calls Tryd.prog 66 #[.int .i64 i] w fun e w' => e = .returned (.string ⟨(Lib.decDigits i).toArray⟩) ∧ w' = w := by
  have h := Any.internal_strconv_small Tryd.smallA i h w
  rw [smallF] at h
  exact h
theorem digits_any (u : Nat) (h1 : 1 ≤ u) (h2 : u < 18446744073709551616) (w : World) (htab : Lib.TabIs Tryd.prog w "internal/strconv.uint64pow10" .u64 Lib.pow10Tab) : Calls Tryd.prog 67 #[.int .u64 u] w fun e w' => e = .returned (.int .i64 (Lib.nDigits u)) ∧ w' = w := by
  have h := Any.internal_strconv_numDigits Tryd.digA u h1 h2 w htab
  rw [digF] at h
  exact h
theorem fmt_any (blk off cap : Nat) (u : Nat) (d : Array UInt8) (w : World) (hH : Holds (fun (b : UInt8) => Value.int .u8 (b.toNat : Int)) w blk off d) (hu : u < 10 ^ d.size) (hu64 : u < 18446744073709551616) (hsz : d.size < 4611686018427387904) :
    Calls Tryd.prog 68 #[.slice (some ⟨blk, off, none⟩) d.size cap, .int .u64 u] w fun e w' =>
      e = .returned (.tuple #[]) ∧ ∃ (n v' : Nat) (dk : Array UInt8), w' = (putRow (fun (b : UInt8) => Value.int .u8 (b.toNat : Int)) w blk off dk).drewN n ∧ Lib.FmtInv d.size u 0 v' dk := by
  have h := Any.internal_strconv_formatBase10 Tryd.fmtA blk off cap u d w hH hu hu64 hsz
  rw [fmtF] at h
  exact h
set_option maxHeartbeats 1000000 in
theorem ifmt_small (u : Nat) (hu : (u : Int) < 100) (w : World) : Calls Tryd.prog 40 #[.int .u64 u, .int .i64 10] w fun e w' => e = .returned (.string ⟨(Lib.decDigits u).toArray⟩) ∧ w' = w := by
  have C := Lib.hid (small_any u (by omega) w)
  have w1 : IntKind.i64.wrap (u : Int) = (u : Int) := IntWalk.i64_in _ (by omega)
  go_enter Tryd.func40, Tryd.ntmps40
  go_wp2_with (go_at_call 66; refine C.out.mono ?_; rintro e w' ⟨rfl, rfl⟩)
  go_ret
  exact ⟨rfl, rfl⟩
end Nms
end YtdbiliigbinmfaaDoor
end Go.Proofs
