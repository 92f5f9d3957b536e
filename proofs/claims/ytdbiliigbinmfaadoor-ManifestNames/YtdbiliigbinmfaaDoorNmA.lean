import Derived.Test.YtdbiliigbinmfaaDoorNm9
import Derived.Shelf.Pu.ErrVarParseUint
import Derived.Ground.MpProg
import Derived.Lib.ParseIntBCases
import Derived.Lib.AtoiErrMem
namespace Go.Proofs
open Go.Shelf Go.RowKit
shelf_lay LaysPu.n14 Mp 14 at Tryd as Tryd.puA
namespace YtdbiliigbinmfaaDoor
namespace Nms
open Go.RowKit Go.Sort CMath Byt Cod Laws
set_option linter.unusedVariables false
set_option linter.unusedSimpArgs false
set_option maxRecDepth 20000
theorem puF : Tryd.puA_ren.f 14 = 15 := by kernel_rfl
/-- what lies in the variables of the standard library -/
structure Lib3 (w : World) : Prop where
  tab : Lib.TabIs Tryd.prog w "internal/strconv.uint64pow10" .u64 Lib.pow10Tab
  syn : ∃ tp p, w.var? Tryd.prog "strconv.ErrSyntax" = some #[.iface tp p]
  ran : ∃ tp p, w.var? Tryd.prog "strconv.ErrRange" = some #[.iface tp p]
def PuIs (s : ByteArray) (w : World) (e : Ending) (w' : World) : Prop :=
  RowKit.Below w.heap.size w w' ∧ ((∃ u, u < 18446744073709551616 ∧ Lib.parseUintB 64 s.data.toList = .ok u ∧ e = .returned (.tuple #[.int .u64 (u : Int), .nilIface])) ∨ ((∀ u, Lib.parseUintB 64 s.data.toList ≠ .ok u) ∧ ∃ (x : Int) (tt : TypeId) (v : Value), e = .returned (.tuple #[.int .u64 x, .iface tt v])))
theorem parse_any (s : ByteArray) (hs : s.size ≤ 100) (w : World) (h : Lib3 w) : Calls Tryd.prog 15 #[.string s, .int .i64 10, .int .i64 64] w fun e w' => PuIs s w e w' := by
  obtain ⟨_, ⟨t1, p1, h1⟩, ⟨t2, p2, h2⟩⟩ := h
  cases hp : Lib.parseUintB 64 s.data.toList with
  | ok u =>
    have C := Any.strconv_ParseUint_10_at64_ok Tryd.puA s (by omega) u hp w
    rw [puF] at C
    refine C.mono ?_
    rintro e w' ⟨rfl, hw⟩
    refine ⟨?_, Or.inl ⟨u, ?_, hp, rfl⟩⟩
    · rcases hw with rfl | rfl
      · exact RowKit.Below.refl _ _
      · exact Lib.bytesWorld_below _ _ _
    · exact Nat.lt_of_le_of_lt (Lib.parseUintB_le hp) (by decide)
  | «syntax» =>
    have C := Any.strconv_ParseUint_10_at64_syntax_var Tryd.puA s (by omega) hp t1 p1 w h1
    rw [puF] at C
    refine C.mono ?_
    rintro e w' ⟨N, rfl, _, _, hb⟩
    exact ⟨hb, Or.inr ⟨fun u => by rw [hp]; simp, _, _, _, rfl⟩⟩
  | range =>
    have C := Any.strconv_ParseUint_10_at64_range_var Tryd.puA s (by omega) hp t2 p2 w h2
    rw [puF] at C
    refine C.mono ?_
    rintro e w' ⟨N, rfl, _, _, hb⟩
    exact ⟨hb, Or.inr ⟨fun u => by rw [hp]; simp, _, _, _, rfl⟩⟩
end Nms
end YtdbiliigbinmfaaDoor
end Go.Proofs
