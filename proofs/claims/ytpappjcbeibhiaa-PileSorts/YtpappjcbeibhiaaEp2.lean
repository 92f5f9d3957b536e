import Derived.Test.YtpappjcbeibhiaaEp1
namespace Go.Proofs.Ytpappjcbeibhiaa
namespace Ehp
open Go.RowKit Laws Irw Erw
open Hp (swp swp_length swp_perm Ord Heapy Up Dn fore fore1 goes_drew goes_drewN above_any below_drewN)
set_option linter.unusedVariables false
set_option maxRecDepth 100000
set_option linter.unusedSimpArgs false

/-- The heap's own order, in that world. -/
structure DirE (w : World) (h B : Nat) (o : Bool) : Prop where
  less : w.cell? ⟨h, 0, none⟩ = some (.func (.func 6) #[] #[.pointer (some ⟨B, 0, none⟩)])
  cap : w.cell? ⟨B, 0, none⟩ = some (.bool o)
  lth : h < w.heap.size
  ltB : B < w.heap.size
theorem DirE.below {w w' : World} {h B : Nat} {o : Bool} (d : DirE w h B o) (hb : Below w.heap.size w w') : DirE w' h B o :=
  ⟨(hb.cell (p := ⟨h, 0, none⟩) d.lth).trans d.less, (hb.cell (p := ⟨B, 0, none⟩) d.ltB).trans d.cap, Nat.lt_of_lt_of_le d.lth hb.size, Nat.lt_of_lt_of_le d.ltB hb.size⟩

set_option maxHeartbeats 2000000 in
theorem aheadE_any (w : World) (h B : Nat) (o : Bool) (a b : En) (hd : DirE w h B o) :
    Calls Try.prog 17 #[.pointer (some ⟨h, 0, none⟩), entV a, entV b] w fun e w' => e = .returned (.bool (lessE o a b)) ∧ Below w.heap.size w w' := by
  obtain ⟨ak, as_, ad, av⟩ := a
  obtain ⟨bk, bs, bd, bv⟩ := b
  have HBW : Hid (Below w.heap.size w ((w.alloc (.cells #[.string ak, .int .u64 as_, .bool ad, .string av] 28)).alloc (.cells #[.string bk, .int .u64 bs, .bool bd, .string bv] 28))) := ((Below.refl _ _).alloc (Nat.le_refl _) _).alloc (by simp) _
  have HD2 : Hid (DirE ((w.alloc (.cells #[.string ak, .int .u64 as_, .bool ad, .string av] 28)).alloc (.cells #[.string bk, .int .u64 bs, .bool bd, .string bv] 28)) h B o) := hd.below HBW.out
  have c0 := HD2.out.less
  have HCL : Hid (∀ W, DirE W h B o → Calls Try.prog 6 #[.agg #[.string ak, .int .u64 as_, .bool ad, .string av], .agg #[.string bk, .int .u64 bs, .bool bd, .string bv], .pointer (some ⟨B, 0, none⟩)] W fun e w' => e = .returned (.bool (lessE o (ak, as_, ad, av) (bk, bs, bd, bv))) ∧ Below W.heap.size W w') := fun W hW => clo_any o (ak, as_, ad, av) (bk, bs, bd, bv) B W hW.ltB hW.cap
  have HDD : Hid (DirE (World.drew ((w.alloc (.cells #[.string ak, .int .u64 as_, .bool ad, .string av] 28)).alloc (.cells #[.string bk, .int .u64 bs, .bool bd, .string bv] 28))) h B o) := HD2.out.below ⟨rfl, rfl, rfl, Nat.le_refl _, fun _ _ => rfl⟩
  clear hd
  generalize lessE o (ak, as_, ad, av) (bk, bs, bd, bv) = r at *
  unfold entV
  go_enter Try.func17, Try.ntmps17
  go_wp2
  go_region_law (first
    | (go_simp; go_at_call 6; go_loud (refine (HCL.out _ (HDD.out)).mono ?_; rintro e w9 ⟨rfl, hb9⟩; have HB9 : Hid (Below w.heap.size w w9) := HBW.out.drew.trans (hb9.mono HBW.out.size); clear hb9)))
  all_goals go_wp2
  all_goals go_ret
  all_goals exact ⟨rfl, HB9.out⟩

end Ehp
end Go.Proofs.Ytpappjcbeibhiaa
