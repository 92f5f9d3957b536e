import Derived.Test.YtcioaoanhmpdkaaProg
import Derived.Test.YtcioaoanhmpdkaaChk
import Derived.WalkKit
import Derived.WalkSpells
import Derived.WalkLawsBesides
import Derived.Deep.QuietTactic
import Derived.BigQuiet
import Derived.Deep.RegionHeld3
import Derived.Deep.DrawnRows
namespace Go.Proofs.Ytcioaoanhmpdkaa
namespace Wei
open Go.RowKit KMath Cmp Ent Chk
set_option linter.unusedVariables false
attribute [local go_sem ↓] Go.wp_at_zero Go.wp_at_succ

/-- What an entry weighs (P1.4), as an int goes. -/
def wt (k : ByteArray) (d : Bool) (v : ByteArray) : Int := wrap64 (wrap64 (wrap64 (2 * (k.size : Int)) + ((val d v).size : Int)) + 448)

theorem wt_del (k v : ByteArray) : wt k true v = wrap64 (wrap64 (2 * (k.size : Int)) + 448) := by
  have e : ((val true v).size : Int) = 0 := rfl
  unfold wt
  rw [e]
  unfold wrap64
  omega
theorem wt_put (k v : ByteArray) : wt k false v = wrap64 (wrap64 (wrap64 (2 * (k.size : Int)) + (v.size : Int)) + 448) := rfl
theorem val_val (d : Bool) (v : ByteArray) : val d (val d v) = val d v := by cases d <;> rfl
theorem wt_val (k : ByteArray) (d : Bool) (v : ByteArray) : wt k d (val d v) = wt k d v := by unfold wt; rw [val_val]

set_option maxHeartbeats 1000000 in
theorem weight_any (k : ByteArray) (s : Int) (d : Bool) (v : ByteArray) (w : World) :
    Calls Try.prog 87 #[entV k s d v] w fun e w' => e = .returned (.int .i64 (wt k d v)) ∧ Below w.heap.size w w' := by
  unfold wt
  go_enter Try.func87, Try.ntmps87
  go_wp2
  go_quiet ((go_at_call 97; exact Calls.quiet_of_same (value_any _ _ _)))
  go_wp2
  go_ret
  exact ⟨rfl, below_drewN ((Below.refl _ _).alloc (Nat.le_refl _) _) nq⟩

set_option maxHeartbeats 1000000 in
theorem entry_any (s : Int) (k : ByteArray) (d : Bool) (v : ByteArray) (w : World) :
    Calls Try.prog 85 #[.int .u64 s, .agg #[.string k, .bool d, .string v]] w fun e w' => e = .returned (entV k s d (val d v)) ∧ Below w.heap.size w w' := by
  go_enter Try.func85, Try.ntmps85
  go_wp2
  go_region_held3 (fun w' => w'.cell? ⟨w.heap.size, 0, none⟩ = some (.string k) ∧ w'.cell? ⟨w.heap.size, 1, none⟩ = some (.bool d) ∧ w'.cell? ⟨w.heap.size, 2, none⟩ = some (.string v)) (simp [go_sem, World.cell?_alloc_past])
    (first
      | (go_at_call 97; refine (value_any _ _ _).mono ?_; rintro e w' ⟨rfl, hw⟩; have hw2 := hw.symm; clear hw; subst hw2))
  go_wp2
  exact bodyPost_ret (v := entV k s d (val d v)) (by simp [results, Try.results85, go_sem]) rfl ⟨rfl, (((Below.refl _ _).alloc (Nat.le_refl _) _).alloc (by simp) _).drew⟩

theorem wrapEq (x : Int) : IntKind.i64.wrap x = wrap64 x := by rw [IntKind.wrap_i64]; unfold wrap64; rfl

/-- The sum of weights, as an int goes. -/
def sumF (l : List Wr) : Int := l.foldl (fun s x => wrap64 (s + wt x.1 x.2.1 x.2.2)) 0
theorem sumF_take {l : List Wr} {k : Nat} {x : Wr} (hx : l[k]? = some x) : sumF (l.take (k + 1)) = wrap64 (sumF (l.take k) + wt x.1 x.2.1 x.2.2) := by
  obtain ⟨hk, rfl⟩ := List.getElem?_eq_some_iff.1 hx
  unfold sumF
  rw [List.take_succ_eq_append_getElem hk, List.foldl_append]
  rfl

end Wei
end Go.Proofs.Ytcioaoanhmpdkaa
