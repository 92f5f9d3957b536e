import Derived.Test.YtnhhalabmmcemaaDoorBl4
import Derived.Test.YtnhhalabmmcemaaDoorQb7
import Derived.Lib.SmallJoins
import Derived.Test.YtnhhalabmmcemaaDoorProg
import Derived.Test.YtnhhalabmmcemaaDoorBat7
import Derived.WalkKit
import Derived.WalkSpells
import Derived.WalkLawsBesides
import Derived.Deep.QuietTactic
import Derived.BigQuiet
import Derived.Deep.RegionHeld3
import Derived.Deep.DrawnRows
import Derived.Deep.RegionWith
namespace Go.Proofs.YtnhhalabmmcemaaDoor
namespace Tbl
open Go.RowKit CMath Byt Laws Irw Crw Cod Qb
set_option linter.unusedVariables false
set_option linter.unusedSimpArgs false
set_option maxRecDepth 20000

/-- What the index says of a data block. -/
def ixV (p n : Nat) : ByteArray := ofB (num p ++ num n)
/-- A block that was made first is still there. -/
theorem first_keep {w w2 : World} {cs : Array Value} {ty : TypeId} (hb : Below (w.alloc (.cells cs ty)).heap.size (w.alloc (.cells cs ty)) w2) : Below w.heap.size w w2 ∧ (∀ j, w2.cell? ⟨w.heap.size, j, none⟩ = cs[j]?) ∧ ∀ j, w2.frozen? ⟨w.heap.size, j, none⟩ = false := by
  have hs0 : (w.alloc (.cells cs ty)).heap.size = w.heap.size + 1 := by simp
  have hB0 : Below w.heap.size w (w.alloc (.cells cs ty)) := (Below.refl _ _).alloc (Nat.le_refl _) _
  rw [hs0] at hb
  refine ⟨hB0.trans (hb.mono (by omega)), fun j => ?_, fun j => ?_⟩
  · rw [hb.cell (p := ⟨w.heap.size, j, none⟩) (by show w.heap.size < _; omega), World.cell?_alloc_at _ _ _ _ rfl]
  · rw [World.frozen?_of_block (a := ⟨w.heap.size, j, none⟩) (hb.block w.heap.size (by omega))]; simp
theorem below_goes {u : Nat → Prop} {T T' : Nat → Nat} {W w w' : World} (hb : Below W.heap.size W w) (hg : Goes u T w T' w') (h0 : ∀ b, b < W.heap.size → ¬ u (T b)) : Below W.heap.size W w' :=
  ⟨hg.os.trans hb.os, hg.tape.trans hb.tape, hg.output.trans hb.output, Nat.le_trans hb.size hg.size, fun b hb' => (hg.block b (Nat.lt_of_lt_of_le hb' hb.size) (h0 b hb')).trans (hb.block b hb')⟩
set_option maxHeartbeats 1000000 in
theorem indexEntry_any (g : ByteArray) (p n : Nat) (w : World) (hp : p < 9223372036854775808) (hn : n < 9223372036854775808) :
    Calls Tryd.prog 59 #[.string g, .int .i64 (p : Int), .int .i64 (n : Int)] w fun e w' => e = .returned (.agg #[.string g, .int .u64 0, .bool false, .string (ixV p n)]) ∧ Below w.heap.size w w' := by
  have e1 : (p : Int) % 18446744073709551616 = (p : Int) := by omega
  have e2 : (n : Int) % 18446744073709551616 = (n : Int) := by omega
  go_enter Tryd.func59, Tryd.ntmps59
  go_wp2_with (first
    | (go_at_call 64; revert HO1; intro HO1; go_loud (refine (putUint_n (some ⟨g1, 0, none⟩) c1 _ (num p) n w1 HO1.out (fun h => nomatch h) (by have := num_le10 (show p < 18446744073709551616 by omega); omega) (by omega) rfl).mono ?_; rintro e w2 ⟨v2, rfl, ho2, hb2⟩; obtain ⟨g2, c2, rfl, _, _, _, hi2⟩ := ho2.isB; obtain ⟨hbb, hcc, hff⟩ := first_keep (HB1.out.trans (hb2.mono HB1.out.size)); have HB : Hid (Below w.heap.size w w2) := hbb; have k0 : w2.cell? ⟨w.heap.size, 0, none⟩ = some (.string ⟨#[]⟩) := hcc 0; have k1 : w2.cell? ⟨w.heap.size, 1, none⟩ = some (.int .u64 0) := hcc 1; have k2 : w2.cell? ⟨w.heap.size, 2, none⟩ = some (.bool false) := hcc 2; have k3 : w2.cell? ⟨w.heap.size, 3, none⟩ = some (.string ⟨#[]⟩) := hcc 3; have f0 := hff 0; have f1 := hff 1; have f2 := hff 2; have f3 := hff 3; have hcv : (convert 25 9 (.slice (some ⟨g2, 0, none⟩) (num p ++ num n).length c2)).run Tryd.prog w2 = .ok (.string (ixV p n)) w2 := conv_back w2 _ _ _ _ hi2 rfl; rw [List.length_append] at hcv; clear ho2 hb2 hi2 hbb hcc hff HB1))
    | (go_at_call 64; go_loud (refine (put_nil p _ (by omega)).mono ?_; rintro e w1 ⟨g1, c1, rfl, hi1, hb1⟩; have HO1 : Hid (IsB w1 (some ⟨g1, 0, none⟩) (num p)) := hi1; have HB1 : Hid (Below (w.alloc (.cells #[.string ⟨#[]⟩, .int .u64 0, .bool false, .string ⟨#[]⟩] 43)).heap.size (w.alloc (.cells #[.string ⟨#[]⟩, .int .u64 0, .bool false, .string ⟨#[]⟩] 43)) w1) := hb1; clear hi1 hb1)))
  have h4 := four_set (w := w2) (.string g) (.int .u64 0) (.bool false) (.string (ixV p n)) k0 k1 k2 k3
  refine bodyPost_ret (v := .agg #[.string g, .int .u64 0, .bool false, .string (ixV p n)]) (by simp [results, Tryd.results59, go_sem, h4.1, h4.2.1, h4.2.2.1, h4.2.2.2]) rfl ⟨rfl, four_below _ _ _ _ HB.out (Nat.le_refl _)⟩

/-- Why an entry isn't taken whose key doesn't rise. -/
def why (e : En) : Int := if adds ⟨#[]⟩ e ≠ 0 then adds ⟨#[]⟩ e else 100
set_option maxHeartbeats 1000000 in
theorem whyNot_any (k : ByteArray) (s : Nat) (d : Bool) (x : ByteArray) (w : World) (hk : k.size ≤ 1000000) (hx : x.size ≤ 1000000) :
    Calls Tryd.prog 56 #[.agg #[.string k, .int .u64 (s : Int), .bool d, .string x]] w fun e w' => e = .returned (.int .i64 (why (k, (s : Int), d, x))) ∧ Below w.heap.size w w' := by
  have hk0 : ∀ j, (w.alloc (.cells #[.string k, .int .u64 (s : Int), .bool d, .string x] 43)).cell? ⟨w.heap.size, j, none⟩ = (#[Value.string k, .int .u64 (s : Int), .bool d, .string x])[j]? := fun j => by rw [World.cell?_alloc_at _ _ _ _ rfl]
  have HX : Hid (∀ W, Below (w.alloc (.cells #[.string k, .int .u64 (s : Int), .bool d, .string x] 43)).heap.size (w.alloc (.cells #[.string k, .int .u64 (s : Int), .bool d, .string x] 43)) W → W.cell? ⟨w.heap.size, 0, none⟩ = some (.string k) ∧ W.cell? ⟨w.heap.size, 1, none⟩ = some (.int .u64 (s : Int)) ∧ W.cell? ⟨w.heap.size, 2, none⟩ = some (.bool d) ∧ W.cell? ⟨w.heap.size, 3, none⟩ = some (.string x)) := fun W hW => ⟨(first_keep hW).2.1 0, (first_keep hW).2.1 1, (first_keep hW).2.1 2, (first_keep hW).2.1 3⟩
  have HX0 := HX.out _ (Below.refl _ _)
  have HADD : Hid (∀ T W M, Hi T W → MakerAt 1 T W M 1 st0 → Calls Tryd.prog 57 #[.pointer (some ⟨M, 0, none⟩), .agg #[.string k, .int .u64 (s : Int), .bool d, .string x]] W fun e w' => AddIs 1 T W M 1 st0 (k, (s : Int), d, x) e w') := fun T W M hi hm => add_any 1 T W M 1 st0 k s d x hm hi (by omega) hk hx (by simp [st0]) (by simp [st0]) (by simp [st0]) (by omega)
  by_cases ha : adds ⟨#[]⟩ (k, (s : Int), d, x) = 0
  · have g0 : (adds st0.last (k, (s : Int), d, x) != 0) = false := by show (adds ⟨#[]⟩ _ != 0) = false; simp [ha]
    have hw : why (k, (s : Int), d, x) = 100 := by unfold why; rw [if_neg (by simpa using ha)]
    rw [hw]
    go_enter Tryd.func56, Tryd.ntmps56
    go_wp2
    go_region_held3 (fun W => W.cell? ⟨w.heap.size, 0, none⟩ = some (.string k) ∧ W.cell? ⟨w.heap.size, 1, none⟩ = some (.int .u64 (s : Int)) ∧ W.cell? ⟨w.heap.size, 2, none⟩ = some (.bool d) ∧ W.cell? ⟨w.heap.size, 3, none⟩ = some (.string x)) (first | assumption | exact HX0)
      (first
      | (go_at_call 33; go_loud (refine (newMaker_any 1 (fun _ => 0) _ 1).mono ?_; rintro r w5 ⟨rfl, hm5, hb5', hs5⟩; have hb5 : Below (w.alloc (.cells #[.string k, .int .u64 (s : Int), .bool d, .string x] 43)).heap.size (w.alloc (.cells #[.string k, .int .u64 (s : Int), .bool d, .string x] 43)) w5 := (by first | exact hb5' | exact ((Below.refl _ _).drew).trans hb5'); have hS5 := HX.out w5 hb5; clear hb5'; have HM5 : Hid (MakerAt 1 (upd (fun _ => 0) (w.heap.size + 1) 1) w5 (w.heap.size + 1) 1 st0) := Qb.hid (by simpa using hm5); have HB5 := Qb.hid hb5; have HS5 : Hid (w5.heap.size = w.heap.size + 2) := Qb.hid (by simpa using hs5); clear hm5 hb5 hs5))
      | (go_at_call 57; go_loud (refine (HADD.out (upd (fun _ => 0) (w.heap.size + 1) 1) w5 (w.heap.size + 1) (fun b hb => upd_other _ _ (by have := HS5.out; omega)) HM5.out).mono ?_; rintro r w6 ⟨T6, rfl, hm6, hg6⟩; have hb6 := below_goes HB5.out hg6 (fun b hb => (by rw [upd_other _ _ (by simp at hb; omega)]; simp [Mk])); have hS6 := HX.out w6 hb6; have HB6 : Hid (Below w.heap.size w w6) := (first_keep hb6).1; clear hm6 hg6 hb6)))
    all_goals (
      clear hS5 hS6 HX0
      go_wp2
      go_ret
      exact ⟨rfl, HB6.out⟩)
  · have g0 : (adds st0.last (k, (s : Int), d, x) != 0) = true := by show (adds ⟨#[]⟩ _ != 0) = true; simp [ha]
    have hw : why (k, (s : Int), d, x) = adds ⟨#[]⟩ (k, (s : Int), d, x) := by unfold why; rw [if_pos ha]
    rw [hw]
    go_enter Tryd.func56, Tryd.ntmps56
    go_wp2
    go_region_held3 (fun W => W.cell? ⟨w.heap.size, 0, none⟩ = some (.string k) ∧ W.cell? ⟨w.heap.size, 1, none⟩ = some (.int .u64 (s : Int)) ∧ W.cell? ⟨w.heap.size, 2, none⟩ = some (.bool d) ∧ W.cell? ⟨w.heap.size, 3, none⟩ = some (.string x)) (first | assumption | exact HX0)
      (first
      | (go_at_call 33; go_loud (refine (newMaker_any 1 (fun _ => 0) _ 1).mono ?_; rintro r w5 ⟨rfl, hm5, hb5', hs5⟩; have hb5 : Below (w.alloc (.cells #[.string k, .int .u64 (s : Int), .bool d, .string x] 43)).heap.size (w.alloc (.cells #[.string k, .int .u64 (s : Int), .bool d, .string x] 43)) w5 := (by first | exact hb5' | exact ((Below.refl _ _).drew).trans hb5'); have hS5 := HX.out w5 hb5; clear hb5'; have HM5 : Hid (MakerAt 1 (upd (fun _ => 0) (w.heap.size + 1) 1) w5 (w.heap.size + 1) 1 st0) := Qb.hid (by simpa using hm5); have HB5 := Qb.hid hb5; have HS5 : Hid (w5.heap.size = w.heap.size + 2) := Qb.hid (by simpa using hs5); clear hm5 hb5 hs5))
      | (go_at_call 57; go_loud (refine (HADD.out (upd (fun _ => 0) (w.heap.size + 1) 1) w5 (w.heap.size + 1) (fun b hb => upd_other _ _ (by have := HS5.out; omega)) HM5.out).mono ?_; rintro r w6 ⟨T6, rfl, hm6, hg6⟩; have hb6 := below_goes HB5.out hg6 (fun b hb => (by rw [upd_other _ _ (by simp at hb; omega)]; simp [Mk])); have hS6 := HX.out w6 hb6; have HB6 : Hid (Below w.heap.size w w6) := (first_keep hb6).1; clear hm6 hg6 hb6)))
    all_goals (
      clear hS5 hS6 HX0
      go_wp2
      go_ret
      exact ⟨rfl, HB6.out⟩)

/-- What is held while sumOf's loop goes on. -/
structure So (w : World) (x k : Nat) (W : World) : Prop where
  below : Below w.heap.size w W
  size : W.heap.size = w.heap.size + 1
  blk : Blo.Blk W w.heap.size ((four x).take k ++ List.replicate (4 - k) 0)
theorem So.next {w W : World} {x k : Nat} (h : So w x k W) (hk : k < 4) : So w x (k + 1) (W.setCell ⟨w.heap.size, k, none⟩ (.int .u8 ((x / 256 ^ k % 256 : Nat) : Int))) := by
  refine ⟨h.below.setCell (p := ⟨w.heap.size, k, none⟩) (Nat.le_refl _) _, by simpa using h.size, ?_⟩
  have e : (four x).take (k + 1) ++ List.replicate (4 - (k + 1)) 0 = ((four x).take k ++ List.replicate (4 - k) 0).set k (x / 256 ^ k % 256) := by
    unfold four
    match k, hk with
    | 0, _ => simp
    | 1, _ => simp
    | 2, _ => simp
    | 3, _ => simp
  rw [e]
  exact h.blk.set rfl
set_option maxHeartbeats 1000000 in
theorem sumOf_any (a : Option Addr) (cap n : Nat) (l : List Nat) (w : World) (ha : IsB w a l) (ht : Tab w) (hlen : l.length ≤ 9223372036854775807) (hn : n = l.length) :
    Calls Tryd.prog 25 #[.slice a n cap] w fun e w' => e = .returned (.slice (some ⟨w.heap.size, 0, none⟩) 4 4) ∧ So w (crc l) 4 w' := by
  have HS : Hid (Calls Tryd.prog 43 #[.slice a n cap] w fun e w' => e = .returned (.int .u32 ((crc l : Nat) : Int)) ∧ w' = w) := sum_any a cap n l w ha ht hlen hn
  generalize crc l = x at *
  clear ha ht hlen hn
  obtain ⟨i0, hi0, hz0, hz1, hz2⟩ := info_parts info8'
  obtain ⟨W1, hmk, hS1⟩ : ∃ W1 : World, (Instr.makeSlice 25 (.int .i64 4) (.int .i64 4)).run Tryd.prog w = .ok (.slice (some ⟨w.heap.size, 0, none⟩) 4 4) W1 ∧ So w x 0 W1 := by
    have hr := run_make (P := Tryd.prog) w 25 5 i0 (.int .u8 0) Tryd.underlying25 hi0 hz0 .i64 .i64 4 4 (by omega) (by omega) (by rw [hz2]; omega) (by omega)
    rw [hz1] at hr
    refine ⟨_, hr, (Below.refl _ _).alloc (Nat.le_refl _) _, by simp, ?_⟩
    have h3 := World.alloc_heap_new w (.cells (madeCells (Value.int .u8 0).cells 4) 5)
    unfold Blo.Blk
    have e1 : madeCells (Value.int .u8 0).cells 4 = (cellsB ((four x).take 0 ++ List.replicate (4 - 0) 0)).toArray := by
      apply Array.toList_inj.1
      have h4 := toList_madeCells_one (.int .u8 0) 4
      rw [show (Value.int .u8 0).cells = #[Value.int .u8 0] from rfl, h4]
      simp [cellsB]
    rw [← e1]
    exact h3
  have HS1 : Hid (So w x 0 W1) := hS1
  clear hS1 hi0 hz0 hz1 hz2
  go_enter Tryd.func25, Tryd.ntmps25
  go_wp2_with (go_at_call 43; go_loud (refine HS.out.mono ?_; rintro e w' ⟨rfl, hw⟩; have hw2 := hw.symm; clear hw; subst hw2))
  clear hmk HS
  go_loopw [11] (fun i wr => ∃ k : Nat, k ≤ 4 ∧ i = .int .i64 (k : Int) ∧ Hid (So w x k wr)) (fun i _ => 4 - (intOf i).toNat)
  case atStart => exact ⟨0, by omega, rfl, HS1⟩
  case round =>
    obtain ⟨k, hk4, rfl, HI⟩ := hrel
    rename World => wr
    by_cases hlt : k < 4
    · have q1 : (k : Int) < 4 := by omega
      have c1 : ∃ y : Nat, wr.cell? ⟨w.heap.size, k, none⟩ = some (.int .u8 (y : Int)) := by
        obtain ⟨y, hy⟩ : ∃ y, ((four x).take k ++ List.replicate (4 - k) 0)[k]? = some y := ⟨_, List.getElem?_eq_getElem (by simp [four]; omega)⟩
        exact ⟨y, HI.out.blk.cell hy⟩
      obtain ⟨y, c1⟩ := c1
      have c2 : wr.frozen? ⟨w.heap.size, k, none⟩ = false := HI.out.blk.frz
      have hsh : ((x : Int) / 2 ^ (8 * k)) % 256 = ((x / 256 ^ k % 256 : Nat) : Int) := shr_word
      have HN := Qb.hid (HI.out.next hlt)
      go_wp2
      go_roundw
      case rel => exact ⟨k + 1, by omega, by go_num, HN⟩
      case measure => simp [intOf]; omega
    · have hk4' : k = 4 := by omega
      subst hk4'
      go_wp2
      go_ret
      exact ⟨rfl, HI.out⟩

end Tbl
end Go.Proofs.YtnhhalabmmcemaaDoor
namespace Go.Proofs.YtnhhalabmmcemaaDoor
namespace Wei
open Go.RowKit KMath Chk
set_option linter.unusedVariables false
attribute [local go_sem ↓] Go.wp_at_zero Go.wp_at_succ

/-- What an entry weighs (P1.4), as an int goes. -/
def wt (k : ByteArray) (d : Bool) (v : ByteArray) : Int := wrap64 (wrap64 (wrap64 (2 * (k.size : Int)) + ((val d v).size : Int)) + 448)

theorem wt_del (k v : ByteArray) : wt k true v = wrap64 (wrap64 (2 * (k.size : Int)) + 448) := by
  have e : ((val true v).size : Int) = 0 := rfl
  unfold wt
  rw [e]
  unfold wrap64
  omega
theorem wt_put (k v : ByteArray) : wt k false v = wrap64 (wrap64 (wrap64 (2 * (k.size : Int)) + (v.size : Int)) + 448) := rfl
theorem val_val (d : Bool) (v : ByteArray) : val d (val d v) = val d v := by cases d <;> rfl
theorem wt_val (k : ByteArray) (d : Bool) (v : ByteArray) : wt k d (val d v) = wt k d v := by unfold wt; rw [val_val]

set_option maxHeartbeats 1000000 in
theorem weight_any (k : ByteArray) (s : Int) (d : Bool) (v : ByteArray) (w : World) :
    Calls Tryd.prog 58 #[entV k s d v] w fun e w' => e = .returned (.int .i64 (wt k d v)) ∧ Below w.heap.size w w' := by
  unfold wt
  go_enter Tryd.func58, Tryd.ntmps58
  go_wp2
  go_quiet ((go_at_call 82; exact Calls.quiet_of_same (value_any _ _ _)))
  go_wp2
  go_ret
  exact ⟨rfl, below_drewN ((Below.refl _ _).alloc (Nat.le_refl _) _) nq⟩

theorem wrapEq (x : Int) : IntKind.i64.wrap x = wrap64 x := by rw [IntKind.wrap_i64]; unfold wrap64; rfl

/-- The sum of weights, as an int goes. -/
def sumF (l : List Wr) : Int := l.foldl (fun s x => wrap64 (s + wt x.1 x.2.1 x.2.2)) 0
theorem sumF_take {l : List Wr} {k : Nat} {x : Wr} (hx : l[k]? = some x) : sumF (l.take (k + 1)) = wrap64 (sumF (l.take k) + wt x.1 x.2.1 x.2.2) := by
  obtain ⟨hk, rfl⟩ := List.getElem?_eq_some_iff.1 hx
  unfold sumF
  rw [List.take_succ_eq_append_getElem hk, List.foldl_append]
  rfl

end Wei
end Go.Proofs.YtnhhalabmmcemaaDoor
namespace Go.Proofs.YtnhhalabmmcemaaDoor
namespace Tbl
open Go.RowKit CMath Byt Laws Irw Crw Cod Qb
set_option linter.unusedVariables false
set_option linter.unusedSimpArgs false
set_option maxRecDepth 20000

/-- What is known of a table. -/
structure Mt where
  wt : Int
  by_ : Int
  n : Nat
  lo : ByteArray
  hi : ByteArray
def Mt.cells (m : Mt) : Array Value := #[.int .u64 0, .int .i64 m.wt, .int .i64 m.by_, .int .i64 (m.n : Int), .string m.lo, .string m.hi]
def mt0 : Mt := ⟨0, 0, 0, ⟨#[]⟩, ⟨#[]⟩⟩
/-- With one entry more. -/
def Mt.more (m : Mt) (e : En) : Mt := ⟨wrap64 (m.wt + Wei.wt e.1 e.2.2.1 e.2.2.2), m.by_, m.n + 1, if m.n = 0 then e.1 else m.lo, e.1⟩
/-- Three blocks that were made, one behind the other. -/
structure Bx3 (w : World) (c0 c1 c2 : Array Value) (W : World) : Prop where
  below : Below w.heap.size w W
  size : w.heap.size + 3 ≤ W.heap.size
  b0 : W.heap[w.heap.size]? = some (.cells c0 28)
  b1 : W.heap[w.heap.size + 1]? = some (.cells c1 43)
  b2 : W.heap[w.heap.size + 2]? = some (.cells c2 28)
theorem Bx3.on {w W W' : World} {c0 c1 c2 : Array Value} (h : Bx3 w c0 c1 c2 W) (hb : Below W.heap.size W W') : Bx3 w c0 c1 c2 W' :=
  ⟨h.below.trans (hb.mono h.below.size), Nat.le_trans h.size hb.size, (hb.block _ (by have := h.size; omega)).trans h.b0, (hb.block _ (by have := h.size; omega)).trans h.b1, (hb.block _ (by have := h.size; omega)).trans h.b2⟩
theorem cell_of {W : World} {b : Nat} {cs : Array Value} {t : TypeId} (h : W.heap[b]? = some (.cells cs t)) (i : Nat) : W.cell? ⟨b, i, none⟩ = cs[i]? := Blo.cell_of_obj h
theorem froz_of {W : World} {b : Nat} {cs : Array Value} {t : TypeId} (h : W.heap[b]? = some (.cells cs t)) (i : Nat) : W.frozen? ⟨b, i, none⟩ = false := Blo.froz_of_obj h
theorem three_keep {w W' : World} {c0 c1 c2 : Array Value} (hb : Below (((w.alloc (.cells c0 28)).alloc (.cells c1 43)).alloc (.cells c2 28)).heap.size (((w.alloc (.cells c0 28)).alloc (.cells c1 43)).alloc (.cells c2 28)) W') : Bx3 w c0 c1 c2 W' := by
  have h1 := World.alloc_heap_new w (.cells c0 28)
  have h2 := World.alloc_heap_new (w.alloc (.cells c0 28)) (.cells c1 43)
  have h3 := World.alloc_heap_new ((w.alloc (.cells c0 28)).alloc (.cells c1 43)) (.cells c2 28)
  have b1 : Below w.heap.size w (w.alloc (.cells c0 28)) := (Below.refl _ _).alloc (Nat.le_refl _) _
  have b2 : Below (w.alloc (.cells c0 28)).heap.size (w.alloc (.cells c0 28)) ((w.alloc (.cells c0 28)).alloc (.cells c1 43)) := (Below.refl _ _).alloc (Nat.le_refl _) _
  have b3 : Below ((w.alloc (.cells c0 28)).alloc (.cells c1 43)).heap.size ((w.alloc (.cells c0 28)).alloc (.cells c1 43)) (((w.alloc (.cells c0 28)).alloc (.cells c1 43)).alloc (.cells c2 28)) := (Below.refl _ _).alloc (Nat.le_refl _) _
  have s1 : (w.alloc (.cells c0 28)).heap.size = w.heap.size + 1 := by simp
  have s2 : ((w.alloc (.cells c0 28)).alloc (.cells c1 43)).heap.size = w.heap.size + 2 := by simp
  have s3 : (((w.alloc (.cells c0 28)).alloc (.cells c1 43)).alloc (.cells c2 28)).heap.size = w.heap.size + 3 := by simp
  generalize (((w.alloc (.cells c0 28)).alloc (.cells c1 43)).alloc (.cells c2 28)) = W3 at *
  generalize ((w.alloc (.cells c0 28)).alloc (.cells c1 43)) = W2 at *
  generalize (w.alloc (.cells c0 28)) = W1 at *
  rw [s1] at h2 b2
  rw [s2] at h3 b3
  exact Bx3.on ⟨b1.trans ((b2.mono (by omega)).trans (b3.mono (by omega))), by omega, (b3.block _ (by omega)).trans ((b2.block _ (by omega)).trans h1), (b3.block _ (by omega)).trans h2, h3⟩ hb
theorem six_below {w w5 : World} {b1 : Nat} {v v0 v1 v2 v3 v4 v5 : Value} (h : Below w.heap.size w w5) : Below w.heap.size w (((((((w5.setCell ⟨w.heap.size, b1, none⟩ v).setCell ⟨w.heap.size + 1 + 1, 0, none⟩ v0).setCell ⟨w.heap.size + 1 + 1, 1, none⟩ v1).setCell ⟨w.heap.size + 1 + 1, 2, none⟩ v2).setCell ⟨w.heap.size + 1 + 1, 3, none⟩ v3).setCell ⟨w.heap.size + 1 + 1, 4, none⟩ v4).setCell ⟨w.heap.size + 1 + 1, 5, none⟩ v5) :=
  ((((((h.setCell (p := ⟨w.heap.size, b1, none⟩) (Nat.le_refl _) _).setCell (p := ⟨w.heap.size + 1 + 1, 0, none⟩) (by show w.heap.size ≤ w.heap.size + 1 + 1; omega) _).setCell (p := ⟨w.heap.size + 1 + 1, 1, none⟩) (by show w.heap.size ≤ w.heap.size + 1 + 1; omega) _).setCell (p := ⟨w.heap.size + 1 + 1, 2, none⟩) (by show w.heap.size ≤ w.heap.size + 1 + 1; omega) _).setCell (p := ⟨w.heap.size + 1 + 1, 3, none⟩) (by show w.heap.size ≤ w.heap.size + 1 + 1; omega) _).setCell (p := ⟨w.heap.size + 1 + 1, 4, none⟩) (by show w.heap.size ≤ w.heap.size + 1 + 1; omega) _).setCell (p := ⟨w.heap.size + 1 + 1, 5, none⟩) (by show w.heap.size ≤ w.heap.size + 1 + 1; omega) _
set_option maxHeartbeats 1000000 in
theorem counted_any (m : Mt) (k : ByteArray) (s : Int) (d : Bool) (v : ByteArray) (w : World) (hn : m.n ≤ 1000000000000) :
    Calls Tryd.prog 35 #[.agg m.cells, .agg #[.string k, .int .u64 s, .bool d, .string v]] w fun e w' => e = .returned (.agg (m.more (k, s, d, v)).cells) ∧ Below w.heap.size w w' := by
  obtain ⟨wt, by_, n, lo, hi⟩ := m
  have hn : n ≤ 1000000000000 := hn
  show Calls Tryd.prog 35 #[.agg #[.int .u64 0, .int .i64 wt, .int .i64 by_, .int .i64 (n : Int), .string lo, .string hi], .agg #[.string k, .int .u64 s, .bool d, .string v]] w fun e w' => e = .returned (.agg #[.int .u64 0, .int .i64 (wrap64 (wt + Wei.wt k d v)), .int .i64 by_, .int .i64 ((n + 1 : Nat) : Int), .string (if n = 0 then k else lo), .string k]) ∧ Below w.heap.size w w'
  by_cases h0 : n = 0
  · subst h0
    rw [if_pos rfl]
    go_enter Tryd.func35, Tryd.ntmps35
    go_wp2
    go_region_with ((go_at_call 58; go_loud (refine (Wei.weight_any k s d v _).mono ?_; rintro e w5 ⟨rfl, hb5'⟩; have hb5 : Below (((w.alloc (.cells #[.int .u64 0, .int .i64 wt, .int .i64 by_, .int .i64 1, .string k, .string k] 28)).alloc (.cells #[.string k, .int .u64 s, .bool d, .string v] 43)).alloc (.cells #[.int .u64 0, .int .i64 0, .int .i64 0, .int .i64 0, .string ⟨#[]⟩, .string ⟨#[]⟩] 28)).heap.size (((w.alloc (.cells #[.int .u64 0, .int .i64 wt, .int .i64 by_, .int .i64 1, .string k, .string k] 28)).alloc (.cells #[.string k, .int .u64 s, .bool d, .string v] 43)).alloc (.cells #[.int .u64 0, .int .i64 0, .int .i64 0, .int .i64 0, .string ⟨#[]⟩, .string ⟨#[]⟩] 28)) w5 := (by first | exact hb5' | exact ((Below.refl _ _).drew).trans hb5'); have hx := three_keep hb5; have y0 : w5.cell? ⟨w.heap.size, 0, none⟩ = some (.int .u64 0) := (cell_of hx.b0 0); have y1 : w5.cell? ⟨w.heap.size, 1, none⟩ = some (.int .i64 wt) := (cell_of hx.b0 1); have y2 : w5.cell? ⟨w.heap.size, 2, none⟩ = some (.int .i64 by_) := (cell_of hx.b0 2); have y3 : w5.cell? ⟨w.heap.size, 3, none⟩ = some (.int .i64 1) := (cell_of hx.b0 3); have y4 : w5.cell? ⟨w.heap.size, 4, none⟩ = some (.string k) := (cell_of hx.b0 4); have y5 : w5.cell? ⟨w.heap.size, 5, none⟩ = some (.string k) := (cell_of hx.b0 5); have z0 : w5.cell? ⟨w.heap.size + 1 + 1, 0, none⟩ = some (.int .u64 0) := (cell_of hx.b2 0); have z1 : w5.cell? ⟨w.heap.size + 1 + 1, 1, none⟩ = some (.int .i64 0) := (cell_of hx.b2 1); have z2 : w5.cell? ⟨w.heap.size + 1 + 1, 2, none⟩ = some (.int .i64 0) := (cell_of hx.b2 2); have z3 : w5.cell? ⟨w.heap.size + 1 + 1, 3, none⟩ = some (.int .i64 0) := (cell_of hx.b2 3); have z4 : w5.cell? ⟨w.heap.size + 1 + 1, 4, none⟩ = some (.string ⟨#[]⟩) := (cell_of hx.b2 4); have z5 : w5.cell? ⟨w.heap.size + 1 + 1, 5, none⟩ = some (.string ⟨#[]⟩) := (cell_of hx.b2 5); have f1 : w5.frozen? ⟨w.heap.size, 1, none⟩ = false := froz_of hx.b0 1; have g0 : w5.frozen? ⟨w.heap.size + 1 + 1, 0, none⟩ = false := froz_of hx.b2 0; have g1 : w5.frozen? ⟨w.heap.size + 1 + 1, 1, none⟩ = false := froz_of hx.b2 1; have g2 : w5.frozen? ⟨w.heap.size + 1 + 1, 2, none⟩ = false := froz_of hx.b2 2; have g3 : w5.frozen? ⟨w.heap.size + 1 + 1, 3, none⟩ = false := froz_of hx.b2 3; have g4 : w5.frozen? ⟨w.heap.size + 1 + 1, 4, none⟩ = false := froz_of hx.b2 4; have g5 : w5.frozen? ⟨w.heap.size + 1 + 1, 5, none⟩ = false := froz_of hx.b2 5; have HB5 : Hid (Below w.heap.size w w5) := hx.below; clear hb5 hb5' hx)))
    all_goals (
      go_wp2
      exact bodyPost_ret (v := .agg #[.int .u64 0, .int .i64 (wrap64 (wt + Wei.wt k d v)), .int .i64 by_, .int .i64 1, .string k, .string k]) (by simp [results, Tryd.results35, go_sem, y0, y1, y2, y3, y4, y5, z0, z1, z2, z3, z4, z5]) rfl ⟨rfl, six_below HB5.out⟩)
  · rw [if_neg h0]
    have q0 : ¬ ((n : Int) = 0) := by omega
    go_enter Tryd.func35, Tryd.ntmps35
    go_wp2
    go_region_with ((go_at_call 58; go_loud (refine (Wei.weight_any k s d v _).mono ?_; rintro e w5 ⟨rfl, hb5'⟩; have hb5 : Below (((w.alloc (.cells #[.int .u64 0, .int .i64 wt, .int .i64 by_, .int .i64 ((n : Int) + 1), .string lo, .string k] 28)).alloc (.cells #[.string k, .int .u64 s, .bool d, .string v] 43)).alloc (.cells #[.int .u64 0, .int .i64 0, .int .i64 0, .int .i64 0, .string ⟨#[]⟩, .string ⟨#[]⟩] 28)).heap.size (((w.alloc (.cells #[.int .u64 0, .int .i64 wt, .int .i64 by_, .int .i64 ((n : Int) + 1), .string lo, .string k] 28)).alloc (.cells #[.string k, .int .u64 s, .bool d, .string v] 43)).alloc (.cells #[.int .u64 0, .int .i64 0, .int .i64 0, .int .i64 0, .string ⟨#[]⟩, .string ⟨#[]⟩] 28)) w5 := (by first | exact hb5' | exact ((Below.refl _ _).drew).trans hb5'); have hx := three_keep hb5; have y0 : w5.cell? ⟨w.heap.size, 0, none⟩ = some (.int .u64 0) := (cell_of hx.b0 0); have y1 : w5.cell? ⟨w.heap.size, 1, none⟩ = some (.int .i64 wt) := (cell_of hx.b0 1); have y2 : w5.cell? ⟨w.heap.size, 2, none⟩ = some (.int .i64 by_) := (cell_of hx.b0 2); have y3 : w5.cell? ⟨w.heap.size, 3, none⟩ = some (.int .i64 ((n : Int) + 1)) := (cell_of hx.b0 3); have y4 : w5.cell? ⟨w.heap.size, 4, none⟩ = some (.string lo) := (cell_of hx.b0 4); have y5 : w5.cell? ⟨w.heap.size, 5, none⟩ = some (.string k) := (cell_of hx.b0 5); have z0 : w5.cell? ⟨w.heap.size + 1 + 1, 0, none⟩ = some (.int .u64 0) := (cell_of hx.b2 0); have z1 : w5.cell? ⟨w.heap.size + 1 + 1, 1, none⟩ = some (.int .i64 0) := (cell_of hx.b2 1); have z2 : w5.cell? ⟨w.heap.size + 1 + 1, 2, none⟩ = some (.int .i64 0) := (cell_of hx.b2 2); have z3 : w5.cell? ⟨w.heap.size + 1 + 1, 3, none⟩ = some (.int .i64 0) := (cell_of hx.b2 3); have z4 : w5.cell? ⟨w.heap.size + 1 + 1, 4, none⟩ = some (.string ⟨#[]⟩) := (cell_of hx.b2 4); have z5 : w5.cell? ⟨w.heap.size + 1 + 1, 5, none⟩ = some (.string ⟨#[]⟩) := (cell_of hx.b2 5); have f1 : w5.frozen? ⟨w.heap.size, 1, none⟩ = false := froz_of hx.b0 1; have g0 : w5.frozen? ⟨w.heap.size + 1 + 1, 0, none⟩ = false := froz_of hx.b2 0; have g1 : w5.frozen? ⟨w.heap.size + 1 + 1, 1, none⟩ = false := froz_of hx.b2 1; have g2 : w5.frozen? ⟨w.heap.size + 1 + 1, 2, none⟩ = false := froz_of hx.b2 2; have g3 : w5.frozen? ⟨w.heap.size + 1 + 1, 3, none⟩ = false := froz_of hx.b2 3; have g4 : w5.frozen? ⟨w.heap.size + 1 + 1, 4, none⟩ = false := froz_of hx.b2 4; have g5 : w5.frozen? ⟨w.heap.size + 1 + 1, 5, none⟩ = false := froz_of hx.b2 5; have HB5 : Hid (Below w.heap.size w w5) := hx.below; clear hb5 hb5' hx)))
    all_goals (
      go_wp2
      exact bodyPost_ret (v := .agg #[.int .u64 0, .int .i64 (wrap64 (wt + Wei.wt k d v)), .int .i64 by_, .int .i64 ((n : Int) + 1), .string lo, .string k]) (by simp [results, Tryd.results35, go_sem, y0, y1, y2, y3, y4, y5, z0, z1, z2, z3, z4, z5]) rfl ⟨rfl, six_below HB5.out⟩)

end Tbl
end Go.Proofs.YtnhhalabmmcemaaDoor
namespace Go.Proofs.YtnhhalabmmcemaaDoor
namespace Tbl
open Go.RowKit CMath Byt Laws Irw Crw Cod Qb
set_option linter.unusedVariables false
set_option linter.unusedSimpArgs false
set_option maxRecDepth 20000

/-- A string as it lies in a row. -/
def kT : Knd ByteArray := ⟨9, 1, 16, .string ⟨#[]⟩, fun x => [.string x], fun _ => rfl, fun x u hu => by simp at hu; subst hu; rfl, by omega, rfl, by omega⟩
/-- A table's maker, as the document has it. -/
structure Ts where
  cur : St
  idx : St
  keys : List ByteArray
  laid : List Nat
  mt : Mt
  ended : Bool
def ts0 : Ts := ⟨st0, st0, [], [], mt0, false⟩
/-- The tags of a table's maker. -/
def Tk (t : Nat) : Nat → Prop := fun x => t ≤ x ∧ x ≤ t + 8
/-- A table's maker as it lies: tag t itself, t + 1 the block under way, t + 4 the index, t + 7 the keys, t + 8 what was answered. -/
structure TmAt (t : Nat) (T : Nat → Nat) (w : World) (M : Nat) (bb r bits : Int) (S : Ts) : Prop where
  lt : M < w.heap.size
  tag : T M = t
  cur : ∃ C, w.cell? ⟨M, 0, none⟩ = some (.pointer (some ⟨C, 0, none⟩)) ∧ MakerAt (t + 1) T w C r S.cur
  idx : S.ended = false → ∃ I, w.cell? ⟨M, 1, none⟩ = some (.pointer (some ⟨I, 0, none⟩)) ∧ MakerAt (t + 4) T w I r S.idx
  ix : ∃ p, w.cell? ⟨M, 1, none⟩ = some (.pointer p)
  c2 : w.cell? ⟨M, 2, none⟩ = some (.int .i64 bb)
  c3 : w.cell? ⟨M, 3, none⟩ = some (.int .i64 r)
  c4 : w.cell? ⟨M, 4, none⟩ = some (.int .i64 bits)
  keys : ∃ v, w.cell? ⟨M, 5, none⟩ = some v ∧ OwnK kT (t + 7) T w v S.keys
  laid : ∃ v, w.cell? ⟨M, 6, none⟩ = some v ∧ OwnB (t + 8) T w v S.laid
  mt : ∀ j, j < 6 → w.cell? ⟨M, 7 + j, none⟩ = S.mt.cells[j]?
  fin : w.cell? ⟨M, 13, none⟩ = some (.bool S.ended)
  fz : ∀ j, w.frozen? ⟨M, j, none⟩ = false
theorem TmAt.goes {t : Nat} {u : Nat → Prop} {T T' : Nat → Nat} {w w' : World} {M : Nat} {bb r bits : Int} {S : Ts} (p : TmAt t T w M bb r bits S) (hg : Goes u T w T' w') (h0 : ∀ i, i ≤ 8 → ¬ u (t + i)) : TmAt t T' w' M bb r bits S := by
  have e : ¬ u (T M) := by rw [p.tag]; exact h0 0 (by omega)
  obtain ⟨C, hC, hm⟩ := p.cur
  obtain ⟨v5, h5, o5⟩ := p.keys
  obtain ⟨v6, h6, o6⟩ := p.laid
  obtain ⟨q, hq⟩ := p.ix
  have hc : ∀ i, w'.cell? ⟨M, i, none⟩ = w.cell? ⟨M, i, none⟩ := fun i => hg.cell p.lt e
  exact ⟨Nat.lt_of_lt_of_le p.lt hg.size, (hg.tag M p.lt e).trans p.tag, ⟨C, (hc 0).trans hC, hm.goes hg (h0 1 (by omega)) (h0 2 (by omega)) (h0 3 (by omega))⟩,
    fun hE => by
      obtain ⟨I, hI, hi⟩ := p.idx hE
      exact ⟨I, (hc 1).trans hI, hi.goes hg (h0 4 (by omega)) (h0 5 (by omega)) (h0 6 (by omega))⟩,
    ⟨q, (hc 1).trans hq⟩, (hc 2).trans p.c2, (hc 3).trans p.c3, (hc 4).trans p.c4, ⟨v5, (hc 5).trans h5, o5.goes hg (h0 7 (by omega))⟩, ⟨v6, (hc 6).trans h6, o6.goes hg (h0 8 (by omega))⟩,
    fun j hj => (hc _).trans (p.mt j hj), (hc 13).trans p.fin, fun j => (World.frozen?_of_block (a := ⟨M, j, none⟩) (hg.block M p.lt e)).trans (p.fz j)⟩
theorem TmAt.below {t : Nat} {T : Nat → Nat} {w w' : World} {M : Nat} {bb r bits : Int} {S : Ts} (p : TmAt t T w M bb r bits S) (hb : Below w.heap.size w w') : TmAt t T w' M bb r bits S := p.goes (Goes.below (t := fun _ => False) hb) (fun _ _ z => z)
/-- The block under way goes on. -/
theorem TmAt.setCur {t : Nat} {T T' : Nat → Nat} {w w' : World} {M C : Nat} {bb r bits : Int} {S : Ts} {c : St} (p : TmAt t T w M bb r bits S) (hC : w.cell? ⟨M, 0, none⟩ = some (.pointer (some ⟨C, 0, none⟩))) (hg : Goes (Mk (t + 1)) T w T' w') (hm : MakerAt (t + 1) T' w' C r c) : TmAt t T' w' M bb r bits ⟨c, S.idx, S.keys, S.laid, S.mt, S.ended⟩ := by
  have e : ¬ Mk (t + 1) (T M) := by rw [p.tag]; simp [Mk]; omega
  obtain ⟨v5, h5, o5⟩ := p.keys
  obtain ⟨v6, h6, o6⟩ := p.laid
  obtain ⟨q, hq⟩ := p.ix
  have hc : ∀ i, w'.cell? ⟨M, i, none⟩ = w.cell? ⟨M, i, none⟩ := fun i => hg.cell p.lt e
  exact ⟨Nat.lt_of_lt_of_le p.lt hg.size, (hg.tag M p.lt e).trans p.tag, ⟨C, (hc 0).trans hC, hm⟩,
    fun hE => by
      obtain ⟨I, hI, hi⟩ := p.idx hE
      exact ⟨I, (hc 1).trans hI, hi.goes hg (by simp [Mk]) (by simp [Mk]) (by simp [Mk])⟩,
    ⟨q, (hc 1).trans hq⟩, (hc 2).trans p.c2, (hc 3).trans p.c3, (hc 4).trans p.c4, ⟨v5, (hc 5).trans h5, o5.goes hg (by simp [Mk])⟩, ⟨v6, (hc 6).trans h6, o6.goes hg (by simp [Mk])⟩,
    fun j hj => (hc _).trans (p.mt j hj), (hc 13).trans p.fin, fun j => (World.frozen?_of_block (a := ⟨M, j, none⟩) (hg.block M p.lt e)).trans (p.fz j)⟩
/-- What lay answers. -/
def layR (S : Ts) (e : En) : Int := if Op.bytesLess S.mt.hi.data.toList e.1.data.toList = true then adds S.cur.last e else why e
/-- What lay leaves. -/
def layS (r : Int) (S : Ts) (e : En) : Ts := if layR S e = 0 then ⟨push (Rn r) S.cur e, S.idx, S.keys, S.laid, S.mt, S.ended⟩ else S
theorem why_ne (e : En) : why e ≠ 0 := by
  unfold why
  split
  · assumption
  · omega
def LayIs (t : Nat) (T : Nat → Nat) (w : World) (M : Nat) (bb r bits : Int) (S : Ts) (e : En) (x : Ending) (w' : World) : Prop :=
  ∃ T', x = .returned (.int .i64 (layR S e)) ∧ TmAt t T' w' M bb r bits (layS r S e) ∧ Goes (Tk t) T w T' w'
theorem lay_fin {t : Nat} {T T6 : Nat → Nat} {w V w6 : World} {M C : Nat} {bb r bits : Int} {S : Ts} {e : En} (p : TmAt t T w M bb r bits S) (hC : w.cell? ⟨M, 0, none⟩ = some (.pointer (some ⟨C, 0, none⟩))) (hV : Below w.heap.size w V) (hR : layR S e = adds S.cur.last e) (hm : MakerAt (t + 1) T6 w6 C r (if adds S.cur.last e = 0 then push (Rn r) S.cur e else S.cur)) (hg : Goes (Mk (t + 1)) T V T6 w6) : LayIs t T w M bb r bits S e (.returned (.int .i64 (adds S.cur.last e))) w6 := by
  have hg' : Goes (Mk (t + 1)) T w T6 w6 := (Goes.below hV).trans hg
  refine ⟨T6, by rw [hR], ?_, hg'.mono fun x hx => ?_⟩
  · have h := p.setCur hC hg' hm
    unfold layS
    rw [hR]
    by_cases ha : adds S.cur.last e = 0
    · rw [if_pos ha] at h ⊢; exact h
    · rw [if_neg ha] at h ⊢; exact h
  · rcases hx with h | h | h <;> (subst h; constructor <;> omega)
set_option maxHeartbeats 1000000 in
theorem lay_any (t : Nat) (T : Nat → Nat) (w : World) (M : Nat) (bb r bits : Int) (S : Ts) (k : ByteArray) (s : Nat) (d : Bool) (x : ByteArray) (p : TmAt t T w M bb r bits S) (hi : Hi T w) (ht : t ≠ 0) (hk : k.size ≤ 1000000) (hx : x.size ≤ 1000000) (hb : S.cur.b.length ≤ 4000000000) (hp : S.cur.p.length ≤ 10000000000) (hn : S.cur.n ≤ 1000000000000) (hr : -9223372036854775808 ≤ r ∧ r ≤ 9223372036854775807) :
    Calls Tryd.prog 34 #[.pointer (some ⟨M, 0, none⟩), .agg #[.string k, .int .u64 (s : Int), .bool d, .string x]] w fun e w' => LayIs t T w M bb r bits S (k, (s : Int), d, x) e w' := by
  obtain ⟨C, hC, hm⟩ := p.cur
  have hG : w.cell? ⟨M, 7 + 5, none⟩ = some (.string S.mt.hi) := p.mt 5 (by omega)
  have HP : Hid (TmAt t T w M bb r bits S) := p
  have hlt := p.lt
  clear p
  have HX : Hid (∀ W, Below (w.alloc (.cells #[.string k, .int .u64 (s : Int), .bool d, .string x] 43)).heap.size (w.alloc (.cells #[.string k, .int .u64 (s : Int), .bool d, .string x] 43)) W → W.cell? ⟨w.heap.size, 0, none⟩ = some (.string k) ∧ W.cell? ⟨w.heap.size, 1, none⟩ = some (.int .u64 (s : Int)) ∧ W.cell? ⟨w.heap.size, 2, none⟩ = some (.bool d) ∧ W.cell? ⟨w.heap.size, 3, none⟩ = some (.string x)) := fun W hW => ⟨(first_keep hW).2.1 0, (first_keep hW).2.1 1, (first_keep hW).2.1 2, (first_keep hW).2.1 3⟩
  have HI : Hid (Hi T w) := hi
  clear hi
  by_cases hl : Op.bytesLess S.mt.hi.toList k.toList = true
  · have hl1 : Op.bytesLess k.toList S.mt.hi.toList = false := KMath.bl_asymm _ _ hl
    have hl2 : (k.toList == S.mt.hi.toList) = false := by
      cases hc : (k.toList == S.mt.hi.toList) with
      | false => rfl
      | true => rw [beq_iff_eq.1 hc, KMath.bl_irrefl] at hl; cases hl
    have hq : (Op.bytesLess k.toList S.mt.hi.toList || k.toList == S.mt.hi.toList) = false := by rw [hl1, hl2]; rfl
    have hR : layR S (k, (s : Int), d, x) = adds S.cur.last (k, (s : Int), d, x) := by unfold layR; rw [if_pos]; simpa [ByteArray.toList_eq] using hl
    have HADD : Hid (∀ W, Below w.heap.size w W → Calls Tryd.prog 57 #[.pointer (some ⟨C, 0, none⟩), .agg #[.string k, .int .u64 (s : Int), .bool d, .string x]] W fun e w' => AddIs (t + 1) T W C r S.cur (k, (s : Int), d, x) e w') := fun W hW => add_any (t + 1) T W C r S.cur k s d x (hm.below hW) (HI.out.below hW.size) (by omega) hk hx hb hp hn hr
    clear hl hl1 hl2 hm
    go_enter Tryd.func34, Tryd.ntmps34
    go_wp2
    go_quiet (fail)
    go_wp2
    have hW0 : Below w.heap.size w ((w.alloc (.cells #[.string k, .int .u64 (s : Int), .bool d, .string x] 43)).drewN nq) := below_drewN ((Below.refl _ _).alloc (Nat.le_refl _) _) _
    have hW1 : Below (w.alloc (.cells #[.string k, .int .u64 (s : Int), .bool d, .string x] 43)).heap.size (w.alloc (.cells #[.string k, .int .u64 (s : Int), .bool d, .string x] 43)) ((w.alloc (.cells #[.string k, .int .u64 (s : Int), .bool d, .string x] 43)).drewN nq) := below_drewN (Below.refl _ _) _
    have hS0 := HX.out _ hW1
    have hM0 : ((w.alloc (.cells #[.string k, .int .u64 (s : Int), .bool d, .string x] 43)).drewN nq).cell? ⟨M, 0, none⟩ = some (.pointer (some ⟨C, 0, none⟩)) := (hW0.cell (p := ⟨M, 0, none⟩) hlt).trans hC
    have hsz : w.heap.size < ((w.alloc (.cells #[.string k, .int .u64 (s : Int), .bool d, .string x] 43)).drewN nq).heap.size := Nat.lt_of_lt_of_le (by simp) hW1.size
    generalize ((w.alloc (.cells #[.string k, .int .u64 (s : Int), .bool d, .string x] 43)).drewN nq) = V at *
    have HV : Hid (Below w.heap.size w V) := hW0
    have HSS : Hid (∀ V' W6 T6, Below V.heap.size V V' → Goes (Mk (t + 1)) T V' T6 W6 → W6.cell? ⟨M, 0, none⟩ = some (.pointer (some ⟨C, 0, none⟩)) ∧ W6.cell? ⟨w.heap.size, 0, none⟩ = some (.string k) ∧ W6.cell? ⟨w.heap.size, 1, none⟩ = some (.int .u64 (s : Int)) ∧ W6.cell? ⟨w.heap.size, 2, none⟩ = some (.bool d) ∧ W6.cell? ⟨w.heap.size, 3, none⟩ = some (.string x)) := by
      intro V' W6 T6 hV hg
      have hs1 := hW0.size
      have hs2 := hV.size
      have e0 : ¬ Mk (t + 1) (T M) := by rw [HP.out.tag]; simp [Mk]; omega
      have e1 : ¬ Mk (t + 1) (T w.heap.size) := by rw [HI.out w.heap.size (Nat.le_refl _)]; simp [Mk]
      exact ⟨(hg.cell (by omega) e0).trans ((hV.cell (p := ⟨M, 0, none⟩) (by show M < _; omega)).trans hM0), (hg.cell (by omega) e1).trans ((hV.cell (p := ⟨w.heap.size, 0, none⟩) hsz).trans hS0.1), (hg.cell (by omega) e1).trans ((hV.cell (p := ⟨w.heap.size, 1, none⟩) hsz).trans hS0.2.1), (hg.cell (by omega) e1).trans ((hV.cell (p := ⟨w.heap.size, 2, none⟩) hsz).trans hS0.2.2.1), (hg.cell (by omega) e1).trans ((hV.cell (p := ⟨w.heap.size, 3, none⟩) hsz).trans hS0.2.2.2)⟩
    have hA0 : V.cell? ⟨M, 0, none⟩ = some (.pointer (some ⟨C, 0, none⟩)) ∧ V.cell? ⟨w.heap.size, 0, none⟩ = some (.string k) ∧ V.cell? ⟨w.heap.size, 1, none⟩ = some (.int .u64 (s : Int)) ∧ V.cell? ⟨w.heap.size, 2, none⟩ = some (.bool d) ∧ V.cell? ⟨w.heap.size, 3, none⟩ = some (.string x) := ⟨hM0, hS0⟩
    have HC := Qb.hid hC
    clear hS0 hM0 hW0 hW1 HX hC hG
    go_region_held3 (fun W => W.cell? ⟨M, 0, none⟩ = some (.pointer (some ⟨C, 0, none⟩)) ∧ W.cell? ⟨w.heap.size, 0, none⟩ = some (.string k) ∧ W.cell? ⟨w.heap.size, 1, none⟩ = some (.int .u64 (s : Int)) ∧ W.cell? ⟨w.heap.size, 2, none⟩ = some (.bool d) ∧ W.cell? ⟨w.heap.size, 3, none⟩ = some (.string x)) (first | assumption | exact hA0)
      (first
      | (go_at_call 57; go_loud (refine (HADD.out _ (by first | exact HV.out | exact HV.out.drew)).mono ?_; rintro e w6 ⟨T6, rfl, hm6, hg6⟩; have hS6 := HSS.out _ w6 T6 (by first | exact Below.refl _ _ | exact (Below.refl _ _).drew) hg6; have HL : Hid (LayIs t T w M bb r bits S (k, (s : Int), d, x) (.returned (.int .i64 (adds S.cur.last (k, (s : Int), d, x)))) w6) := lay_fin HP.out HC.out (by first | exact HV.out | exact HV.out.drew) hR hm6 hg6; clear hm6 hg6)))
    all_goals (
      clear hS6 HSS HADD hA0
      go_wp2
      go_ret
      exact HL.out)
  · have hl0 : Op.bytesLess S.mt.hi.toList k.toList = false := by simpa using hl
    have hq : (Op.bytesLess k.toList S.mt.hi.toList || k.toList == S.mt.hi.toList) = true := by
      cases hc : Op.bytesLess k.toList S.mt.hi.toList with
      | true => rfl
      | false => rw [KMath.bl_tri _ _ hl0 hc]; simp
    have hR : layR S (k, (s : Int), d, x) = why (k, (s : Int), d, x) := by unfold layR; rw [if_neg]; simpa [ByteArray.toList_eq] using hl
    clear hl hl0
    go_enter Tryd.func34, Tryd.ntmps34
    go_wp2
    go_quiet (fail)
    go_wp2_with (go_at_call 56; go_loud (refine (whyNot_any k s d x _ hk hx).mono ?_; rintro e w2 ⟨rfl, hb2⟩; have HB2 : Hid (Below w.heap.size w w2) := (below_drewN ((Below.refl _ _).alloc (Nat.le_refl _) _) _).trans (hb2.mono (by simp)); clear hb2))
    go_ret
    exact ⟨T, by rw [hR]; rfl, by unfold layS; rw [if_neg (by rw [hR]; exact why_ne _)]; exact HP.out.below HB2.out, Goes.below HB2.out⟩

end Tbl
end Go.Proofs.YtnhhalabmmcemaaDoor
