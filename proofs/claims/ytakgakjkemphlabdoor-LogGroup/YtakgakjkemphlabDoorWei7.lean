import Derived.Test.YtakgakjkemphlabDoorProg
import Derived.Test.YtakgakjkemphlabDoorChk7
import Derived.WalkKit
import Derived.WalkSpells
import Derived.WalkLawsBesides
import Derived.Deep.QuietTactic
import Derived.BigQuiet
import Derived.Deep.RegionHeld3
import Derived.Deep.DrawnRows
namespace Go.Proofs.YtakgakjkemphlabDoor
namespace Wei
open Go.RowKit KMath Chk
set_option linter.unusedVariables false
attribute [local go_sem ↓] Go.wp_at_zero Go.wp_at_succ

/-- What an entry weighs (P1.4), as an int goes. -/
def wt (k : ByteArray) (d : Bool) (v : ByteArray) : Int := wrap64 (wrap64 (wrap64 (2 * (k.size : Int)) + ((val d v).size : Int)) + 448)

theorem wt_del (k v : ByteArray) : wt k true v = wrap64 (wrap64 (2 * (k.size : Int)) + 448) := by
  have e : ((val true v).size : Int) = 0 := rfl
  unfold wt
  rw [e]
  unfold wrap64
  omega
theorem wt_put (k v : ByteArray) : wt k false v = wrap64 (wrap64 (wrap64 (2 * (k.size : Int)) + (v.size : Int)) + 448) := rfl
theorem val_val (d : Bool) (v : ByteArray) : val d (val d v) = val d v := by cases d <;> rfl
theorem wt_val (k : ByteArray) (d : Bool) (v : ByteArray) : wt k d (val d v) = wt k d v := by unfold wt; rw [val_val]

set_option maxHeartbeats 1000000 in
theorem weight_any (k : ByteArray) (s : Int) (d : Bool) (v : ByteArray) (w : World) :
    Calls Tryd.prog 26 #[entV k s d v] w fun e w' => e = .returned (.int .i64 (wt k d v)) ∧ Below w.heap.size w w' := by
  unfold wt
  go_enter Tryd.func26, Tryd.ntmps26
  go_wp2
  go_quiet ((go_at_call 42; exact Calls.quiet_of_same (value_any _ _ _)))
  go_wp2
  go_ret
  exact ⟨rfl, below_drewN ((Below.refl _ _).alloc (Nat.le_refl _) _) nq⟩

set_option maxHeartbeats 1000000 in
theorem entry_any (s : Int) (k : ByteArray) (d : Bool) (v : ByteArray) (w : World) :
    Calls Tryd.prog 27 #[.int .u64 s, .agg #[.string k, .bool d, .string v]] w fun e w' => e = .returned (entV k s d (val d v)) ∧ Below w.heap.size w w' := by
  go_enter Tryd.func27, Tryd.ntmps27
  go_wp2
  go_region_held3 (fun w' => w'.cell? ⟨w.heap.size, 0, none⟩ = some (.string k) ∧ w'.cell? ⟨w.heap.size, 1, none⟩ = some (.bool d) ∧ w'.cell? ⟨w.heap.size, 2, none⟩ = some (.string v)) (simp [go_sem, World.cell?_alloc_past])
    (first
      | (go_at_call 42; refine (value_any _ _ _).mono ?_; rintro e w' ⟨rfl, hw⟩; have hw2 := hw.symm; clear hw; subst hw2))
  go_wp2
  exact bodyPost_ret (v := entV k s d (val d v)) (by simp [results, Tryd.results27, go_sem]) rfl ⟨rfl, (((Below.refl _ _).alloc (Nat.le_refl _) _).alloc (by simp) _).drew⟩

theorem wrapEq (x : Int) : IntKind.i64.wrap x = wrap64 x := by rw [IntKind.wrap_i64]; unfold wrap64; rfl

/-- The sum of weights, as an int goes. -/
def sumF (l : List Wr) : Int := l.foldl (fun s x => wrap64 (s + wt x.1 x.2.1 x.2.2)) 0
theorem sumF_take {l : List Wr} {k : Nat} {x : Wr} (hx : l[k]? = some x) : sumF (l.take (k + 1)) = wrap64 (sumF (l.take k) + wt x.1 x.2.1 x.2.2) := by
  obtain ⟨hk, rfl⟩ := List.getElem?_eq_some_iff.1 hx
  unfold sumF
  rw [List.take_succ_eq_append_getElem hk, List.foldl_append]
  rfl

set_option maxHeartbeats 2000000 in
theorem batchWeight_any (a : Option Addr) (cap : Nat) (ws : List Wr) (w : World) (h : IsWr w a ws) :
    Calls Tryd.prog 15 #[.slice a ws.length cap] w fun e w' => e = .returned (.int .i64 (sumF ws)) ∧ Below w.heap.size w w' := by
  obtain ⟨hrow, hlen, _⟩ := h
  unfold maxLen at hlen
  have HROW : Hid (ws ≠ [] → ∃ b off, a = some ⟨b, off, none⟩ ∧ WrRow w b off ws) := hrow
  clear hrow
  go_enter Tryd.func15, Tryd.ntmps15
  go_wp2
  go_loopw [3, 8] (fun s i wr => ∃ k : Nat, k ≤ ws.length ∧ i = .int .i64 k ∧ s = .int .i64 (sumF (ws.take k)) ∧ Below w.heap.size w wr) (fun _ i _ => ws.length - (intOf i).toNat)
  case atStart => exact ⟨0, Nat.zero_le _, rfl, rfl, Below.refl _ _⟩
  case round =>
    obtain ⟨k, hk, rfl, rfl, hbe⟩ := hrel
    by_cases hlt : k < ws.length
    · obtain ⟨b, off, rfl, hr⟩ := HROW.out (by intro e; rw [e] at hlt; simp at hlt)
      obtain ⟨kk, dd, vv, hx⟩ : ∃ kk dd vv, ws[k]? = some (kk, dd, vv) := ⟨_, _, _, List.getElem?_eq_getElem hlt⟩
      obtain ⟨c0, c1, c2⟩ := (hr.below hbe hr.1).2 k _ hx
      have HS : Hid (sumF (ws.take (k + 1)) = wrap64 (sumF (ws.take k) + wt kk dd vv)) := sumF_take hx
      clear hx
      dsimp only at c0 c1 c2
      have HB1 : Hid (Below w.heap.size w (wr.alloc (.cells #[.string kk, .bool dd, .string vv] 49))) := hbe.alloc hbe.size _
      generalize sumF (ws.take k) = S at *
      clear hbe
      go_wp2_with fail
      refine (entry_any 0 kk dd vv _).mono ?_
      rintro e w1 ⟨rfl, hb1⟩
      have HB2 : Hid (Below w.heap.size w w1) := HB1.out.trans (hb1.mono HB1.out.size)
      clear hb1
      go_wp2_with fail
      refine (weight_any kk 0 dd (val dd vv) _).mono ?_
      rintro e w2 ⟨rfl, hb2⟩
      rw [wt_val]
      have HB3 : Hid (Below w.heap.size w w2) := HB2.out.trans (hb2.mono HB2.out.size)
      clear hb2
      go_wp2
      go_roundw
      case rel => exact ⟨k + 1, by omega, by go_num, by rw [HS.out], HB3.out⟩
      case measure => simp [intOf]; omega
    · go_wp2
      go_ret
      refine ⟨ret_int ?_, hbe⟩
      rw [List.take_of_length_le (by omega)]

theorem keepW {b off k : Nat} {kk : ByteArray} {dd : Bool} {vv : ByteArray} {w W w' : World} (hb : Below W.heap.size W w')
    (h : W.cell? ⟨b, off + k * 3, none⟩ = some (.string kk) ∧ W.cell? ⟨b, off + k * 3 + 1, none⟩ = some (.bool dd) ∧ W.cell? ⟨b, off + k * 3 + 2, none⟩ = some (.string vv) ∧ b < W.heap.size ∧ Below w.heap.size w W) :
    w'.cell? ⟨b, off + k * 3, none⟩ = some (.string kk) ∧ w'.cell? ⟨b, off + k * 3 + 1, none⟩ = some (.bool dd) ∧ w'.cell? ⟨b, off + k * 3 + 2, none⟩ = some (.string vv) ∧ b < w'.heap.size ∧ Below w.heap.size w w' := by
  obtain ⟨c0, c1, c2, hz, hB⟩ := h
  obtain ⟨hc, hf⟩ := bcell hb
  have hs := hb.size
  exact ⟨(hc _ _ hz).trans c0, (hc _ _ hz).trans c1, (hc _ _ hz).trans c2, by omega, hB.trans (hb.mono hB.size)⟩
theorem startW {b off k : Nat} {kk : ByteArray} {dd : Bool} {vv : ByteArray} {w W : World} (c0 : W.cell? ⟨b, off + k * 3, none⟩ = some (.string kk)) (c1 : W.cell? ⟨b, off + k * 3 + 1, none⟩ = some (.bool dd)) (c2 : W.cell? ⟨b, off + k * 3 + 2, none⟩ = some (.string vv)) (hz : b < W.heap.size) (hB : Below w.heap.size w W) :
    W.drew.cell? ⟨b, off + k * 3, none⟩ = some (.string kk) ∧ W.drew.cell? ⟨b, off + k * 3 + 1, none⟩ = some (.bool dd) ∧ W.drew.cell? ⟨b, off + k * 3 + 2, none⟩ = some (.string vv) ∧ b < W.drew.heap.size ∧ Below w.heap.size w W.drew :=
  ⟨c0, c1, c2, hz, hB.drew⟩
theorem lastW {b off k : Nat} {kk : ByteArray} {dd : Bool} {vv : ByteArray} {w W : World}
    (h : W.cell? ⟨b, off + k * 3, none⟩ = some (.string kk) ∧ W.cell? ⟨b, off + k * 3 + 1, none⟩ = some (.bool dd) ∧ W.cell? ⟨b, off + k * 3 + 2, none⟩ = some (.string vv) ∧ b < W.heap.size ∧ Below w.heap.size w W) : Below w.heap.size w W := h.2.2.2.2

end Wei
end Go.Proofs.YtakgakjkemphlabDoor
