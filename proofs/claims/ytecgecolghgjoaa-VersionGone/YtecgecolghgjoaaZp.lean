import Derived.Test.YtecgecolghgjoaaZo
namespace Go.Proofs.Ytecgecolghgjoaa
namespace Vr
open Go.Shelf Go.RowKit Go.Lib Go.Sort Go.Maps Go.ChangeMaps Go.MapKept Laws Irw Crw
set_option linter.unusedVariables false
set_option linter.unusedSimpArgs false
set_option maxRecDepth 20000
/-- the sum of the weights, as ints add -/
def wsum (l : List Tb) : Int := l.foldl (fun a t => wrap64 (a + t.we)) 0
theorem wsum_take {l : List Tb} {k : Nat} {t : Tb} (h : l[k]? = some t) : wsum (l.take (k + 1)) = wrap64 (wsum (l.take k) + t.we) := by
  unfold wsum
  rw [List.take_add_one, h]
  simp
set_option maxHeartbeats 1000000 in
theorem weight2_any (vb : Nat) (V : Lv) (i : Int) (w : World) (h : VAt w vb V) : Calls Try.prog 31 #[.pointer (some ⟨vb, 0, none⟩), .int .i64 i] w fun e w' => e = .returned (.int .i64 (wsum (lev V i))) ∧ RowKit.Below w.heap.size w w' := by
  have hlen := h.1.len i
  have HV := level_any vb V i w h
  obtain ⟨l, hl⟩ : ∃ l, lev V i = l := ⟨_, rfl⟩
  rw [hl] at HV hlen ⊢
  have HC : Hid (Calls Try.prog 44 #[.pointer (some ⟨vb, 0, none⟩), .int .i64 i] w fun e w' => ∃ s : Sv, e = .returned (svV s) ∧ Ls kTb w s l ∧ w' = w) := HV
  clear HV h hl
  go_enter Try.func31, Try.ntmps31
  go_wp2_with (first
    | (go_at_call 44; go_loud (refine HC.out.mono ?_; rintro e w1 ⟨⟨sa, sn, sc⟩, rfl, hs, hw⟩; have hw := hw.symm; subst hw; have HL : Hid (Ls kTb w (sa, sn, sc) l) := hs; have hsn := hs.2.1; change sn = l.length at hsn; subst hsn; clear hs; simp only [svV])))
  clear HC
  go_loopw [5, 12] (fun b i wr => ∃ (k : Nat) (y : Int), k ≤ l.length ∧ b = .int .i64 y ∧ i = .int .i64 (k : Int) ∧ Hid (RowKit.Below w.heap.size w wr ∧ wsum (l.take k) = y)) (fun _ i _ => l.length - (intOf i).toNat)
  case atStart => exact ⟨0, 0, by omega, rfl, rfl, Below.refl _ _, rfl⟩
  case round =>
    obtain ⟨k, y, hk, rfl, rfl, HB⟩ := hrel
    rename World => wr
    by_cases hlt : k < l.length
    · obtain ⟨b, off, rfl, hb, t, ht, c0, c1, c2, c3, c4, c5⟩ := (HL.out.below HB.out.1).tb hlt
      have q1 : (k : Int) < (l.length : Int) := by omega
      have HE : Hid (wsum (l.take (k + 1)) = wrap64 (y + t.we)) := by rw [← HB.out.2]; exact wsum_take ht
      clear ht
      go_wp2
      go_roundw
      case rel =>
        exact ⟨k + 1, _, by omega, rfl, by go_num, HB.out.1.alloc HB.out.1.size _, HE.out⟩
      case measure => simp [intOf]; omega
    · have q1 : ¬ (k : Int) < (l.length : Int) := by omega
      have HK : Hid (wsum l = y) := by
        have := HB.out.2
        rw [show k = l.length by omega, List.take_length] at this
        exact this
      go_wp2
      go_ret
      exact ⟨by simp [HK.out], HB.out.1⟩
/-- what Holds tells -/
def holdsL (V : Lv) (i : Int) (key : ByteArray) : List Tb := if i = 0 then ((lev V i).filter (over key key)).reverse else (lev V i).filter (over key key)
theorem old_goes1 {w w' w'' : World} {T : Nat → Nat} (h : Old w T w') (hg : Goes (· = 1) T w' T w'') : Old w T w'' := h.goes hg (by decide)
set_option maxHeartbeats 1000000 in
theorem holds_any (vb : Nat) (V : Lv) (i : Int) (key : ByteArray) (w : World) (h : VAt w vb V) : Calls Try.prog 18 #[.pointer (some ⟨vb, 0, none⟩), .int .i64 i, .string key] w fun e w' => OwnIs w (holdsL V i key) e w' := by
  have hlen := h.1.len i
  have hO := overlap_any vb V i key key w h
  obtain ⟨l, hl⟩ : ∃ l, (lev V i).filter (over key key) = l := ⟨_, rfl⟩
  have hll : l.length ≤ 3000000 := by rw [← hl]; exact Nat.le_trans (List.length_filter_le _ _) hlen
  rw [hl] at hO
  have HO : Hid (Calls Try.prog 32 #[.pointer (some ⟨vb, 0, none⟩), .int .i64 i, .string key, .string key] w fun e w' => OwnIs w l e w') := hO
  by_cases hi : i = 0
  · have HE : Hid (holdsL V i key = l.reverse) := by unfold holdsL; rw [if_pos hi, hl]; rfl
    rw [HE.out]
    subst hi
    clear h hO hl HE hlen
    go_enter Try.func18, Try.ntmps18
    go_wp2_with (first
      | (go_at_call 32; go_loud (refine HO.out.mono ?_; rintro e w1 ⟨⟨s1, s2, s3⟩, T, rfl, ho, hold⟩; have HX : Hid (OwnK kTb 1 T w1 (svV (s1, s2, s3)) l ∧ Old w T w1) := ⟨ho, hold⟩; clear ho hold; simp only [svV]))
      | (go_at_call 33; go_loud (refine (reverse_any (s := (s1, s2, s3)) HX.out.1 hll).mono ?_; rintro e w2 ⟨rfl, ho2, hg2⟩; have HY : Hid (OwnK kTb 1 T w2 (svV (s1, s2, s3)) l.reverse ∧ Old w T w2) := ⟨ho2, old_goes1 HX.out.2 hg2⟩; clear ho2 hg2)))
    go_ret
    exact ⟨(s1, s2, s3), T, rfl, HY.out.1, HY.out.2⟩
  · have HE : Hid (holdsL V i key = l) := by unfold holdsL; rw [if_neg hi, hl]; rfl
    rw [HE.out]
    have q1 : (i == 0) = false := beq_eq_false_iff_ne.2 hi
    clear h hO hl HE hlen
    go_enter Try.func18, Try.ntmps18
    go_wp2_with (first
      | (go_at_call 32; go_loud (refine HO.out.mono ?_; rintro e w1 ⟨⟨s1, s2, s3⟩, T, rfl, ho, hold⟩; have HX : Hid (OwnK kTb 1 T w1 (svV (s1, s2, s3)) l ∧ Old w T w1) := ⟨ho, hold⟩; clear ho hold; simp only [svV])))
    go_ret
    exact ⟨(s1, s2, s3), T, rfl, HX.out.1, HX.out.2⟩
set_option maxHeartbeats 1000000 in
/-- Apply with another number of pointers -/
theorem apply_bad {T : Nat → Nat} {w : World} {sb vb mb : Nat} {V : Lv} {P : List Pn} (x y z : Value) (os is : Value) (pa : Option Addr) (pl pc : Nat) (h : PAt T w sb vb mb V P) (hne : pl ≠ V.length) (hp : pl ≤ 1000000000) :
    Calls Try.prog 9 #[.pointer (some ⟨sb, 0, none⟩), .agg #[x, y, z, os, is, .slice pa pl pc]] w fun e w' => e = .returned (.tuple #[.slice none 0 0, .int .i64 133]) ∧ RowKit.Below w.heap.size w w' := by
  have hv5 := h.ver.1.1
  obtain ⟨W, hW⟩ : ∃ W, w.alloc (Obj.cells #[x, y, z, os, is, .slice pa pl pc] 38) = W := ⟨_, rfl⟩
  have HW : Hid (RowKit.Below w.heap.size w W ∧ Zb W w.heap.size [x, y, z, os, is, .slice pa pl pc]) := by
    rw [← hW]
    exact ⟨(Below.refl _ _).alloc (Nat.le_refl _) _, Zb.new _ _ _⟩
  obtain ⟨pq, ps, hbox, hown⟩ := h.box
  have c0 := (hbox.below HW.out.1).2.1 0 _ rfl
  have z5 := HW.out.2.2.1 5 _ rfl
  have HL : Hid (∀ d, Calls Try.prog 23 #[.pointer (some ⟨vb, 0, none⟩)] (W.drewN d) fun e w' => e = .returned (.int .i64 (V.length : Int)) ∧ w' = W.drewN d) := fun d => levels_any vb V (W.drewN d) (h.ver.at_.below (bl_dn HW.out.1 d))
  have q1 : ¬ (pl : Int) = (V.length : Int) := by omega
  clear h hbox hown
  go_enter Try.func9, Try.ntmps9
  go_upto_region 1 with (fail)
  (try rw [hW])
  obtain ⟨bx, hbx⟩ : ∃ b, w.heap.size = b := ⟨_, rfl⟩
  rw [hbx] at z5
  rw [hbx]
  clear hW hbx
  go_wp2
  go_quiet ((go_at_call 23; exact Calls.quiet_of_same (HL.out _)))
  go_wp2
  go_ret2
  exact ⟨rfl, bl_dn HW.out.1 _⟩
end Vr
end Go.Proofs.Ytecgecolghgjoaa
