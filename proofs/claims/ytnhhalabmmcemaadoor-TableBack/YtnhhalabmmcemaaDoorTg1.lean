import Derived.Test.YtnhhalabmmcemaaDoorQcM
import Derived.Test.YtnhhalabmmcemaaDoorEAp
import Derived.Deep.QuietTactic
import Derived.BigQuiet
namespace Go.Proofs.YtnhhalabmmcemaaDoor
namespace Qg
open Go.RowKit Laws Irw Crw
set_option linter.unusedVariables false
set_option maxRecDepth 100000
set_option linter.unusedSimpArgs false
abbrev En := ByteArray × Int × Bool × ByteArray
theorem sum_take {α : Type} {f : α → Nat} {l : List α} {k : Nat} {x : α} (h : l[k]? = some x) : ((l.take (k + 1)).map f).sum = ((l.take k).map f).sum + f x := by
  rw [List.take_add_one, h]
  simp
/-- a count as it lies -/
def Ct (C : Nat) (w : World) (x : Int) : Prop := C < w.heap.size ∧ w.cell? ⟨C, 0, none⟩ = some (.int .i64 x) ∧ w.frozen? ⟨C, 0, none⟩ = false ∧ x ≤ 65536
theorem Ct.set {C : Nat} {w : World} {x : Int} (h : Ct C w x) (y : Int) (hy : y ≤ 65536) : Ct C (w.setCell ⟨C, 0, none⟩ (.int .i64 y)) y := by
  obtain ⟨h1, h2, h3, h4⟩ := h
  exact ⟨by simpa using h1, World.cell?_setCell_same _ _ _ h2, by rw [World.frozen?_setCell]; exact h3, hy⟩
theorem ok_x (C : Nat) (w : World) (x : Int) (b : Bool) (h2 : w.cell? ⟨C, 0, none⟩ = some (.int .i64 x)) (hb : decide (0 ≤ x) = b) :
    Calls Tryd.prog 18 #[.pointer (some ⟨C, 0, none⟩)] w fun r w' => r = .returned (.bool b) ∧ w' = w := by
  go_enter Tryd.func18, Tryd.ntmps18
  go_wp2
  go_ret
  refine ⟨?_, rfl⟩
  rw [← hb]
  rfl
theorem add_c (C : Nat) (w0 w : World) (x : Int) (n : Nat) (y : Int) (hy : y = n) (hn : n ≤ 9223372036854775807) (h : Ct C w x) (hC : w0.heap.size ≤ C) (hb : Below w0.heap.size w0 w) :
    Calls Tryd.prog 32 #[.pointer (some ⟨C, 0, none⟩), .int .i64 y] w fun r w' => (∃ v, r = .returned v) ∧ ∃ z, Ct C w' z ∧ (0 ≤ z → 0 ≤ x ∧ z = x - n) ∧ Below w0.heap.size w0 w' := by
  subst hy
  have HC : Hid (Ct C w x ∧ Below w0.heap.size w0 w) := ⟨h, hb⟩
  clear hb
  obtain ⟨h1, h2, h3, h4⟩ := h
  by_cases hx : 0 ≤ x
  · go_enter Tryd.func32, Tryd.ntmps32
    go_wp2
    go_ret
    exact ⟨⟨_, rfl⟩, x - n, HC.out.1.set _ (by omega), fun _ => ⟨hx, rfl⟩, HC.out.2.setCell (p := ⟨C, 0, none⟩) hC _⟩
  · go_enter Tryd.func32, Tryd.ntmps32
    go_wp2
    go_ret
    exact ⟨⟨_, rfl⟩, x, HC.out.1, fun h => by omega, HC.out.2⟩
set_option maxHeartbeats 1000000 in
theorem add_min (C : Nat) (w0 w : World) (x : Int) (h : Ct C w x) (hx : 0 ≤ x) (hC : w0.heap.size ≤ C) (hb : Below w0.heap.size w0 w) :
    Calls Tryd.prog 32 #[.pointer (some ⟨C, 0, none⟩), .int .i64 (-9223372036854775808)] w fun r w' => (∃ v, r = .returned v) ∧ ∃ z, Ct C w' z ∧ z < 0 ∧ Below w0.heap.size w0 w' := by
  have HC : Hid (Ct C w x ∧ Below w0.heap.size w0 w) := ⟨h, hb⟩
  clear hb
  obtain ⟨h1, h2, h3, h4⟩ := h
  have e : IntKind.i64.wrap (x - -9223372036854775808) = x - 9223372036854775808 := by rw [IntKind.wrap_i64]; omega
  have e2 : IntKind.i64.wrap (x + 9223372036854775808) = x - 9223372036854775808 := by rw [IntKind.wrap_i64]; omega
  go_enter Tryd.func32, Tryd.ntmps32
  go_wp2
  go_ret
  exact ⟨⟨_, rfl⟩, x - 9223372036854775808, HC.out.1.set _ (by omega), by omega, HC.out.2.setCell (p := ⟨C, 0, none⟩) hC _⟩
set_option maxHeartbeats 1000000 in
theorem text_c (C : Nat) (w0 w : World) (x : Int) (s : ByteArray) (hs : s.size ≤ maxLen) (h : Ct C w x) (hC : w0.heap.size ≤ C) (hb : Below w0.heap.size w0 w) (hx : 0 ≤ x) :
    Calls Tryd.prog 31 #[.pointer (some ⟨C, 0, none⟩), .string s] w fun r w' => (∃ v, r = .returned v) ∧ ∃ z, Ct C w' z ∧ (0 ≤ z → 0 ≤ x ∧ z = x - 1 - s.size) ∧ Below w0.heap.size w0 w' := by
  have HC : Hid (Ct C w x ∧ Below w0.heap.size w0 w) := ⟨h, hb⟩
  clear h hb
  unfold maxLen at hs
  by_cases hm : s.size = 9223372036854775807
  · have e : wrap64 (1 + (s.size : Int)) = -9223372036854775808 := by unfold wrap64; omega
    have HAM : Hid (Calls Tryd.prog 32 #[.pointer (some ⟨C, 0, none⟩), .int .i64 (wrap64 (1 + (s.size : Int)))] w fun r w' => (∃ v, r = .returned v) ∧ ∃ z, Ct C w' z ∧ z < 0 ∧ Below w0.heap.size w0 w') := by
      rw [e]; exact add_min C w0 _ x HC.out.1 hx hC HC.out.2
    clear hm e hs
    go_enter Tryd.func31, Tryd.ntmps31
    go_wp2_with (go_at_call 32; refine HAM.out.mono ?_; rintro r w2 ⟨⟨b, rfl⟩, z, hc2, hz2, hk2⟩; have HF : Hid (Ct C w2 z ∧ z < 0 ∧ Below w0.heap.size w0 w2) := ⟨hc2, hz2, hk2⟩; clear hc2 hk2 hz2)
    go_end0
    exact ⟨⟨_, rfl⟩, z, HF.out.1, fun h => by have := HF.out.2.1; omega, HF.out.2.2⟩
  · go_enter Tryd.func31, Tryd.ntmps31
    go_wp2_with (go_at_call 32; refine (add_c C w0 _ x (1 + s.size) _ (by omega) (by omega) HC.out.1 hC HC.out.2).mono ?_; rintro r w2 ⟨⟨b, rfl⟩, z, hc2, hz2, hk2⟩; have HF : Hid (Ct C w2 z ∧ (0 ≤ z → 0 ≤ x ∧ z = x - (1 + s.size : Nat)) ∧ Below w0.heap.size w0 w2) := ⟨hc2, hz2, hk2⟩; clear hc2 hk2 hz2)
    go_end0
    exact ⟨⟨_, rfl⟩, z, HF.out.1, fun h => by have := HF.out.2.1 h; omega, HF.out.2.2⟩

theorem many_any (w : World) :
    Calls Tryd.prog 16 #[.int .i64 65536] w fun r w' => r = .returned (.pointer (some ⟨w.heap.size, 0, none⟩)) ∧ Ct w.heap.size w' 65536 ∧ Below w.heap.size w w' := by
  go_enter Tryd.func16, Tryd.ntmps16
  go_wp2
  go_ret
  exact ⟨rfl, ⟨by simp, by rw [World.cell?_alloc_at _ _ _ _ rfl]; rfl, World.frozen?_alloc_at _ _ _ _ rfl, by omega⟩, (Below.refl _ _).alloc (Nat.le_refl _) _⟩

def bulkE (x : En) : Nat := 1 + x.1.size + x.2.2.2.size
theorem isE_at {w : World} {a : Option Addr} {l : List En} (h : Erw.IsE w a l) {k : Nat} (hk : k < l.length) : ∃ b off x, a = some ⟨b, off, none⟩ ∧ l[k]? = some x ∧ b < w.heap.size ∧ w.cell? ⟨b, off + k * 4, none⟩ = some (.string x.1) ∧ w.cell? ⟨b, off + k * 4 + 1, none⟩ = some (.int .u64 x.2.1) ∧ w.cell? ⟨b, off + k * 4 + 2, none⟩ = some (.bool x.2.2.1) ∧ w.cell? ⟨b, off + k * 4 + 3, none⟩ = some (.string x.2.2.2) := by
  obtain ⟨b, off, e, hr⟩ := h.at_ (by omega)
  have hx : l[k]? = some l[k] := List.getElem?_eq_getElem hk
  exact ⟨b, off, l[k], e, hx, hr.1, hr.2 k _ hx⟩
set_option maxHeartbeats 1000000 in
theorem entries_c (C : Nat) (w0 w : World) (x : Int) (a : Option Addr) (cap n : Nat) (l : List En) (hn : l.length = n) (hmx : (n : Int) ≤ 9223372036854775807) (h : Ct C w x) (hC : w0.heap.size ≤ C) (hb : Below w0.heap.size w0 w) (hw : Erw.IsE w0 a l) (hsz : ∀ e ∈ l, e.1.size ≤ maxLen ∧ e.2.2.2.size ≤ maxLen) :
    Calls Tryd.prog 17 #[.pointer (some ⟨C, 0, none⟩), .slice a n cap] w fun r w' => (∃ v, r = .returned v) ∧ ∃ z, Ct C w' z ∧ (0 ≤ z → 0 ≤ x ∧ z = x - (l.map bulkE).sum) ∧ Below w0.heap.size w0 w' := by
  have HC : Hid (Ct C w x ∧ Below w0.heap.size w0 w) := ⟨h, hb⟩
  have HW : Hid (Erw.IsE w0 a l) := hw
  have HN : Hid (l.length = n) := hn
  have HSZ : Hid (∀ e ∈ l, e.1.size ≤ maxLen ∧ e.2.2.2.size ≤ maxLen) := hsz
  clear h hw hn hb hsz
  go_enter Tryd.func17, Tryd.ntmps17
  go_wp2
  go_loopw [4] (fun i wr => ∃ (k : Nat) (z : Int), k ≤ n ∧ i = .int .i64 (k : Int) ∧ Hid (Ct C wr z ∧ (0 ≤ z → 0 ≤ x ∧ z = x - ((l.take k).map bulkE).sum) ∧ Below w0.heap.size w0 wr)) (fun i _ => n - (intOf i).toNat)
  case atStart => exact ⟨0, x, Nat.zero_le _, rfl, HC.out.1, fun h => ⟨h, by simp⟩, HC.out.2⟩
  case round =>
    obtain ⟨k, z, hk, rfl, HK⟩ := hrel
    rename World => wr
    by_cases hlt : k < n
    · have q1 : (k : Int) < (n : Int) := by omega
      have x2 := HK.out.1.2.1
      by_cases hx0 : 0 ≤ z
      · have hkl : k < l.length := by rw [HN.out]; exact hlt
        obtain ⟨b, off, ⟨kk, ss, dd, vv⟩, rfl, hx, hbl, c0, c1, c2, c3⟩ := isE_at (HW.out.below HK.out.2.2) hkl
        have hsz := HSZ.out _ (List.mem_of_getElem? hx)
        have HX : Hid (l[k]? = some (kk, ss, dd, vv)) := hx
        have HBK : Hid (((l.take (k + 1)).map bulkE).sum = ((l.take k).map bulkE).sum + bulkE (kk, ss, dd, vv)) := sum_take hx
        dsimp only at c0 c1 c2 c3 hsz
        have hvv := hsz.2
        unfold maxLen at hvv
        clear hx hkl
        go_wp2_with (first | (go_at_call 18; refine (ok_x C _ z true x2 (decide_eq_true hx0)).mono ?_; rintro r w3 ⟨rfl, rfl⟩) | (go_at_call 31; refine (text_c C w0 _ z _ hsz.1 HK.out.1 hC HK.out.2.2 hx0).mono ?_; rintro r w2 ⟨⟨v2, rfl⟩, z2, hc2, hz2, hk2⟩; have HF : Hid (Ct C w2 z2 ∧ (0 ≤ z2 → 0 ≤ z ∧ z2 = z - 1 - kk.size) ∧ Below w0.heap.size w0 w2) := ⟨hc2, hz2, hk2⟩; have d2 : w2.cell? ⟨b, off + k * 4 + 3, none⟩ = some (.string vv) := (by obtain ⟨b', off', e', hr'⟩ := (HW.out.below HF.out.2.2) (by intro e; have h9 := HX.out; rw [e] at h9; cases h9); cases e'; exact (hr'.2 k _ HX.out).2.2.2); clear hc2 hk2 hz2 c0 c1 c2 c3 x2) | (go_at_call 32; refine (add_c C w0 _ z2 vv.size _ rfl hvv HF.out.1 hC HF.out.2.2).mono ?_; rintro r w4 ⟨⟨b4, rfl⟩, z4, hc4, hz4, hk4⟩; have HF4 : Hid (Ct C w4 z4 ∧ (0 ≤ z4 → 0 ≤ z2 ∧ z4 = z2 - vv.size) ∧ Below w0.heap.size w0 w4) := ⟨hc4, hz4, hk4⟩; clear hc4 hk4 hz4))
        go_roundw
        case rel =>
          refine ⟨k + 1, z4, by omega, by go_num, HF4.out.1, fun h => ?_, HF4.out.2.2⟩
          have h1 := HF4.out.2.1 h
          have h2 := HF.out.2.1 h1.1
          have h3 := HK.out.2.1 h2.1
          rw [HBK.out, show bulkE (kk, ss, dd, vv) = 1 + kk.size + vv.size from rfl]
          omega
        case measure => simp [intOf]; omega
      · go_wp2_with (go_at_call 18; refine (ok_x C _ z false x2 (decide_eq_false hx0)).mono ?_; rintro r w3 ⟨rfl, rfl⟩)
        go_end0
        exact ⟨⟨_, rfl⟩, z, HK.out.1, fun h => absurd h (by omega), HK.out.2.2⟩
    · obtain rfl : k = n := by omega
      go_wp2
      go_end0
      refine ⟨⟨_, rfl⟩, z, HK.out.1, fun h => ?_, HK.out.2.2⟩
      have := HK.out.2.1 h
      rw [List.take_of_length_le (by rw [HN.out]; exact Nat.le_refl _)] at this
      exact this
theorem sum_mem {l : List En} {e : En} (h : e ∈ l) : bulkE e ≤ (l.map bulkE).sum := by
  induction l with
  | nil => simp at h
  | cons x t ih =>
    simp only [List.map_cons, List.sum_cons]
    rcases List.mem_cons.1 h with rfl | h
    · omega
    · have := ih h; omega
def SmIs (w : World) (l : List En) (r : Ending) (w' : World) : Prop := (∃ b : Bool, r = .returned (.bool b) ∧ (b = true → l.length ≤ 300 ∧ (l.map bulkE).sum ≤ 65536)) ∧ Below w.heap.size w w'
set_option maxHeartbeats 1000000 in
theorem small_any (w : World) (a : Option Addr) (cap n : Nat) (l : List En) (hn : l.length = n) (hmx : (n : Int) ≤ 9223372036854775807) (hw : Erw.IsE w a l) (hsz : ∀ e ∈ l, e.1.size ≤ maxLen ∧ e.2.2.2.size ≤ maxLen) :
    Calls Tryd.prog 6 #[.slice a n cap] w fun r w' => SmIs w l r w' := by
  have HW : Hid (Erw.IsE w a l ∧ l.length = n ∧ ∀ e ∈ l, e.1.size ≤ maxLen ∧ e.2.2.2.size ≤ maxLen) := ⟨hw, hn, hsz⟩
  clear hw hn hsz
  by_cases h300 : (n : Int) ≤ 300
  · go_enter Tryd.func6, Tryd.ntmps6
    go_wp2_with (first | (go_at_call 16; refine (many_any w).mono ?_; rintro r w1 ⟨rfl, hc1, hk1⟩; have HM : Hid (Ct w.heap.size w1 65536 ∧ Below w.heap.size w w1) := ⟨hc1, hk1⟩; clear hc1 hk1) | (go_at_call 17; refine (entries_c w.heap.size w _ 65536 a cap n l HW.out.2.1 hmx HM.out.1 (Nat.le_refl _) HM.out.2 HW.out.1 HW.out.2.2).mono ?_; rintro r w2 ⟨⟨v2, rfl⟩, z, hc2, hz2, hk2⟩; have HF : Hid (Ct w.heap.size w2 z ∧ (0 ≤ z → 0 ≤ (65536 : Int) ∧ z = 65536 - (l.map bulkE).sum) ∧ Below w.heap.size w w2) := ⟨hc2, hz2, hk2⟩; clear hc2 hz2 hk2) | (go_at_call 18; refine (ok_x w.heap.size _ z (decide (0 ≤ z)) HF.out.1.2.1 rfl).mono ?_; rintro r w3 ⟨rfl, rfl⟩))
    all_goals (
      go_ret
      refine ⟨⟨_, rfl, fun h => ?_⟩, HF.out.2.2⟩
      first
      | (exfalso; simp at h; done)
      | (have h0 : 0 ≤ z := by omega
         have h1 := HF.out.2.1 h0
         have h2 := HW.out.2.1
         omega))
  · go_enter Tryd.func6, Tryd.ntmps6
    go_wp2_with (first | (go_at_call 16; refine (many_any w).mono ?_; rintro r w1 ⟨rfl, hc1, hk1⟩; have HM : Hid (Ct w.heap.size w1 65536 ∧ Below w.heap.size w w1) := ⟨hc1, hk1⟩; clear hc1 hk1) | (go_at_call 17; refine (entries_c w.heap.size w _ 65536 a cap n l HW.out.2.1 hmx HM.out.1 (Nat.le_refl _) HM.out.2 HW.out.1 HW.out.2.2).mono ?_; rintro r w2 ⟨⟨v2, rfl⟩, z, hc2, hz2, hk2⟩; have HC9 := hc2.2.1; have HF : Hid (Below w.heap.size w w2) := hk2; clear hc2 hz2 hk2) | (go_at_call 18; refine (ok_x w.heap.size _ z (decide (0 ≤ z)) HC9 rfl).mono ?_; rintro r w3 ⟨rfl, rfl⟩))
    all_goals (
      go_ret
      exact ⟨⟨_, rfl, fun h => (by exfalso; first | (simp at h; done) | (simp at h; omega))⟩, HF.out⟩)
end Qg
end Go.Proofs.YtnhhalabmmcemaaDoor
