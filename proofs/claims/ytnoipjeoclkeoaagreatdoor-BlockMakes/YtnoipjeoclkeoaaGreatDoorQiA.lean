import Derived.Test.YtnoipjeoclkeoaaGreatDoorProg
import Derived.Test.YtnoipjeoclkeoaaGreatDoorNS
import Derived.Test.YtnoipjeoclkeoaaGreatDoorIRw
import Derived.Test.YtnoipjeoclkeoaaGreatDoorQcM
import Derived.Test.YtnoipjeoclkeoaaGreatDoorEAp
import Derived.Deep.QuietTactic
import Derived.BigQuiet
import Derived.Test.YtnoipjeoclkeoaaGreatDoorQr6
namespace Go.Proofs.YtnoipjeoclkeoaaGreatDoor
namespace BookB
open Go.RowKit Laws Irw CMath Byt Cod
set_option linter.unusedVariables false

theorem own_block {w w' : World} {ty : TypeId} {v : Value} {n : Nat} {vs : List Value} (h : w.ownsRow 0 ty 1 v n vs) (hb : ∀ b, v.ownBlock = some b → w'.heap[b]? = w.heap[b]?) : w'.ownsRow 0 ty 1 v n vs := by
  refine ⟨h.1, ?_⟩
  rcases h.2 with h2 | ⟨g, cap, cur, hv, hg, hh, hr⟩
  · exact .inl h2
  · exact .inr ⟨g, cap, cur, hv, hg, (hb g (by rw [hv]; rfl)).trans hh, hr⟩
/-- The law's own things turn, and the book stays: their tags are 9000000 and above. -/
theorem Kept.goes {u : Nat → Prop} {T T' : Nat → Nat} {w w' : World} {K N : Nat} (h : Kept T w K N) (hg : Goes u T w T' w') (hu : ∀ x, u x → 9000000 ≤ x) : Kept T' w' K N := by
  obtain ⟨⟨f, L, o, x, M, D, h⟩, hz⟩ := h
  have hB : ∀ b, b < w.heap.size → T b < 9000000 → w'.heap[b]? = w.heap[b]? ∧ T' b = T b := fun b hb ht =>
    ⟨hg.block b hb (fun z => by have := hu _ z; omega), hg.tag b hb (fun z => by have := hu _ z; omega)⟩
  refine ⟨⟨f, L, o, x, M, D, { h with core := ⟨⟨Nat.lt_of_lt_of_le h.core.fld.1 hg.size, fun j hj => ?_⟩, ?_, fun j h1 h2 => ⟨own_block (h.core.spine j h1 h2).1 fun b hb => ?_, fun b hb => ?_⟩⟩, outs := fun p hm => ?_, waits := fun i p hi => ?_ }⟩, fun b hb => hg.high b hb (hz b (Nat.le_trans hg.size hb))⟩
  · have e := (hB K h.core.fld.1 (by rw [h.core.tag]; omega)).1
    rw [World.cell?_of_block (a := ⟨K, j, none⟩) e, World.frozen?_of_block (a := ⟨K, j, none⟩) e]
    exact h.core.fld.2 j hj
  · exact (hB K h.core.fld.1 (by rw [h.core.tag]; omega)).2.trans h.core.tag
  · have := (h.core.spine j h1 h2).2 b hb
    exact (hB b ((h.core.spine j h1 h2).1.lt b hb).2 (by omega)).1
  · have := (h.core.spine j h1 h2).2 b hb
    exact (hB b ((h.core.spine j h1 h2).1.lt b hb).2 (by omega)).2.trans this
  · obtain ⟨h1, h2, h3, h4, h5, h6⟩ := h.outs p hm
    have h7 : T p.1.1 = 100 := by
      rcases h6 with h6 | ⟨i, _, h6, _⟩
      · exact h6
      · simp at h6
    obtain ⟨b1, t1⟩ := hB p.1.1 h1.1 (by omega)
    obtain ⟨b2, t2⟩ := hB p.2.1 h2.1 (by omega)
    exact ⟨h1.keep b1 hg.size, h2.keep b2 hg.size, h3, h4, t2.trans h5, .inl (t1.trans h7)⟩
  · obtain ⟨h1, h2, h3, h4, h5, h6⟩ := h.waits i p hi
    have hl : i < x.length := (List.getElem?_eq_some_iff.1 hi).1
    have := h.many
    have := h.few
    obtain ⟨b1, t1⟩ := hB p.1.1 h1.lt (by omega)
    obtain ⟨b2, t2⟩ := hB p.2.1 h2.lt (by omega)
    exact ⟨h1.block b1, h2.block b2, h3, h4, t1.trans h5, t2.trans h6⟩

end BookB
end Go.Proofs.YtnoipjeoclkeoaaGreatDoor
namespace Go.Proofs.YtnoipjeoclkeoaaGreatDoor
namespace Qg
open Go.RowKit Laws Irw Crw
set_option linter.unusedVariables false
set_option maxRecDepth 100000
set_option linter.unusedSimpArgs false
abbrev En := ByteArray × Int × Bool × ByteArray
theorem sum_take {α : Type} {f : α → Nat} {l : List α} {k : Nat} {x : α} (h : l[k]? = some x) : ((l.take (k + 1)).map f).sum = ((l.take k).map f).sum + f x := by
  rw [List.take_add_one, h]
  simp
/-- a count as it lies -/
def Ct (C : Nat) (w : World) (x : Int) : Prop := C < w.heap.size ∧ w.cell? ⟨C, 0, none⟩ = some (.int .i64 x) ∧ w.frozen? ⟨C, 0, none⟩ = false ∧ x ≤ 32768
theorem Ct.set {C : Nat} {w : World} {x : Int} (h : Ct C w x) (y : Int) (hy : y ≤ 32768) : Ct C (w.setCell ⟨C, 0, none⟩ (.int .i64 y)) y := by
  obtain ⟨h1, h2, h3, h4⟩ := h
  exact ⟨by simpa using h1, World.cell?_setCell_same _ _ _ h2, by rw [World.frozen?_setCell]; exact h3, hy⟩
theorem ok_x (C : Nat) (w : World) (x : Int) (b : Bool) (h2 : w.cell? ⟨C, 0, none⟩ = some (.int .i64 x)) (hb : decide (0 ≤ x) = b) :
    Calls Tryz.prog 21 #[.pointer (some ⟨C, 0, none⟩)] w fun r w' => r = .returned (.bool b) ∧ w' = w := by
  go_enter Tryz.func21, Tryz.ntmps21
  go_wp2
  go_ret
  refine ⟨?_, rfl⟩
  rw [← hb]
  rfl
theorem add_c (C : Nat) (w0 w : World) (x : Int) (n : Nat) (y : Int) (hy : y = n) (hn : n ≤ 9223372036854775807) (h : Ct C w x) (hC : w0.heap.size ≤ C) (hb : Below w0.heap.size w0 w) :
    Calls Tryz.prog 61 #[.pointer (some ⟨C, 0, none⟩), .int .i64 y] w fun r w' => (∃ v, r = .returned v) ∧ ∃ z, Ct C w' z ∧ (0 ≤ z → 0 ≤ x ∧ z = x - n) ∧ Below w0.heap.size w0 w' := by
  subst hy
  have HC : Hid (Ct C w x ∧ Below w0.heap.size w0 w) := ⟨h, hb⟩
  clear hb
  obtain ⟨h1, h2, h3, h4⟩ := h
  by_cases hx : 0 ≤ x
  · go_enter Tryz.func61, Tryz.ntmps61
    go_wp2
    go_ret
    exact ⟨⟨_, rfl⟩, x - n, HC.out.1.set _ (by omega), fun _ => ⟨hx, rfl⟩, HC.out.2.setCell (p := ⟨C, 0, none⟩) hC _⟩
  · go_enter Tryz.func61, Tryz.ntmps61
    go_wp2
    go_ret
    exact ⟨⟨_, rfl⟩, x, HC.out.1, fun h => by omega, HC.out.2⟩
set_option maxHeartbeats 1000000 in
theorem add_min (C : Nat) (w0 w : World) (x : Int) (h : Ct C w x) (hx : 0 ≤ x) (hC : w0.heap.size ≤ C) (hb : Below w0.heap.size w0 w) :
    Calls Tryz.prog 61 #[.pointer (some ⟨C, 0, none⟩), .int .i64 (-9223372036854775808)] w fun r w' => (∃ v, r = .returned v) ∧ ∃ z, Ct C w' z ∧ z < 0 ∧ Below w0.heap.size w0 w' := by
  have HC : Hid (Ct C w x ∧ Below w0.heap.size w0 w) := ⟨h, hb⟩
  clear hb
  obtain ⟨h1, h2, h3, h4⟩ := h
  have e : IntKind.i64.wrap (x - -9223372036854775808) = x - 9223372036854775808 := by rw [IntKind.wrap_i64]; omega
  have e2 : IntKind.i64.wrap (x + 9223372036854775808) = x - 9223372036854775808 := by rw [IntKind.wrap_i64]; omega
  go_enter Tryz.func61, Tryz.ntmps61
  go_wp2
  go_ret
  exact ⟨⟨_, rfl⟩, x - 9223372036854775808, HC.out.1.set _ (by omega), by omega, HC.out.2.setCell (p := ⟨C, 0, none⟩) hC _⟩
set_option maxHeartbeats 1000000 in
theorem text_c (C : Nat) (w0 w : World) (x : Int) (s : ByteArray) (hs : s.size ≤ maxLen) (h : Ct C w x) (hC : w0.heap.size ≤ C) (hb : Below w0.heap.size w0 w) (hx : 0 ≤ x) :
    Calls Tryz.prog 60 #[.pointer (some ⟨C, 0, none⟩), .string s] w fun r w' => (∃ v, r = .returned v) ∧ ∃ z, Ct C w' z ∧ (0 ≤ z → 0 ≤ x ∧ z = x - 1 - s.size) ∧ Below w0.heap.size w0 w' := by
  have HC : Hid (Ct C w x ∧ Below w0.heap.size w0 w) := ⟨h, hb⟩
  clear h hb
  unfold maxLen at hs
  by_cases hm : s.size = 9223372036854775807
  · have e : wrap64 (1 + (s.size : Int)) = -9223372036854775808 := by unfold wrap64; omega
    have HAM : Hid (Calls Tryz.prog 61 #[.pointer (some ⟨C, 0, none⟩), .int .i64 (wrap64 (1 + (s.size : Int)))] w fun r w' => (∃ v, r = .returned v) ∧ ∃ z, Ct C w' z ∧ z < 0 ∧ Below w0.heap.size w0 w') := by
      rw [e]; exact add_min C w0 _ x HC.out.1 hx hC HC.out.2
    clear hm e hs
    go_enter Tryz.func60, Tryz.ntmps60
    go_wp2_with (go_at_call 61; refine HAM.out.mono ?_; rintro r w2 ⟨⟨b, rfl⟩, z, hc2, hz2, hk2⟩; have HF : Hid (Ct C w2 z ∧ z < 0 ∧ Below w0.heap.size w0 w2) := ⟨hc2, hz2, hk2⟩; clear hc2 hk2 hz2)
    go_end0
    exact ⟨⟨_, rfl⟩, z, HF.out.1, fun h => by have := HF.out.2.1; omega, HF.out.2.2⟩
  · go_enter Tryz.func60, Tryz.ntmps60
    go_wp2_with (go_at_call 61; refine (add_c C w0 _ x (1 + s.size) _ (by omega) (by omega) HC.out.1 hC HC.out.2).mono ?_; rintro r w2 ⟨⟨b, rfl⟩, z, hc2, hz2, hk2⟩; have HF : Hid (Ct C w2 z ∧ (0 ≤ z → 0 ≤ x ∧ z = x - (1 + s.size : Nat)) ∧ Below w0.heap.size w0 w2) := ⟨hc2, hz2, hk2⟩; clear hc2 hk2 hz2)
    go_end0
    exact ⟨⟨_, rfl⟩, z, HF.out.1, fun h => by have := HF.out.2.1 h; omega, HF.out.2.2⟩

theorem many_any (w : World) :
    Calls Tryz.prog 19 #[.int .i64 32768] w fun r w' => r = .returned (.pointer (some ⟨w.heap.size, 0, none⟩)) ∧ Ct w.heap.size w' 32768 ∧ Below w.heap.size w w' := by
  go_enter Tryz.func19, Tryz.ntmps19
  go_wp2
  go_ret
  exact ⟨rfl, ⟨by simp, by rw [World.cell?_alloc_at _ _ _ _ rfl]; rfl, World.frozen?_alloc_at _ _ _ _ rfl, by omega⟩, (Below.refl _ _).alloc (Nat.le_refl _) _⟩

def bulkE (x : En) : Nat := 1 + x.1.size + x.2.2.2.size
theorem isE_at {w : World} {a : Option Addr} {l : List En} (h : Erw.IsE w a l) {k : Nat} (hk : k < l.length) : ∃ b off x, a = some ⟨b, off, none⟩ ∧ l[k]? = some x ∧ b < w.heap.size ∧ w.cell? ⟨b, off + k * 4, none⟩ = some (.string x.1) ∧ w.cell? ⟨b, off + k * 4 + 1, none⟩ = some (.int .u64 x.2.1) ∧ w.cell? ⟨b, off + k * 4 + 2, none⟩ = some (.bool x.2.2.1) ∧ w.cell? ⟨b, off + k * 4 + 3, none⟩ = some (.string x.2.2.2) := by
  obtain ⟨b, off, e, hr⟩ := h.at_ (by omega)
  have hx : l[k]? = some l[k] := List.getElem?_eq_getElem hk
  exact ⟨b, off, l[k], e, hx, hr.1, hr.2 k _ hx⟩
set_option maxHeartbeats 1000000 in
theorem entries_c (C : Nat) (w0 w : World) (x : Int) (a : Option Addr) (cap n : Nat) (l : List En) (hn : l.length = n) (hmx : (n : Int) ≤ 9223372036854775807) (h : Ct C w x) (hC : w0.heap.size ≤ C) (hb : Below w0.heap.size w0 w) (hw : Erw.IsE w0 a l) (hsz : ∀ e ∈ l, e.1.size ≤ maxLen ∧ e.2.2.2.size ≤ maxLen) :
    Calls Tryz.prog 20 #[.pointer (some ⟨C, 0, none⟩), .slice a n cap] w fun r w' => (∃ v, r = .returned v) ∧ ∃ z, Ct C w' z ∧ (0 ≤ z → 0 ≤ x ∧ z = x - (l.map bulkE).sum) ∧ Below w0.heap.size w0 w' := by
  have HC : Hid (Ct C w x ∧ Below w0.heap.size w0 w) := ⟨h, hb⟩
  have HW : Hid (Erw.IsE w0 a l) := hw
  have HN : Hid (l.length = n) := hn
  have HSZ : Hid (∀ e ∈ l, e.1.size ≤ maxLen ∧ e.2.2.2.size ≤ maxLen) := hsz
  clear h hw hn hb hsz
  go_enter Tryz.func20, Tryz.ntmps20
  go_wp2
  go_loopw [4] (fun i wr => ∃ (k : Nat) (z : Int), k ≤ n ∧ i = .int .i64 (k : Int) ∧ Hid (Ct C wr z ∧ (0 ≤ z → 0 ≤ x ∧ z = x - ((l.take k).map bulkE).sum) ∧ Below w0.heap.size w0 wr)) (fun i _ => n - (intOf i).toNat)
  case atStart => exact ⟨0, x, Nat.zero_le _, rfl, HC.out.1, fun h => ⟨h, by simp⟩, HC.out.2⟩
  case round =>
    obtain ⟨k, z, hk, rfl, HK⟩ := hrel
    rename World => wr
    by_cases hlt : k < n
    · have q1 : (k : Int) < (n : Int) := by omega
      have x2 := HK.out.1.2.1
      by_cases hx0 : 0 ≤ z
      · have hkl : k < l.length := by rw [HN.out]; exact hlt
        obtain ⟨b, off, ⟨kk, ss, dd, vv⟩, rfl, hx, hbl, c0, c1, c2, c3⟩ := isE_at (HW.out.below HK.out.2.2) hkl
        have hsz := HSZ.out _ (List.mem_of_getElem? hx)
        have HX : Hid (l[k]? = some (kk, ss, dd, vv)) := hx
        have HBK : Hid (((l.take (k + 1)).map bulkE).sum = ((l.take k).map bulkE).sum + bulkE (kk, ss, dd, vv)) := sum_take hx
        dsimp only at c0 c1 c2 c3 hsz
        have hvv := hsz.2
        unfold maxLen at hvv
        clear hx hkl
        go_wp2_with (first | (go_at_call 21; refine (ok_x C _ z true x2 (decide_eq_true hx0)).mono ?_; rintro r w3 ⟨rfl, rfl⟩) | (go_at_call 60; refine (text_c C w0 _ z _ hsz.1 HK.out.1 hC HK.out.2.2 hx0).mono ?_; rintro r w2 ⟨⟨v2, rfl⟩, z2, hc2, hz2, hk2⟩; have HF : Hid (Ct C w2 z2 ∧ (0 ≤ z2 → 0 ≤ z ∧ z2 = z - 1 - kk.size) ∧ Below w0.heap.size w0 w2) := ⟨hc2, hz2, hk2⟩; have d2 : w2.cell? ⟨b, off + k * 4 + 3, none⟩ = some (.string vv) := (by obtain ⟨b', off', e', hr'⟩ := (HW.out.below HF.out.2.2) (by intro e; have h9 := HX.out; rw [e] at h9; cases h9); cases e'; exact (hr'.2 k _ HX.out).2.2.2); clear hc2 hk2 hz2 c0 c1 c2 c3 x2) | (go_at_call 61; refine (add_c C w0 _ z2 vv.size _ rfl hvv HF.out.1 hC HF.out.2.2).mono ?_; rintro r w4 ⟨⟨b4, rfl⟩, z4, hc4, hz4, hk4⟩; have HF4 : Hid (Ct C w4 z4 ∧ (0 ≤ z4 → 0 ≤ z2 ∧ z4 = z2 - vv.size) ∧ Below w0.heap.size w0 w4) := ⟨hc4, hz4, hk4⟩; clear hc4 hk4 hz4))
        go_roundw
        case rel =>
          refine ⟨k + 1, z4, by omega, by go_num, HF4.out.1, fun h => ?_, HF4.out.2.2⟩
          have h1 := HF4.out.2.1 h
          have h2 := HF.out.2.1 h1.1
          have h3 := HK.out.2.1 h2.1
          rw [HBK.out, show bulkE (kk, ss, dd, vv) = 1 + kk.size + vv.size from rfl]
          omega
        case measure => simp [intOf]; omega
      · go_wp2_with (go_at_call 21; refine (ok_x C _ z false x2 (decide_eq_false hx0)).mono ?_; rintro r w3 ⟨rfl, rfl⟩)
        go_end0
        exact ⟨⟨_, rfl⟩, z, HK.out.1, fun h => absurd h (by omega), HK.out.2.2⟩
    · obtain rfl : k = n := by omega
      go_wp2
      go_end0
      refine ⟨⟨_, rfl⟩, z, HK.out.1, fun h => ?_, HK.out.2.2⟩
      have := HK.out.2.1 h
      rw [List.take_of_length_le (by rw [HN.out]; exact Nat.le_refl _)] at this
      exact this
theorem sum_mem {l : List En} {e : En} (h : e ∈ l) : bulkE e ≤ (l.map bulkE).sum := by
  induction l with
  | nil => simp at h
  | cons x t ih =>
    simp only [List.map_cons, List.sum_cons]
    rcases List.mem_cons.1 h with rfl | h
    · omega
    · have := ih h; omega
def SmIs (w : World) (l : List En) (r : Ending) (w' : World) : Prop := (∃ b : Bool, r = .returned (.bool b) ∧ (b = true → l.length ≤ 200 ∧ (l.map bulkE).sum ≤ 32768)) ∧ Below w.heap.size w w'
set_option maxHeartbeats 1000000 in
theorem small_any (w : World) (a : Option Addr) (cap n : Nat) (l : List En) (hn : l.length = n) (hmx : (n : Int) ≤ 9223372036854775807) (hw : Erw.IsE w a l) (hsz : ∀ e ∈ l, e.1.size ≤ maxLen ∧ e.2.2.2.size ≤ maxLen) :
    Calls Tryz.prog 5 #[.slice a n cap] w fun r w' => SmIs w l r w' := by
  have HW : Hid (Erw.IsE w a l ∧ l.length = n ∧ ∀ e ∈ l, e.1.size ≤ maxLen ∧ e.2.2.2.size ≤ maxLen) := ⟨hw, hn, hsz⟩
  clear hw hn hsz
  by_cases h200 : (n : Int) ≤ 200
  · go_enter Tryz.func5, Tryz.ntmps5
    go_wp2_with (first | (go_at_call 19; refine (many_any w).mono ?_; rintro r w1 ⟨rfl, hc1, hk1⟩; have HM : Hid (Ct w.heap.size w1 32768 ∧ Below w.heap.size w w1) := ⟨hc1, hk1⟩; clear hc1 hk1) | (go_at_call 20; refine (entries_c w.heap.size w _ 32768 a cap n l HW.out.2.1 hmx HM.out.1 (Nat.le_refl _) HM.out.2 HW.out.1 HW.out.2.2).mono ?_; rintro r w2 ⟨⟨v2, rfl⟩, z, hc2, hz2, hk2⟩; have HF : Hid (Ct w.heap.size w2 z ∧ (0 ≤ z → 0 ≤ (32768 : Int) ∧ z = 32768 - (l.map bulkE).sum) ∧ Below w.heap.size w w2) := ⟨hc2, hz2, hk2⟩; clear hc2 hz2 hk2) | (go_at_call 21; refine (ok_x w.heap.size _ z (decide (0 ≤ z)) HF.out.1.2.1 rfl).mono ?_; rintro r w3 ⟨rfl, rfl⟩))
    go_ret
    refine ⟨⟨_, rfl, fun h => ?_⟩, HF.out.2.2⟩
    have h0 : 0 ≤ z := by simpa using h
    have := HF.out.2.1 h0
    have := HW.out.2.1
    omega
  · go_enter Tryz.func5, Tryz.ntmps5
    go_wp2_with (first | (go_at_call 19; refine (many_any w).mono ?_; rintro r w1 ⟨rfl, hc1, hk1⟩; have HM : Hid (Ct w.heap.size w1 32768 ∧ Below w.heap.size w w1) := ⟨hc1, hk1⟩; clear hc1 hk1) | (go_at_call 20; refine (entries_c w.heap.size w _ 32768 a cap n l HW.out.2.1 hmx HM.out.1 (Nat.le_refl _) HM.out.2 HW.out.1 HW.out.2.2).mono ?_; rintro r w2 ⟨⟨v2, rfl⟩, z, hc2, hz2, hk2⟩; have HF : Hid (Below w.heap.size w w2) := hk2; clear hc2 hz2 hk2))
    go_ret
    exact ⟨⟨false, rfl, fun h => by cases h⟩, HF.out⟩
end Qg
end Go.Proofs.YtnoipjeoclkeoaaGreatDoor
namespace Go.Proofs.YtnoipjeoclkeoaaGreatDoor
namespace Qb
open Go.RowKit CMath Byt Laws Irw Crw Cod
set_option linter.unusedVariables false
set_option linter.unusedSimpArgs false
set_option maxRecDepth 100000

theorem num_any (x : Int) (w : World) : Calls Tryz.prog 9 #[.int .i64 x] w fun e w' => e = .returned (.int .i64 x) ∧ w' = w := by
  go_enter Tryz.func9, Tryz.ntmps9
  go_wp2
  go_ret
  exact ⟨rfl, rfl⟩

/-- The entries that a maker takes. -/
def mdStep (acc : List En) (e : En) : List En := if adds (lastE ⟨#[]⟩ acc) e = 0 then acc ++ [e] else acc
def mds (l : List En) : List En := l.foldl mdStep []
theorem mds_snoc (l : List En) (e : En) : mds (l ++ [e]) = mdStep (mds l) e := by simp [mds]
theorem mds_take {l : List En} {k : Nat} {e : En} (h : l[k]? = some e) : mds (l.take (k + 1)) = mdStep (mds (l.take k)) e := by
  rw [List.take_add_one, h]
  exact mds_snoc _ _
theorem mds_all (l : List En) : chain ⟨#[]⟩ (mds l) ∧ (∀ e ∈ mds l, e ∈ l) ∧ (mds l).length ≤ l.length := by
  have key : ∀ (l acc : List En), chain ⟨#[]⟩ acc → chain ⟨#[]⟩ (l.foldl mdStep acc) ∧ (∀ e ∈ l.foldl mdStep acc, e ∈ acc ∨ e ∈ l) ∧ (l.foldl mdStep acc).length ≤ acc.length + l.length := by
    intro l
    induction l with
    | nil => intro acc h; exact ⟨h, fun e he => .inl he, by simp⟩
    | cons x l ih =>
      intro acc h
      have h1 : chain ⟨#[]⟩ (mdStep acc x) := by
        unfold mdStep
        split
        · rename_i h2; exact chain_snoc h h2
        · exact h
      have h3 := ih _ h1
      refine ⟨h3.1, fun e he => ?_, ?_⟩
      · rcases h3.2.1 e he with h4 | h4
        · unfold mdStep at h4
          split at h4
          · rcases List.mem_append.1 h4 with h5 | h5
            · exact .inl h5
            · rw [List.mem_singleton.1 h5]; exact .inr List.mem_cons_self
          · exact .inl h4
        · exact .inr (List.mem_cons_of_mem _ h4)
      · have h5 : (mdStep acc x).length ≤ acc.length + 1 := by
          unfold mdStep
          split
          · simp
          · omega
        have := h3.2.2
        simp only [List.foldl_cons, List.length_cons]
        omega
  have := key l [] trivial
  refine ⟨this.1, fun e he => ?_, by simpa [mds] using this.2.2⟩
  rcases this.2.1 e he with h | h
  · simp at h
  · exact h
theorem mds_chain {l : List En} (h : chain ⟨#[]⟩ l) : mds l = l := by
  have key : ∀ (l acc : List En), chain (lastE ⟨#[]⟩ acc) l → l.foldl mdStep acc = acc ++ l := by
    intro l
    induction l with
    | nil => intro acc _; simp
    | cons x l ih =>
      intro acc h
      have h1 : mdStep acc x = acc ++ [x] := by unfold mdStep; rw [if_pos h.1]
      simp only [List.foldl_cons]
      rw [h1, ih _ (by rw [lastE_snoc]; exact h.2)]
      simp
  exact key l [] h
theorem isE_new10 {w : World} {x : En} {u : TypeId} : Erw.IsE (w.alloc (.cells #[.string x.1, .int .u64 x.2.1, .bool x.2.2.1, .string x.2.2.2] u)) (some ⟨w.heap.size, 0, none⟩) [x] := by
  refine Erw.IsE.of ⟨by simp, fun i z hz => ?_⟩
  cases i with
  | zero => simp at hz; subst hz; refine ⟨?_, ?_, ?_, ?_⟩ <;> (rw [World.cell?_alloc_at _ _ _ _ rfl]; rfl)
  | succ i => simp at hz
end Qb
end Go.Proofs.YtnoipjeoclkeoaaGreatDoor
namespace Go.Proofs.YtnoipjeoclkeoaaGreatDoor
namespace Qb
open Go.RowKit CMath Byt Laws Irw Crw Cod
set_option linter.unusedVariables false
set_option linter.unusedSimpArgs false
set_option maxRecDepth 100000

theorem lastK_E (l : List En) : lastK l = lastE ⟨#[]⟩ l := by
  rcases List.eq_nil_or_concat l with rfl | ⟨l', e, rfl⟩
  · rfl
  · rw [List.concat_eq_append, lastK_snoc, lastE_snoc]
/-- What BlockMakes holds: the book, a maker, the entries that were taken. -/
structure Bm (w : World) (M K N : Nat) (r : Int) (acc' acc : List En) (v : Value) (T : Nat → Nat) (W : World) : Prop where
  kept : BookB.Kept T W K N
  ma : MakerAt 9000010 T W M r (pushes (Rn r) st0 acc')
  ow : Erw.OwnE 9000020 T W v acc
  bl : Below w.heap.size w W
  fr : ∀ b, b < w.heap.size → T b = 0
theorem Bm.below {w : World} {M K N : Nat} {r : Int} {acc' acc : List En} {v : Value} {T : Nat → Nat} {W W' : World} (h : Bm w M K N r acc' acc v T W) (hb : Below W.heap.size W W') : Bm w M K N r acc' acc v T W' :=
  ⟨h.kept.below hb, h.ma.below hb, h.ow.below hb, h.bl.trans (hb.mono h.bl.size), h.fr⟩
theorem bel_goes {u : Nat → Prop} {w W W' : World} {T T' : Nat → Nat} (hb : Below w.heap.size w W) (hf : ∀ b, b < w.heap.size → T b = 0) (hg : Goes u T W T' W') (h0 : ¬ u 0) : Below w.heap.size w W' ∧ ∀ b, b < w.heap.size → T' b = 0 :=
  ⟨hb.trans ⟨hg.os, hg.tape, hg.output, hg.size, fun b hl => hg.block b (Nat.lt_of_lt_of_le hl hb.size) (by rw [hf b hl]; exact h0)⟩, fun b hl => (hg.tag b (Nat.lt_of_lt_of_le hl hb.size) (by rw [hf b hl]; exact h0)).trans (hf b hl)⟩
theorem Bm.add {w : World} {M K N : Nat} {r : Int} {acc' acc acc2 : List En} {v : Value} {T T' : Nat → Nat} {W W' : World} (h : Bm w M K N r acc' acc v T W) (hm : MakerAt 9000010 T' W' M r (pushes (Rn r) st0 acc2)) (hg : Goes (Mk 9000010) T W T' W') : Bm w M K N r acc2 acc v T' W' := by
  have h0 := bel_goes h.bl h.fr hg (by unfold Mk; omega)
  exact ⟨h.kept.goes hg (fun x hx => by unfold Mk at hx; omega), hm, h.ow.goes hg (by unfold Mk; omega), h0.1, h0.2⟩
theorem Bm.app {w : World} {M K N : Nat} {r : Int} {acc' acc acc2 : List En} {v v2 : Value} {T T' : Nat → Nat} {W W' : World} (h : Bm w M K N r acc' acc v T W) (ho : Erw.OwnE 9000020 T' W' v2 acc2) (hg : Goes (· = 9000020) T W T' W') : Bm w M K N r acc' acc2 v2 T' W' := by
  have h0 := bel_goes h.bl h.fr hg (by omega)
  exact ⟨h.kept.goes hg (fun x hx => by omega), h.ma.goes hg (by omega) (by omega) (by omega), ho, h0.1, h0.2⟩
/-- New bytes are to be kept. -/
theorem Bm.make {w : World} {M K N : Nat} {r : Int} {acc' acc : List En} {v : Value} {T : Nat → Nat} {W W' : World} (h : Bm w M K N r acc' acc v T W) (hb : Below W.heap.size W W') {vb : Value} {l : List Nat} (hn : Byt.Own 5 W.heap.size W' vb l) :
    ∃ g c T', vb = .slice (some ⟨g, 0, none⟩) l.length c ∧ l.length ≤ c ∧ Bm w M K N r acc' acc v T' W' ∧ BookB.Live 1 T' W' (some ⟨g, 0, none⟩) c l ∧ ∀ b, b < W.heap.size → T' b = T b := by
  have hle := (New.ofOwn hn).elim fun a h => h.elim fun c' h => (⟨a, c', h.1, h.2.le, h.2⟩ : ∃ a c', vb = .slice a l.length c' ∧ l.length ≤ c' ∧ New 5 W.heap.size W' a c' l)
  obtain ⟨a1, c1, e1, h1, hnew⟩ := hle
  obtain ⟨g, c, rfl, hrow, hby⟩ := hn
  simp only [Value.slice.injEq] at e1
  obtain ⟨rfl, _, rfl⟩ := e1
  obtain ⟨z1, z2⟩ := hrow.lt g rfl
  have hz := h.kept.2 g z1
  have hown : BookB.OwnI W' (g, c, l) := BookB.OwnI.of (BookB.own_base hrow (fun _ _ => Nat.zero_le _))
  have no : ∀ b, b < W.heap.size → BookB.upd T g (9000000 + 1) b = T b := fun b hb' => BookB.upd_other _ _ (by omega)
  have hg : Goes (fun _ => False) T W (BookB.upd T g (9000000 + 1)) W' := ⟨hb.os, hb.tape, hb.output, hb.size, fun b hl _ => hb.block b hl, fun b hl _ => no b hl, fun b hl h0 => (BookB.upd_other _ _ (by omega)).trans h0⟩
  refine ⟨g, c, BookB.upd T g (9000000 + 1), rfl, h1, ⟨(h.kept.below hb).tag g 1 hz z2, h.ma.goes hg (fun z => z) (fun z => z) (fun z => z), h.ow.goes hg (fun z => z), h.bl.trans (hb.mono h.bl.size), fun b hl => (no b (Nat.lt_of_lt_of_le hl h.bl.size)).trans (h.fr b hl)⟩, ⟨⟨g, rfl, hown, BookB.upd_same _ _ _⟩, hby, h1, BookB.own_cap hrow⟩, no⟩
/-- Bytes go to the book. -/
theorem Bm.book {w : World} {M K N : Nat} {r : Int} {acc' acc : List En} {v : Value} {T : Nat → Nat} {W : World} (h : Bm w M K N r acc' acc v T W) (hN : N + 1 ≤ 1000) {a : Option Addr} {c n : Nat} {l : List Nat} (mark : Int) (ha : BookB.Live 1 T W a c l) (hl : l.length ≤ 1000000000000) (hn : n = l.length) :
    Calls Tryz.prog 14 #[.pointer (some ⟨K, 0, none⟩), .slice a n c, .int .i64 mark] W fun e w' => e = .returned (.tuple #[]) ∧ ∃ T', Bm w M K (N + 1) r acc' acc v T' w' ∧ BookB.Go_ 1 T W T' w' := by
  refine (h.kept.bytes hN mark ha hl hn).mono ?_
  rintro e w' ⟨rfl, T', h1, h2⟩
  have hg : Goes (fun x => ¬ (x = 0 ∨ 9000000 ≤ x) ∨ x = 9000001) T W T' w' := ⟨h2.os, h2.tape, h2.output, h2.size, fun b hb hu => (h2.block b hb (by omega) (by omega)).1, fun b hb hu => (h2.block b hb (by omega) (by omega)).2, fun b hb _ => h1.2 b hb⟩
  have h0 := bel_goes h.bl h.fr hg (by omega)
  exact ⟨rfl, T', ⟨h1, h.ma.goes hg (by omega) (by omega) (by omega), h.ow.goes hg (by omega), h0.1, h0.2⟩, h2⟩
/-- Bytes of tag 0 stay while the book turns. -/
theorem isB_book {T T' : Nat → Nat} {W w' : World} {a : Option Addr} {l : List Nat} (h : IsB W a l) (hg : BookB.Go_ 1 T W T' w') (ht : ∀ b off, a = some ⟨b, off, none⟩ → T b = 0) : IsB w' a l := by
  refine ⟨fun hne => ?_, h.2⟩
  obtain ⟨b, off, e, hr⟩ := h.1 hne
  exact ⟨b, off, e, hr.keep (hg.block b hr.1 (.inl (ht b off e)) (by rw [ht b off e]; omega)).1 hg.size⟩
end Qb
end Go.Proofs.YtnoipjeoclkeoaaGreatDoor
