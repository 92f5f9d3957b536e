import Derived.Test.YtjnmklbhhlfhcaaGreatDoorQcM
import Derived.Test.YtjnmklbhhlfhcaaGreatDoorEAp
import Derived.Deep.QuietTactic
import Derived.BigQuiet
import Derived.Test.YtjnmklbhhlfhcaaGreatDoorQb9
namespace Go.Proofs.YtjnmklbhhlfhcaaGreatDoor
namespace Qg
open Go.RowKit Laws Irw Crw
set_option linter.unusedVariables false
set_option maxRecDepth 100000
set_option linter.unusedSimpArgs false
abbrev En := ByteArray × Int × Bool × ByteArray
theorem sum_take {α : Type} {f : α → Nat} {l : List α} {k : Nat} {x : α} (h : l[k]? = some x) : ((l.take (k + 1)).map f).sum = ((l.take k).map f).sum + f x := by
  rw [List.take_add_one, h]
  simp
/-- a count as it lies -/
def Ct (C : Nat) (w : World) (x : Int) : Prop := C < w.heap.size ∧ w.cell? ⟨C, 0, none⟩ = some (.int .i64 x) ∧ w.frozen? ⟨C, 0, none⟩ = false ∧ x ≤ 32768
theorem Ct.set {C : Nat} {w : World} {x : Int} (h : Ct C w x) (y : Int) (hy : y ≤ 32768) : Ct C (w.setCell ⟨C, 0, none⟩ (.int .i64 y)) y := by
  obtain ⟨h1, h2, h3, h4⟩ := h
  exact ⟨by simpa using h1, World.cell?_setCell_same _ _ _ h2, by rw [World.frozen?_setCell]; exact h3, hy⟩
theorem ok_x (C : Nat) (w : World) (x : Int) (b : Bool) (h2 : w.cell? ⟨C, 0, none⟩ = some (.int .i64 x)) (hb : decide (0 ≤ x) = b) :
    Calls Tryz.prog 20 #[.pointer (some ⟨C, 0, none⟩)] w fun r w' => r = .returned (.bool b) ∧ w' = w := by
  go_enter Tryz.func20, Tryz.ntmps20
  go_wp2
  go_ret
  refine ⟨?_, rfl⟩
  rw [← hb]
  rfl
theorem add_c (C : Nat) (w0 w : World) (x : Int) (n : Nat) (y : Int) (hy : y = n) (hn : n ≤ 9223372036854775807) (h : Ct C w x) (hC : w0.heap.size ≤ C) (hb : Below w0.heap.size w0 w) :
    Calls Tryz.prog 60 #[.pointer (some ⟨C, 0, none⟩), .int .i64 y] w fun r w' => (∃ v, r = .returned v) ∧ ∃ z, Ct C w' z ∧ (0 ≤ z → 0 ≤ x ∧ z = x - n) ∧ Below w0.heap.size w0 w' := by
  subst hy
  have HC : Hid (Ct C w x ∧ Below w0.heap.size w0 w) := ⟨h, hb⟩
  clear hb
  obtain ⟨h1, h2, h3, h4⟩ := h
  by_cases hx : 0 ≤ x
  · go_enter Tryz.func60, Tryz.ntmps60
    go_wp2
    go_ret
    exact ⟨⟨_, rfl⟩, x - n, HC.out.1.set _ (by omega), fun _ => ⟨hx, rfl⟩, HC.out.2.setCell (p := ⟨C, 0, none⟩) hC _⟩
  · go_enter Tryz.func60, Tryz.ntmps60
    go_wp2
    go_ret
    exact ⟨⟨_, rfl⟩, x, HC.out.1, fun h => by omega, HC.out.2⟩
set_option maxHeartbeats 1000000 in
theorem add_min (C : Nat) (w0 w : World) (x : Int) (h : Ct C w x) (hx : 0 ≤ x) (hC : w0.heap.size ≤ C) (hb : Below w0.heap.size w0 w) :
    Calls Tryz.prog 60 #[.pointer (some ⟨C, 0, none⟩), .int .i64 (-9223372036854775808)] w fun r w' => (∃ v, r = .returned v) ∧ ∃ z, Ct C w' z ∧ z < 0 ∧ Below w0.heap.size w0 w' := by
  have HC : Hid (Ct C w x ∧ Below w0.heap.size w0 w) := ⟨h, hb⟩
  clear hb
  obtain ⟨h1, h2, h3, h4⟩ := h
  have e : IntKind.i64.wrap (x - -9223372036854775808) = x - 9223372036854775808 := by rw [IntKind.wrap_i64]; omega
  have e2 : IntKind.i64.wrap (x + 9223372036854775808) = x - 9223372036854775808 := by rw [IntKind.wrap_i64]; omega
  go_enter Tryz.func60, Tryz.ntmps60
  go_wp2
  go_ret
  exact ⟨⟨_, rfl⟩, x - 9223372036854775808, HC.out.1.set _ (by omega), by omega, HC.out.2.setCell (p := ⟨C, 0, none⟩) hC _⟩
set_option maxHeartbeats 1000000 in
theorem text_c (C : Nat) (w0 w : World) (x : Int) (s : ByteArray) (hs : s.size ≤ maxLen) (h : Ct C w x) (hC : w0.heap.size ≤ C) (hb : Below w0.heap.size w0 w) (hx : 0 ≤ x) :
    Calls Tryz.prog 59 #[.pointer (some ⟨C, 0, none⟩), .string s] w fun r w' => (∃ v, r = .returned v) ∧ ∃ z, Ct C w' z ∧ (0 ≤ z → 0 ≤ x ∧ z = x - 1 - s.size) ∧ Below w0.heap.size w0 w' := by
  have HC : Hid (Ct C w x ∧ Below w0.heap.size w0 w) := ⟨h, hb⟩
  clear h hb
  unfold maxLen at hs
  by_cases hm : s.size = 9223372036854775807
  · have e : wrap64 (1 + (s.size : Int)) = -9223372036854775808 := by unfold wrap64; omega
    have HAM : Hid (Calls Tryz.prog 60 #[.pointer (some ⟨C, 0, none⟩), .int .i64 (wrap64 (1 + (s.size : Int)))] w fun r w' => (∃ v, r = .returned v) ∧ ∃ z, Ct C w' z ∧ z < 0 ∧ Below w0.heap.size w0 w') := by
      rw [e]; exact add_min C w0 _ x HC.out.1 hx hC HC.out.2
    clear hm e hs
    go_enter Tryz.func59, Tryz.ntmps59
    go_wp2_with (go_at_call 60; refine HAM.out.mono ?_; rintro r w2 ⟨⟨b, rfl⟩, z, hc2, hz2, hk2⟩; have HF : Hid (Ct C w2 z ∧ z < 0 ∧ Below w0.heap.size w0 w2) := ⟨hc2, hz2, hk2⟩; clear hc2 hk2 hz2)
    go_end0
    exact ⟨⟨_, rfl⟩, z, HF.out.1, fun h => by have := HF.out.2.1; omega, HF.out.2.2⟩
  · go_enter Tryz.func59, Tryz.ntmps59
    go_wp2_with (go_at_call 60; refine (add_c C w0 _ x (1 + s.size) _ (by omega) (by omega) HC.out.1 hC HC.out.2).mono ?_; rintro r w2 ⟨⟨b, rfl⟩, z, hc2, hz2, hk2⟩; have HF : Hid (Ct C w2 z ∧ (0 ≤ z → 0 ≤ x ∧ z = x - (1 + s.size : Nat)) ∧ Below w0.heap.size w0 w2) := ⟨hc2, hz2, hk2⟩; clear hc2 hk2 hz2)
    go_end0
    exact ⟨⟨_, rfl⟩, z, HF.out.1, fun h => by have := HF.out.2.1 h; omega, HF.out.2.2⟩

theorem many_any (w : World) :
    Calls Tryz.prog 18 #[.int .i64 32768] w fun r w' => r = .returned (.pointer (some ⟨w.heap.size, 0, none⟩)) ∧ Ct w.heap.size w' 32768 ∧ Below w.heap.size w w' := by
  go_enter Tryz.func18, Tryz.ntmps18
  go_wp2
  go_ret
  exact ⟨rfl, ⟨by simp, by rw [World.cell?_alloc_at _ _ _ _ rfl]; rfl, World.frozen?_alloc_at _ _ _ _ rfl, by omega⟩, (Below.refl _ _).alloc (Nat.le_refl _) _⟩

def bulkE (x : En) : Nat := 1 + x.1.size + x.2.2.2.size
theorem isE_at {w : World} {a : Option Addr} {l : List En} (h : Erw.IsE w a l) {k : Nat} (hk : k < l.length) : ∃ b off x, a = some ⟨b, off, none⟩ ∧ l[k]? = some x ∧ b < w.heap.size ∧ w.cell? ⟨b, off + k * 4, none⟩ = some (.string x.1) ∧ w.cell? ⟨b, off + k * 4 + 1, none⟩ = some (.int .u64 x.2.1) ∧ w.cell? ⟨b, off + k * 4 + 2, none⟩ = some (.bool x.2.2.1) ∧ w.cell? ⟨b, off + k * 4 + 3, none⟩ = some (.string x.2.2.2) := by
  obtain ⟨b, off, e, hr⟩ := h.at_ (by omega)
  have hx : l[k]? = some l[k] := List.getElem?_eq_getElem hk
  exact ⟨b, off, l[k], e, hx, hr.1, hr.2 k _ hx⟩
set_option maxHeartbeats 1000000 in
theorem entries_c (C : Nat) (w0 w : World) (x : Int) (a : Option Addr) (cap n : Nat) (l : List En) (hn : l.length = n) (hmx : (n : Int) ≤ 9223372036854775807) (h : Ct C w x) (hC : w0.heap.size ≤ C) (hb : Below w0.heap.size w0 w) (hw : Erw.IsE w0 a l) (hsz : ∀ e ∈ l, e.1.size ≤ maxLen ∧ e.2.2.2.size ≤ maxLen) :
    Calls Tryz.prog 19 #[.pointer (some ⟨C, 0, none⟩), .slice a n cap] w fun r w' => (∃ v, r = .returned v) ∧ ∃ z, Ct C w' z ∧ (0 ≤ z → 0 ≤ x ∧ z = x - (l.map bulkE).sum) ∧ Below w0.heap.size w0 w' := by
  have HC : Hid (Ct C w x ∧ Below w0.heap.size w0 w) := ⟨h, hb⟩
  have HW : Hid (Erw.IsE w0 a l) := hw
  have HN : Hid (l.length = n) := hn
  have HSZ : Hid (∀ e ∈ l, e.1.size ≤ maxLen ∧ e.2.2.2.size ≤ maxLen) := hsz
  clear h hw hn hb hsz
  go_enter Tryz.func19, Tryz.ntmps19
  go_wp2
  go_loopw [4] (fun i wr => ∃ (k : Nat) (z : Int), k ≤ n ∧ i = .int .i64 (k : Int) ∧ Hid (Ct C wr z ∧ (0 ≤ z → 0 ≤ x ∧ z = x - ((l.take k).map bulkE).sum) ∧ Below w0.heap.size w0 wr)) (fun i _ => n - (intOf i).toNat)
  case atStart => exact ⟨0, x, Nat.zero_le _, rfl, HC.out.1, fun h => ⟨h, by simp⟩, HC.out.2⟩
  case round =>
    obtain ⟨k, z, hk, rfl, HK⟩ := hrel
    rename World => wr
    by_cases hlt : k < n
    · have q1 : (k : Int) < (n : Int) := by omega
      have x2 := HK.out.1.2.1
      by_cases hx0 : 0 ≤ z
      · have hkl : k < l.length := by rw [HN.out]; exact hlt
        obtain ⟨b, off, ⟨kk, ss, dd, vv⟩, rfl, hx, hbl, c0, c1, c2, c3⟩ := isE_at (HW.out.below HK.out.2.2) hkl
        have hsz := HSZ.out _ (List.mem_of_getElem? hx)
        have HX : Hid (l[k]? = some (kk, ss, dd, vv)) := hx
        have HBK : Hid (((l.take (k + 1)).map bulkE).sum = ((l.take k).map bulkE).sum + bulkE (kk, ss, dd, vv)) := sum_take hx
        dsimp only at c0 c1 c2 c3 hsz
        have hvv := hsz.2
        unfold maxLen at hvv
        clear hx hkl
        go_wp2_with (first | (go_at_call 20; refine (ok_x C _ z true x2 (decide_eq_true hx0)).mono ?_; rintro r w3 ⟨rfl, rfl⟩) | (go_at_call 59; refine (text_c C w0 _ z _ hsz.1 HK.out.1 hC HK.out.2.2 hx0).mono ?_; rintro r w2 ⟨⟨v2, rfl⟩, z2, hc2, hz2, hk2⟩; have HF : Hid (Ct C w2 z2 ∧ (0 ≤ z2 → 0 ≤ z ∧ z2 = z - 1 - kk.size) ∧ Below w0.heap.size w0 w2) := ⟨hc2, hz2, hk2⟩; have d2 : w2.cell? ⟨b, off + k * 4 + 3, none⟩ = some (.string vv) := (by obtain ⟨b', off', e', hr'⟩ := (HW.out.below HF.out.2.2) (by intro e; have h9 := HX.out; rw [e] at h9; cases h9); cases e'; exact (hr'.2 k _ HX.out).2.2.2); clear hc2 hk2 hz2 c0 c1 c2 c3 x2) | (go_at_call 60; refine (add_c C w0 _ z2 vv.size _ rfl hvv HF.out.1 hC HF.out.2.2).mono ?_; rintro r w4 ⟨⟨b4, rfl⟩, z4, hc4, hz4, hk4⟩; have HF4 : Hid (Ct C w4 z4 ∧ (0 ≤ z4 → 0 ≤ z2 ∧ z4 = z2 - vv.size) ∧ Below w0.heap.size w0 w4) := ⟨hc4, hz4, hk4⟩; clear hc4 hk4 hz4))
        go_roundw
        case rel =>
          refine ⟨k + 1, z4, by omega, by go_num, HF4.out.1, fun h => ?_, HF4.out.2.2⟩
          have h1 := HF4.out.2.1 h
          have h2 := HF.out.2.1 h1.1
          have h3 := HK.out.2.1 h2.1
          rw [HBK.out, show bulkE (kk, ss, dd, vv) = 1 + kk.size + vv.size from rfl]
          omega
        case measure => simp [intOf]; omega
      · go_wp2_with (go_at_call 20; refine (ok_x C _ z false x2 (decide_eq_false hx0)).mono ?_; rintro r w3 ⟨rfl, rfl⟩)
        go_end0
        exact ⟨⟨_, rfl⟩, z, HK.out.1, fun h => absurd h (by omega), HK.out.2.2⟩
    · obtain rfl : k = n := by omega
      go_wp2
      go_end0
      refine ⟨⟨_, rfl⟩, z, HK.out.1, fun h => ?_, HK.out.2.2⟩
      have := HK.out.2.1 h
      rw [List.take_of_length_le (by rw [HN.out]; exact Nat.le_refl _)] at this
      exact this
theorem sum_mem {l : List En} {e : En} (h : e ∈ l) : bulkE e ≤ (l.map bulkE).sum := by
  induction l with
  | nil => simp at h
  | cons x t ih =>
    simp only [List.map_cons, List.sum_cons]
    rcases List.mem_cons.1 h with rfl | h
    · omega
    · have := ih h; omega
def SmIs (w : World) (l : List En) (r : Ending) (w' : World) : Prop := (∃ b : Bool, r = .returned (.bool b) ∧ (b = true → l.length ≤ 200 ∧ (l.map bulkE).sum ≤ 32768)) ∧ Below w.heap.size w w'
set_option maxHeartbeats 1000000 in
theorem small_any (w : World) (a : Option Addr) (cap n : Nat) (l : List En) (hn : l.length = n) (hmx : (n : Int) ≤ 9223372036854775807) (hw : Erw.IsE w a l) (hsz : ∀ e ∈ l, e.1.size ≤ maxLen ∧ e.2.2.2.size ≤ maxLen) :
    Calls Tryz.prog 5 #[.slice a n cap] w fun r w' => SmIs w l r w' := by
  have HW : Hid (Erw.IsE w a l ∧ l.length = n ∧ ∀ e ∈ l, e.1.size ≤ maxLen ∧ e.2.2.2.size ≤ maxLen) := ⟨hw, hn, hsz⟩
  clear hw hn hsz
  by_cases h200 : (n : Int) ≤ 200
  · go_enter Tryz.func5, Tryz.ntmps5
    go_wp2_with (first | (go_at_call 18; refine (many_any w).mono ?_; rintro r w1 ⟨rfl, hc1, hk1⟩; have HM : Hid (Ct w.heap.size w1 32768 ∧ Below w.heap.size w w1) := ⟨hc1, hk1⟩; clear hc1 hk1) | (go_at_call 19; refine (entries_c w.heap.size w _ 32768 a cap n l HW.out.2.1 hmx HM.out.1 (Nat.le_refl _) HM.out.2 HW.out.1 HW.out.2.2).mono ?_; rintro r w2 ⟨⟨v2, rfl⟩, z, hc2, hz2, hk2⟩; have HF : Hid (Ct w.heap.size w2 z ∧ (0 ≤ z → 0 ≤ (32768 : Int) ∧ z = 32768 - (l.map bulkE).sum) ∧ Below w.heap.size w w2) := ⟨hc2, hz2, hk2⟩; clear hc2 hz2 hk2) | (go_at_call 20; refine (ok_x w.heap.size _ z (decide (0 ≤ z)) HF.out.1.2.1 rfl).mono ?_; rintro r w3 ⟨rfl, rfl⟩))
    go_ret
    refine ⟨⟨_, rfl, fun h => ?_⟩, HF.out.2.2⟩
    have h0 : 0 ≤ z := by simpa using h
    have := HF.out.2.1 h0
    have := HW.out.2.1
    omega
  · go_enter Tryz.func5, Tryz.ntmps5
    go_wp2_with (first | (go_at_call 18; refine (many_any w).mono ?_; rintro r w1 ⟨rfl, hc1, hk1⟩; have HM : Hid (Ct w.heap.size w1 32768 ∧ Below w.heap.size w w1) := ⟨hc1, hk1⟩; clear hc1 hk1) | (go_at_call 19; refine (entries_c w.heap.size w _ 32768 a cap n l HW.out.2.1 hmx HM.out.1 (Nat.le_refl _) HM.out.2 HW.out.1 HW.out.2.2).mono ?_; rintro r w2 ⟨⟨v2, rfl⟩, z, hc2, hz2, hk2⟩; have HF : Hid (Below w.heap.size w w2) := hk2; clear hc2 hz2 hk2))
    go_ret
    exact ⟨⟨false, rfl, fun h => by cases h⟩, HF.out⟩
end Qg
end Go.Proofs.YtjnmklbhhlfhcaaGreatDoor
namespace Go.Proofs.YtjnmklbhhlfhcaaGreatDoor
namespace Qb
open Go.RowKit CMath Byt Laws Irw Crw Cod
set_option linter.unusedVariables false
set_option linter.unusedSimpArgs false
set_option maxRecDepth 100000

theorem num_any (x : Int) (w : World) : Calls Tryz.prog 7 #[.int .i64 x] w fun e w' => e = .returned (.int .i64 x) ∧ w' = w := by
  go_enter Tryz.func7, Tryz.ntmps7
  go_wp2
  go_ret
  exact ⟨rfl, rfl⟩

/-- The entries that a maker takes. -/
def mdStep (acc : List En) (e : En) : List En := if adds (lastE ⟨#[]⟩ acc) e = 0 then acc ++ [e] else acc
def mds (l : List En) : List En := l.foldl mdStep []
theorem mds_snoc (l : List En) (e : En) : mds (l ++ [e]) = mdStep (mds l) e := by simp [mds]
theorem mds_take {l : List En} {k : Nat} {e : En} (h : l[k]? = some e) : mds (l.take (k + 1)) = mdStep (mds (l.take k)) e := by
  rw [List.take_add_one, h]
  exact mds_snoc _ _
theorem mds_all (l : List En) : chain ⟨#[]⟩ (mds l) ∧ (∀ e ∈ mds l, e ∈ l) ∧ (mds l).length ≤ l.length := by
  have key : ∀ (l acc : List En), chain ⟨#[]⟩ acc → chain ⟨#[]⟩ (l.foldl mdStep acc) ∧ (∀ e ∈ l.foldl mdStep acc, e ∈ acc ∨ e ∈ l) ∧ (l.foldl mdStep acc).length ≤ acc.length + l.length := by
    intro l
    induction l with
    | nil => intro acc h; exact ⟨h, fun e he => .inl he, by simp⟩
    | cons x l ih =>
      intro acc h
      have h1 : chain ⟨#[]⟩ (mdStep acc x) := by
        unfold mdStep
        split
        · rename_i h2; exact chain_snoc h h2
        · exact h
      have h3 := ih _ h1
      refine ⟨h3.1, fun e he => ?_, ?_⟩
      · rcases h3.2.1 e he with h4 | h4
        · unfold mdStep at h4
          split at h4
          · rcases List.mem_append.1 h4 with h5 | h5
            · exact .inl h5
            · rw [List.mem_singleton.1 h5]; exact .inr List.mem_cons_self
          · exact .inl h4
        · exact .inr (List.mem_cons_of_mem _ h4)
      · have h5 : (mdStep acc x).length ≤ acc.length + 1 := by
          unfold mdStep
          split
          · simp
          · omega
        have := h3.2.2
        simp only [List.foldl_cons, List.length_cons]
        omega
  have := key l [] trivial
  refine ⟨this.1, fun e he => ?_, by simpa [mds] using this.2.2⟩
  rcases this.2.1 e he with h | h
  · simp at h
  · exact h
theorem mds_chain {l : List En} (h : chain ⟨#[]⟩ l) : mds l = l := by
  have key : ∀ (l acc : List En), chain (lastE ⟨#[]⟩ acc) l → l.foldl mdStep acc = acc ++ l := by
    intro l
    induction l with
    | nil => intro acc _; simp
    | cons x l ih =>
      intro acc h
      have h1 : mdStep acc x = acc ++ [x] := by unfold mdStep; rw [if_pos h.1]
      simp only [List.foldl_cons]
      rw [h1, ih _ (by rw [lastE_snoc]; exact h.2)]
      simp
  exact key l [] h
theorem isE_new10 {w : World} {x : En} {u : TypeId} : Erw.IsE (w.alloc (.cells #[.string x.1, .int .u64 x.2.1, .bool x.2.2.1, .string x.2.2.2] u)) (some ⟨w.heap.size, 0, none⟩) [x] := by
  refine Erw.IsE.of ⟨by simp, fun i z hz => ?_⟩
  cases i with
  | zero => simp at hz; subst hz; refine ⟨?_, ?_, ?_, ?_⟩ <;> (rw [World.cell?_alloc_at _ _ _ _ rfl]; rfl)
  | succ i => simp at hz
end Qb
end Go.Proofs.YtjnmklbhhlfhcaaGreatDoor
namespace Go.Proofs.YtjnmklbhhlfhcaaGreatDoor
namespace Qb
open Go.RowKit Go.Shelf CMath Byt Laws Irw Crw Cod Qe
set_option linter.unusedVariables false
set_option linter.unusedSimpArgs false
set_option maxRecDepth 100000

/-- two lists of entries that are alike -/
theorem sameEntries_true (a b : Option Addr) (ca cb n m : Nat) (l : List En) (w : World) (ha : Erw.IsE w a l) (hb : Erw.IsE w b l) (hn : n = l.length) (hm : m = l.length) (hl : n ≤ 1000000000000) :
    Calls Tryz.prog 14 #[.slice a n ca, .slice b m cb] w fun e w' => e = .returned (.bool true) ∧ Below w.heap.size w w' := by
  obtain rfl : m = n := by omega
  clear hm
  have HA : Hid (Erw.IsE w a l) := ha
  have HB : Hid (Erw.IsE w b l) := hb
  have HNN : Hid (m = l.length) := hn
  clear ha hb hn
  go_enter Tryz.func14, Tryz.ntmps14
  go_wp2
  go_loopw [5] (fun i wr => ∃ k q : Nat, k ≤ m ∧ i = .int .i64 k ∧ wr = w.drewN q) (fun i _ => m - (intOf i).toNat)
  case atStart => exact ⟨0, 0, Nat.zero_le _, rfl, rfl⟩
  case round =>
    obtain ⟨k, q, hk, rfl, rfl⟩ := hrel
    by_cases hlt : k < m
    · have hlt' : k < l.length := by rw [← HNN.out]; exact hlt
      obtain ⟨b1, o1, ⟨yk, ys, yd, yv⟩, rfl, hy, _, x0, x1, x2, x3⟩ := Qg.isE_at HA.out hlt'
      obtain ⟨b2, o2, y', rfl, hy', _, y0, y1, y2, y3⟩ := Qg.isE_at HB.out hlt'
      rw [hy] at hy'
      cases hy'
      have q1 : (k : Int) < (m : Int) := by omega
      dsimp only at x0 x1 x2 x3 y0 y1 y2 y3
      clear hlt' hy
      go_wp2
      go_quiet (fail)
      go_wp2
      go_roundw
      case rel => exact ⟨k + 1, _, by omega, by go_num, rfl⟩
      case measure => simp [intOf]; omega
    · go_wp2
      go_ret
      exact ⟨rfl, below_drewN (Below.refl _ _) _⟩
structure MdS2 (w : World) (M : Nat) (r : Int) (acc' acc : List En) (v : Value) (T : Nat → Nat) (W : World) : Prop where
  ma : MakerAt 1 T W M r (pushes (Rn r) st0 acc')
  ow : Erw.OwnE 7 T W v acc
  bl : Below w.heap.size w W
  hi : Hi T W
  fr : ∀ b, b < w.heap.size → T b = 0
abbrev MdSt (w : World) (M : Nat) (r : Int) (acc : List En) (v : Value) (T : Nat → Nat) (W : World) : Prop := MdS2 w M r acc acc v T W
def MdIs (w : World) (R : Nat) (l : List En) (e : Ending) (w' : World) : Prop := ∃ g c a' c', e = .returned (.tuple #[.slice (some ⟨g, 0, none⟩) (blk (pushes R st0 (mds l))).length c, .slice a' (mds l).length c', .bool true]) ∧ w.heap.size ≤ g ∧ (blk (pushes R st0 (mds l))).length ≤ c ∧ c ≤ 9223372036854775807 ∧ IsB w' (some ⟨g, 0, none⟩) (blk (pushes R st0 (mds l))) ∧ Erw.IsE w' a' (mds l) ∧ (mds l).length ≤ c' ∧ (a' = none → c' = 0) ∧ Below w.heap.size w w'
theorem md_next {w w2 w9 : World} {M N : Nat} {r : Int} {acc : List En} {x : En} {aa a9 : Option Addr} {cc c9 : Nat} {T2 T9 : Nat → Nat} (h : MdS2 w M r (acc ++ [x]) acc (.slice aa N cc) T2 w2) (hg : Goes (· = 7) T2 w2 T9 w9) (ho : Erw.OwnE 7 T9 w9 (.slice a9 (acc.length + [x].length) c9) (acc ++ [x])) : MdSt w M r (acc ++ [x]) (.slice a9 (acc.length + 1) c9) T9 w9 :=
  ⟨h.ma.goes hg (by omega) (by omega) (by omega), ho, h.bl.trans ⟨hg.os, hg.tape, hg.output, hg.size, fun b hb => hg.block b (Nat.lt_of_lt_of_le hb h.bl.size) (by rw [h.fr b hb]; omega)⟩, h.hi.goes hg, fun b hb => (hg.tag b (Nat.lt_of_lt_of_le hb h.bl.size) (by rw [h.fr b hb]; omega)).trans (h.fr b hb)⟩
end Qb
end Go.Proofs.YtjnmklbhhlfhcaaGreatDoor
