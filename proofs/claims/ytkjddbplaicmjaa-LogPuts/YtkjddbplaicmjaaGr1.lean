import Derived.Test.YtkjddbplaicmjaaCRw
import Derived.Test.YtkjddbplaicmjaaChk7
import Derived.Test.YtkjddbplaicmjaaLgG
import Derived.Deep.QuietTactic
import Derived.BigQuiet
namespace Go.Proofs.Ytkjddbplaicmjaa
namespace Grp
open Go.RowKit Laws Irw Crw Lg
set_option linter.unusedVariables false
set_option maxRecDepth 100000
set_option linter.unusedSimpArgs false

abbrev Sv := Option Addr × Nat × Nat
def kS : Knd Sv := ⟨63, 1, 24, .slice none 0 0, fun x => [.slice x.1 x.2.1 x.2.2], fun _ => rfl, fun x u hu => by simp at hu; subst hu; rfl, by omega, rfl, by omega⟩
theorem infoS : (Try.prog.info? 63).map (fun i => (i.zero, i.size, i.bytes)) = some (some kS.zero, 1, 24) := by kernel_rfl
theorem infoW : (Try.prog.info? 65).map (fun i => (i.zero, i.size, i.bytes)) = some (some (.agg #[.string ⟨#[]⟩, .bool false, .string ⟨#[]⟩]), 3, 40) := by kernel_rfl
theorem undG : Try.prog.underlying 23 = some (.slice 63) := by kernel_rfl
theorem IsWr.keepB {w w' : World} {a : Option Addr} {ws : List Chk.Wr} (h : Chk.IsWr w a ws) (hb : ∀ b off, a = some ⟨b, off, none⟩ → b < w.heap.size → w'.heap[b]? = w.heap[b]?) (hs : w.heap.size ≤ w'.heap.size) : Chk.IsWr w' a ws := by
  refine ⟨fun hne => ?_, h.2⟩
  obtain ⟨b, off, e, hr⟩ := h.1 hne
  have hk := hb b off e hr.1
  refine ⟨b, off, e, Nat.lt_of_lt_of_le hr.1 hs, fun i x hx => ?_⟩
  obtain ⟨h0, h1, h2⟩ := hr.2 i x hx
  exact ⟨(World.cell?_of_block (a := ⟨b, _, none⟩) hk).trans h0, (World.cell?_of_block (a := ⟨b, _, none⟩) hk).trans h1, (World.cell?_of_block (a := ⟨b, _, none⟩) hk).trans h2⟩
/-- Lists of writes: what a slice of slices holds. -/
def IsG (w : World) (a : Option Addr) (gs : List (List Chk.Wr)) : Prop :=
  ∃ vs : List Sv, vs.length = gs.length ∧ IsK kS w a vs ∧ ∀ (i : Nat) v ws, vs[i]? = some v → gs[i]? = some ws → v.2.1 = ws.length ∧ Chk.IsWr w v.1 ws
theorem IsG.below {w w' : World} {a : Option Addr} {gs : List (List Chk.Wr)} (h : IsG w a gs) (hb : Below w.heap.size w w') : IsG w' a gs := by
  obtain ⟨vs, h1, h2, h3⟩ := h
  exact ⟨vs, h1, h2.below hb, fun i v ws hv hw => ⟨(h3 i v ws hv hw).1, (h3 i v ws hv hw).2.below hb⟩⟩
theorem IsG.rd {w : World} {a : Option Addr} {gs : List (List Chk.Wr)} (h : IsG w a gs) {k : Nat} (hk : k < gs.length) : ∃ b off ad c, a = some ⟨b, off, none⟩ ∧ b < w.heap.size ∧ w.cell? ⟨b, off + k, none⟩ = some (.slice ad (gs.getD k []).length c) ∧ Chk.IsWr w ad (gs.getD k []) := by
  obtain ⟨vs, h1, h2, h3⟩ := h
  obtain ⟨b, off, e, hr⟩ := h2.at_ (by omega)
  have hkv : k < vs.length := by omega
  have hv : vs[k]? = some vs[k] := List.getElem?_eq_getElem hkv
  have hg : gs[k]? = some (gs.getD k []) := by simp [hk]
  obtain ⟨h4, h5⟩ := h3 k _ _ hv hg
  have hc := hr.2 k _ hv 0 _ rfl
  refine ⟨b, off, vs[k].1, vs[k].2.2, e, hr.1, ?_, h5⟩
  have : off + k * kS.size + 0 = off + k := by show off + k * 1 + 0 = _; omega
  rw [this, h4] at hc
  exact hc

/-! How much a group is (screeroom.Count). -/
def bulkW (x : W3) : Nat := 1 + x.1.size + x.2.2.size
def bulkS (ws : List W3) : Nat := (ws.map bulkW).sum
def bulkG (gs : List (List W3)) : Nat := gs.length + (gs.map bulkS).sum
theorem sum_take {α : Type} {f : α → Nat} {l : List α} {k : Nat} {x : α} (h : l[k]? = some x) : ((l.take (k + 1)).map f).sum = ((l.take k).map f).sum + f x := by
  rw [List.take_add_one, h]
  simp
/-- a count as it lies -/
def Ct (C : Nat) (w : World) (x : Int) : Prop := C < w.heap.size ∧ w.cell? ⟨C, 0, none⟩ = some (.int .i64 x) ∧ w.frozen? ⟨C, 0, none⟩ = false ∧ x ≤ 32768
theorem Ct.set {C : Nat} {w : World} {x : Int} (h : Ct C w x) (y : Int) (hy : y ≤ 32768) : Ct C (w.setCell ⟨C, 0, none⟩ (.int .i64 y)) y := by
  obtain ⟨h1, h2, h3, h4⟩ := h
  exact ⟨by simpa using h1, World.cell?_setCell_same _ _ _ h2, by rw [World.frozen?_setCell]; exact h3, hy⟩
theorem ok_x (C : Nat) (w : World) (x : Int) (b : Bool) (h2 : w.cell? ⟨C, 0, none⟩ = some (.int .i64 x)) (hb : decide (0 ≤ x) = b) :
    Calls Try.prog 18 #[.pointer (some ⟨C, 0, none⟩)] w fun r w' => r = .returned (.bool b) ∧ w' = w := by
  go_enter Try.func18, Try.ntmps18
  go_wp2
  go_ret
  refine ⟨?_, rfl⟩
  rw [← hb]
  rfl
theorem add_c (C : Nat) (w0 w : World) (x : Int) (n : Nat) (y : Int) (hy : y = n) (hn : n ≤ 9223372036854775807) (h : Ct C w x) (hC : w0.heap.size ≤ C) (hb : Below w0.heap.size w0 w) :
    Calls Try.prog 45 #[.pointer (some ⟨C, 0, none⟩), .int .i64 y] w fun r w' => (∃ v, r = .returned v) ∧ ∃ z, Ct C w' z ∧ (0 ≤ z → 0 ≤ x ∧ z = x - n) ∧ Below w0.heap.size w0 w' := by
  subst hy
  have HC : Hid (Ct C w x ∧ Below w0.heap.size w0 w) := ⟨h, hb⟩
  clear hb
  obtain ⟨h1, h2, h3, h4⟩ := h
  by_cases hx : 0 ≤ x
  · go_enter Try.func45, Try.ntmps45
    go_wp2
    go_ret
    exact ⟨⟨_, rfl⟩, x - n, HC.out.1.set _ (by omega), fun _ => ⟨hx, rfl⟩, HC.out.2.setCell (p := ⟨C, 0, none⟩) hC _⟩
  · go_enter Try.func45, Try.ntmps45
    go_wp2
    go_ret
    exact ⟨⟨_, rfl⟩, x, HC.out.1, fun h => by omega, HC.out.2⟩
set_option maxHeartbeats 1000000 in
theorem add_min (C : Nat) (w0 w : World) (x : Int) (h : Ct C w x) (hx : 0 ≤ x) (hC : w0.heap.size ≤ C) (hb : Below w0.heap.size w0 w) :
    Calls Try.prog 45 #[.pointer (some ⟨C, 0, none⟩), .int .i64 (-9223372036854775808)] w fun r w' => (∃ v, r = .returned v) ∧ ∃ z, Ct C w' z ∧ z < 0 ∧ Below w0.heap.size w0 w' := by
  have HC : Hid (Ct C w x ∧ Below w0.heap.size w0 w) := ⟨h, hb⟩
  clear hb
  obtain ⟨h1, h2, h3, h4⟩ := h
  have e : IntKind.i64.wrap (x - -9223372036854775808) = x - 9223372036854775808 := by rw [IntKind.wrap_i64]; omega
  have e2 : IntKind.i64.wrap (x + 9223372036854775808) = x - 9223372036854775808 := by rw [IntKind.wrap_i64]; omega
  go_enter Try.func45, Try.ntmps45
  go_wp2
  go_ret
  exact ⟨⟨_, rfl⟩, x - 9223372036854775808, HC.out.1.set _ (by omega), by omega, HC.out.2.setCell (p := ⟨C, 0, none⟩) hC _⟩
set_option maxHeartbeats 1000000 in
theorem text_c (C : Nat) (w0 w : World) (x : Int) (s : ByteArray) (hs : s.size ≤ maxLen) (h : Ct C w x) (hC : w0.heap.size ≤ C) (hb : Below w0.heap.size w0 w) (hx : 0 ≤ x) :
    Calls Try.prog 57 #[.pointer (some ⟨C, 0, none⟩), .string s] w fun r w' => (∃ v, r = .returned v) ∧ ∃ z, Ct C w' z ∧ (0 ≤ z → 0 ≤ x ∧ z = x - 1 - s.size) ∧ Below w0.heap.size w0 w' := by
  have HC : Hid (Ct C w x ∧ Below w0.heap.size w0 w) := ⟨h, hb⟩
  clear h hb
  unfold maxLen at hs
  by_cases hm : s.size = 9223372036854775807
  · have e : wrap64 (1 + (s.size : Int)) = -9223372036854775808 := by unfold wrap64; omega
    have HAM : Hid (Calls Try.prog 45 #[.pointer (some ⟨C, 0, none⟩), .int .i64 (wrap64 (1 + (s.size : Int)))] w fun r w' => (∃ v, r = .returned v) ∧ ∃ z, Ct C w' z ∧ z < 0 ∧ Below w0.heap.size w0 w') := by
      rw [e]; exact add_min C w0 _ x HC.out.1 hx hC HC.out.2
    clear hm e hs
    go_enter Try.func57, Try.ntmps57
    go_wp2_with (go_at_call 45; refine HAM.out.mono ?_; rintro r w2 ⟨⟨b, rfl⟩, z, hc2, hz2, hk2⟩; have HF : Hid (Ct C w2 z ∧ z < 0 ∧ Below w0.heap.size w0 w2) := ⟨hc2, hz2, hk2⟩; clear hc2 hk2 hz2)
    go_end0
    exact ⟨⟨_, rfl⟩, z, HF.out.1, fun h => by have := HF.out.2.1; omega, HF.out.2.2⟩
  · go_enter Try.func57, Try.ntmps57
    go_wp2_with (go_at_call 45; refine (add_c C w0 _ x (1 + s.size) _ (by omega) (by omega) HC.out.1 hC HC.out.2).mono ?_; rintro r w2 ⟨⟨b, rfl⟩, z, hc2, hz2, hk2⟩; have HF : Hid (Ct C w2 z ∧ (0 ≤ z → 0 ≤ x ∧ z = x - (1 + s.size : Nat)) ∧ Below w0.heap.size w0 w2) := ⟨hc2, hz2, hk2⟩; clear hc2 hk2 hz2)
    go_end0
    exact ⟨⟨_, rfl⟩, z, HF.out.1, fun h => by have := HF.out.2.1 h; omega, HF.out.2.2⟩

set_option maxHeartbeats 1000000 in
theorem writes_c (C : Nat) (w0 w : World) (x : Int) (a : Option Addr) (cap n : Nat) (ws : List Chk.Wr) (hn : ws.length = n) (h : Ct C w x) (hC : w0.heap.size ≤ C) (hb : Below w0.heap.size w0 w) (hw : Chk.IsWr w0 a ws) :
    Calls Try.prog 46 #[.pointer (some ⟨C, 0, none⟩), .slice a n cap] w fun r w' => (∃ v, r = .returned v) ∧ ∃ z, Ct C w' z ∧ (0 ≤ z → 0 ≤ x ∧ z = x - bulkS ws) ∧ Below w0.heap.size w0 w' := by
  have HC : Hid (Ct C w x ∧ Below w0.heap.size w0 w) := ⟨h, hb⟩
  have HW : Hid (Chk.IsWr w0 a ws) := hw
  have HN : Hid (ws.length = n) := hn
  have hmx : (n : Int) ≤ 9223372036854775807 := by have := hw.2.1; unfold maxLen at this; omega
  clear h hw hn hb
  go_enter Try.func46, Try.ntmps46
  go_wp2
  go_loopw [4] (fun i wr => ∃ (k : Nat) (z : Int), k ≤ n ∧ i = .int .i64 (k : Int) ∧ Hid (Ct C wr z ∧ (0 ≤ z → 0 ≤ x ∧ z = x - bulkS (ws.take k)) ∧ Below w0.heap.size w0 wr)) (fun i _ => n - (intOf i).toNat)
  case atStart => exact ⟨0, x, Nat.zero_le _, rfl, HC.out.1, fun h => ⟨h, by simp [bulkS]⟩, HC.out.2⟩
  case round =>
    obtain ⟨k, z, hk, rfl, HK⟩ := hrel
    rename World => wr
    by_cases hlt : k < n
    · have q1 : (k : Int) < (n : Int) := by omega
      have x2 := HK.out.1.2.1
      by_cases hx0 : 0 ≤ z
      · have hkl : k < ws.length := by rw [HN.out]; exact hlt
        obtain ⟨b, off, rfl, hr⟩ := (HW.out.below HK.out.2.2).1 (by intro e; rw [e] at hkl; simp at hkl)
        obtain ⟨kk, dd, vv, hx⟩ : ∃ kk dd vv, ws[k]? = some (kk, dd, vv) := ⟨_, _, _, List.getElem?_eq_getElem hkl⟩
        obtain ⟨c0, c1, c2⟩ := hr.2 k _ hx
        have hsz := HW.out.2.2 _ (List.mem_of_getElem? hx)
        have HX : Hid (ws[k]? = some (kk, dd, vv)) := hx
        have HBK : Hid (bulkS (ws.take (k + 1)) = bulkS (ws.take k) + bulkW (kk, dd, vv)) := sum_take hx
        dsimp only at c0 c1 c2 hsz
        have hvv := hsz.2
        unfold maxLen at hvv
        clear hr hx hkl
        go_wp2_with (first | (go_at_call 18; refine (ok_x C _ z true x2 (decide_eq_true hx0)).mono ?_; rintro r w3 ⟨rfl, rfl⟩) | (go_at_call 57; refine (text_c C w0 _ z _ hsz.1 HK.out.1 hC HK.out.2.2 hx0).mono ?_; rintro r w2 ⟨⟨v2, rfl⟩, z2, hc2, hz2, hk2⟩; have HF : Hid (Ct C w2 z2 ∧ (0 ≤ z2 → 0 ≤ z ∧ z2 = z - 1 - kk.size) ∧ Below w0.heap.size w0 w2) := ⟨hc2, hz2, hk2⟩; have d2 : w2.cell? ⟨b, off + k * 3 + 2, none⟩ = some (.string vv) := (by obtain ⟨b', off', e', hr'⟩ := (HW.out.below HF.out.2.2).1 (by intro e; have h9 := HX.out; rw [e] at h9; cases h9); cases e'; exact (hr'.2 k _ HX.out).2.2); clear hc2 hk2 hz2 c0 c1 c2 x2) | (go_at_call 45; refine (add_c C w0 _ z2 vv.size _ rfl hvv HF.out.1 hC HF.out.2.2).mono ?_; rintro r w4 ⟨⟨b4, rfl⟩, z4, hc4, hz4, hk4⟩; have HF4 : Hid (Ct C w4 z4 ∧ (0 ≤ z4 → 0 ≤ z2 ∧ z4 = z2 - vv.size) ∧ Below w0.heap.size w0 w4) := ⟨hc4, hz4, hk4⟩; clear hc4 hk4 hz4))
        go_roundw
        case rel =>
          refine ⟨k + 1, z4, by omega, by go_num, HF4.out.1, fun h => ?_, HF4.out.2.2⟩
          have h1 := HF4.out.2.1 h
          have h2 := HF.out.2.1 h1.1
          have h3 := HK.out.2.1 h2.1
          rw [HBK.out]
          unfold bulkW
          dsimp only
          omega
        case measure => simp [intOf]; omega
      · go_wp2_with (go_at_call 18; refine (ok_x C _ z false x2 (decide_eq_false hx0)).mono ?_; rintro r w3 ⟨rfl, rfl⟩)
        go_end0
        exact ⟨⟨_, rfl⟩, z, HK.out.1, fun h => absurd h (by omega), HK.out.2.2⟩
    · obtain rfl : k = n := by omega
      go_wp2
      go_end0
      refine ⟨⟨_, rfl⟩, z, HK.out.1, fun h => ?_, HK.out.2.2⟩
      have := HK.out.2.1 h
      rw [List.take_of_length_le (by rw [HN.out]; exact Nat.le_refl _)] at this
      exact this
set_option maxHeartbeats 1000000 in
theorem groups_c (C : Nat) (w0 w : World) (x : Int) (a : Option Addr) (cap n : Nat) (gs : List (List Chk.Wr)) (hn : gs.length = n) (hmx : (n : Int) ≤ 9223372036854775807) (h : Ct C w x) (hC : w0.heap.size ≤ C) (hb : Below w0.heap.size w0 w) (hw : IsG w0 a gs) :
    Calls Try.prog 17 #[.pointer (some ⟨C, 0, none⟩), .slice a n cap] w fun r w' => (∃ v, r = .returned v) ∧ ∃ z, Ct C w' z ∧ (0 ≤ z → z = x - bulkG gs) ∧ Below w0.heap.size w0 w' := by
  have HC : Hid (Ct C w x ∧ Below w0.heap.size w0 w) := ⟨h, hb⟩
  have HW : Hid (IsG w0 a gs) := hw
  have HN : Hid (gs.length = n) := hn
  clear h hw hn hb
  go_enter Try.func17, Try.ntmps17
  go_wp2_with (go_at_call 45; refine (add_c C w0 _ x n _ rfl (by omega) HC.out.1 hC HC.out.2).mono ?_; rintro r w1 ⟨⟨b1, rfl⟩, z1, hc1, hz1, hk1⟩; have HC1 : Hid (Ct C w1 z1 ∧ (0 ≤ z1 → 0 ≤ x ∧ z1 = x - n) ∧ Below w0.heap.size w0 w1) := ⟨hc1, hz1, hk1⟩; clear hc1 hz1 hk1)
  go_loopw [4] (fun i wr => ∃ (k : Nat) (z : Int), k ≤ n ∧ i = .int .i64 (k : Int) ∧ Hid (Ct C wr z ∧ (0 ≤ z → z = x - n - ((gs.take k).map bulkS).sum) ∧ Below w0.heap.size w0 wr)) (fun i _ => n - (intOf i).toNat)
  case atStart => exact ⟨0, z1, Nat.zero_le _, rfl, HC1.out.1, fun h => by have := HC1.out.2.1 h; simp; omega, HC1.out.2.2⟩
  case round =>
    obtain ⟨k, z, hk, rfl, HK⟩ := hrel
    rename World => wr
    clear HC1
    by_cases hlt : k < n
    · have q1 : (k : Int) < (n : Int) := by omega
      have x2 := HK.out.1.2.1
      by_cases hx0 : 0 ≤ z
      · have hkl : k < gs.length := by rw [HN.out]; exact hlt
        obtain ⟨b, off, ad, c, rfl, hbs, c0, hws⟩ := (HW.out.below HK.out.2.2).rd hkl
        have hws0 : Chk.IsWr w0 ad (gs.getD k []) := by
          obtain ⟨b', off', ad', c', e', hbs', c0', hws'⟩ := HW.out.rd hkl
          cases e'
          have := (HK.out.2.2.cell (p := ⟨b, off + k, none⟩) hbs').trans c0'
          rw [c0] at this
          cases this
          exact hws'
        have HWS : Hid (Chk.IsWr w0 ad (gs.getD k [])) := hws0
        have HBK : Hid (((gs.take (k + 1)).map bulkS).sum = ((gs.take k).map bulkS).sum + bulkS (gs.getD k [])) := sum_take (by simp [hkl])
        clear hws hws0 hkl hbs
        generalize gs.getD k [] = ws at *
        go_wp2_with (first | (go_at_call 18; refine (ok_x C _ z true x2 (decide_eq_true hx0)).mono ?_; rintro r w3 ⟨rfl, rfl⟩) | (go_at_call 46; refine (writes_c C w0 _ z ad _ _ ws rfl HK.out.1 hC HK.out.2.2 HWS.out).mono ?_; rintro r w2 ⟨⟨v2, rfl⟩, z2, hc2, hz2, hk2⟩; have HF : Hid (Ct C w2 z2 ∧ (0 ≤ z2 → 0 ≤ z ∧ z2 = z - bulkS ws) ∧ Below w0.heap.size w0 w2) := ⟨hc2, hz2, hk2⟩; clear hc2 hk2 hz2))
        go_roundw
        case rel =>
          refine ⟨k + 1, z2, by omega, by go_num, HF.out.1, fun h => ?_, HF.out.2.2⟩
          have h1 := HF.out.2.1 h
          have h2 := HK.out.2.1 h1.1
          rw [HBK.out]
          omega
        case measure => simp [intOf]; omega
      · go_wp2_with (go_at_call 18; refine (ok_x C _ z false x2 (decide_eq_false hx0)).mono ?_; rintro r w3 ⟨rfl, rfl⟩)
        go_end0
        exact ⟨⟨_, rfl⟩, z, HK.out.1, fun h => absurd h (by omega), HK.out.2.2⟩
    · obtain rfl : k = n := by omega
      go_wp2
      go_end0
      refine ⟨⟨_, rfl⟩, z, HK.out.1, fun h => ?_, HK.out.2.2⟩
      have := HK.out.2.1 h
      rw [List.take_of_length_le (by rw [HN.out]; exact Nat.le_refl _)] at this
      unfold bulkG
      rw [HN.out]
      omega
theorem many_any (w : World) :
    Calls Try.prog 16 #[.int .i64 32768] w fun r w' => r = .returned (.pointer (some ⟨w.heap.size, 0, none⟩)) ∧ Ct w.heap.size w' 32768 ∧ Below w.heap.size w w' := by
  go_enter Try.func16, Try.ntmps16
  go_wp2
  go_ret
  exact ⟨rfl, ⟨by simp, by rw [World.cell?_alloc_at _ _ _ _ rfl]; rfl, World.frozen?_alloc_at _ _ _ _ rfl, by omega⟩, (Below.refl _ _).alloc (Nat.le_refl _) _⟩
set_option maxHeartbeats 1000000 in
theorem small_any (w : World) (a : Option Addr) (cap : Nat) (gs : List (List Chk.Wr)) (hmx : (gs.length : Int) ≤ 9223372036854775807) (hw : IsG w a gs) :
    Calls Try.prog 5 #[.slice a gs.length cap] w fun r w' => (∃ b : Bool, r = .returned (.bool b) ∧ (b = true → bulkG gs ≤ 32768)) ∧ Below w.heap.size w w' := by
  have HW : Hid (IsG w a gs) := hw
  clear hw
  go_enter Try.func5, Try.ntmps5
  go_wp2_with (first | (go_at_call 16; refine (many_any w).mono ?_; rintro r w1 ⟨rfl, hc1, hk1⟩; have HM : Hid (Ct w.heap.size w1 32768 ∧ Below w.heap.size w w1) := ⟨hc1, hk1⟩; clear hc1 hk1) | (go_at_call 17; refine (groups_c w.heap.size w _ 32768 a cap _ gs rfl hmx HM.out.1 (Nat.le_refl _) HM.out.2 HW.out).mono ?_; rintro r w2 ⟨⟨v2, rfl⟩, z, hc2, hz2, hk2⟩; have HF : Hid (Ct w.heap.size w2 z ∧ (0 ≤ z → z = 32768 - bulkG gs) ∧ Below w.heap.size w w2) := ⟨hc2, hz2, hk2⟩; clear hc2 hz2 hk2) | (go_at_call 18; refine (ok_x w.heap.size _ z (decide (0 ≤ z)) HF.out.1.2.1 rfl).mono ?_; rintro r w3 ⟨rfl, rfl⟩))
  go_ret
  refine ⟨⟨_, rfl, fun h => ?_⟩, HF.out.2.2⟩
  have h0 : 0 ≤ z := of_decide_eq_true h
  have := HF.out.2.1 h0
  omega
end Grp
end Go.Proofs.Ytkjddbplaicmjaa
