import Derived.Test.YtcioaoanhmpdkaaPm2
import Derived.Deep.QuietTactic
import Derived.BigQuiet
namespace Go.Proofs.Ytcioaoanhmpdkaa
namespace Mq
open Go.RowKit Laws Irw Crw Chk
set_option linter.unusedVariables false
set_option maxRecDepth 100000
set_option linter.unusedSimpArgs false
theorem sum_take {α : Type} {f : α → Nat} {l : List α} {k : Nat} {x : α} (h : l[k]? = some x) : ((l.take (k + 1)).map f).sum = ((l.take k).map f).sum + f x := by
  rw [List.take_add_one, h]
  simp
/-- a count as it lies -/
def Ct (C : Nat) (w : World) (x : Int) : Prop := C < w.heap.size ∧ w.cell? ⟨C, 0, none⟩ = some (.int .i64 x) ∧ w.frozen? ⟨C, 0, none⟩ = false ∧ x ≤ 10000
theorem Ct.set {C : Nat} {w : World} {x : Int} (h : Ct C w x) (y : Int) (hy : y ≤ 10000) : Ct C (w.setCell ⟨C, 0, none⟩ (.int .i64 y)) y := by
  obtain ⟨h1, h2, h3, h4⟩ := h
  exact ⟨by simpa using h1, World.cell?_setCell_same _ _ _ h2, by rw [World.frozen?_setCell]; exact h3, hy⟩
theorem ok_x (C : Nat) (w : World) (x : Int) (b : Bool) (h2 : w.cell? ⟨C, 0, none⟩ = some (.int .i64 x)) (hb : decide (0 ≤ x) = b) :
    Calls Try.prog 38 #[.pointer (some ⟨C, 0, none⟩)] w fun r w' => r = .returned (.bool b) ∧ w' = w := by
  go_enter Try.func38, Try.ntmps38
  go_wp2
  go_ret
  refine ⟨?_, rfl⟩
  rw [← hb]
  rfl
theorem add_c (C : Nat) (w0 w : World) (x : Int) (n : Nat) (y : Int) (hy : y = n) (hn : n ≤ 9223372036854775807) (h : Ct C w x) (hC : w0.heap.size ≤ C) (hb : Below w0.heap.size w0 w) :
    Calls Try.prog 39 #[.pointer (some ⟨C, 0, none⟩), .int .i64 y] w fun r w' => (∃ v, r = .returned v) ∧ ∃ z, Ct C w' z ∧ (0 ≤ z → 0 ≤ x ∧ z = x - n) ∧ Below w0.heap.size w0 w' := by
  subst hy
  have HC : Hid (Ct C w x ∧ Below w0.heap.size w0 w) := ⟨h, hb⟩
  clear hb
  obtain ⟨h1, h2, h3, h4⟩ := h
  by_cases hx : 0 ≤ x
  · go_enter Try.func39, Try.ntmps39
    go_wp2
    go_ret
    exact ⟨⟨_, rfl⟩, x - n, HC.out.1.set _ (by omega), fun _ => ⟨hx, rfl⟩, HC.out.2.setCell (p := ⟨C, 0, none⟩) hC _⟩
  · go_enter Try.func39, Try.ntmps39
    go_wp2
    go_ret
    exact ⟨⟨_, rfl⟩, x, HC.out.1, fun h => by omega, HC.out.2⟩
set_option maxHeartbeats 1000000 in
theorem add_min (C : Nat) (w0 w : World) (x : Int) (h : Ct C w x) (hx : 0 ≤ x) (hC : w0.heap.size ≤ C) (hb : Below w0.heap.size w0 w) :
    Calls Try.prog 39 #[.pointer (some ⟨C, 0, none⟩), .int .i64 (-9223372036854775808)] w fun r w' => (∃ v, r = .returned v) ∧ ∃ z, Ct C w' z ∧ z < 0 ∧ Below w0.heap.size w0 w' := by
  have HC : Hid (Ct C w x ∧ Below w0.heap.size w0 w) := ⟨h, hb⟩
  clear hb
  obtain ⟨h1, h2, h3, h4⟩ := h
  have e : IntKind.i64.wrap (x - -9223372036854775808) = x - 9223372036854775808 := by rw [IntKind.wrap_i64]; omega
  have e2 : IntKind.i64.wrap (x + 9223372036854775808) = x - 9223372036854775808 := by rw [IntKind.wrap_i64]; omega
  go_enter Try.func39, Try.ntmps39
  go_wp2
  go_ret
  exact ⟨⟨_, rfl⟩, x - 9223372036854775808, HC.out.1.set _ (by omega), by omega, HC.out.2.setCell (p := ⟨C, 0, none⟩) hC _⟩
set_option maxHeartbeats 1000000 in
theorem text_c (C : Nat) (w0 w : World) (x : Int) (s : ByteArray) (hs : s.size ≤ maxLen) (h : Ct C w x) (hC : w0.heap.size ≤ C) (hb : Below w0.heap.size w0 w) (hx : 0 ≤ x) :
    Calls Try.prog 75 #[.pointer (some ⟨C, 0, none⟩), .string s] w fun r w' => (∃ v, r = .returned v) ∧ ∃ z, Ct C w' z ∧ (0 ≤ z → 0 ≤ x ∧ z = x - 1 - s.size) ∧ Below w0.heap.size w0 w' := by
  have HC : Hid (Ct C w x ∧ Below w0.heap.size w0 w) := ⟨h, hb⟩
  clear h hb
  unfold maxLen at hs
  by_cases hm : s.size = 9223372036854775807
  · have e : wrap64 (1 + (s.size : Int)) = -9223372036854775808 := by unfold wrap64; omega
    have HAM : Hid (Calls Try.prog 39 #[.pointer (some ⟨C, 0, none⟩), .int .i64 (wrap64 (1 + (s.size : Int)))] w fun r w' => (∃ v, r = .returned v) ∧ ∃ z, Ct C w' z ∧ z < 0 ∧ Below w0.heap.size w0 w') := by
      rw [e]; exact add_min C w0 _ x HC.out.1 hx hC HC.out.2
    clear hm e hs
    go_enter Try.func75, Try.ntmps75
    go_wp2_with (go_at_call 39; refine HAM.out.mono ?_; rintro r w2 ⟨⟨b, rfl⟩, z, hc2, hz2, hk2⟩; have HF : Hid (Ct C w2 z ∧ z < 0 ∧ Below w0.heap.size w0 w2) := ⟨hc2, hz2, hk2⟩; clear hc2 hk2 hz2)
    go_end0
    exact ⟨⟨_, rfl⟩, z, HF.out.1, fun h => by have := HF.out.2.1; omega, HF.out.2.2⟩
  · go_enter Try.func75, Try.ntmps75
    go_wp2_with (go_at_call 39; refine (add_c C w0 _ x (1 + s.size) _ (by omega) (by omega) HC.out.1 hC HC.out.2).mono ?_; rintro r w2 ⟨⟨b, rfl⟩, z, hc2, hz2, hk2⟩; have HF : Hid (Ct C w2 z ∧ (0 ≤ z → 0 ≤ x ∧ z = x - (1 + s.size : Nat)) ∧ Below w0.heap.size w0 w2) := ⟨hc2, hz2, hk2⟩; clear hc2 hk2 hz2)
    go_end0
    exact ⟨⟨_, rfl⟩, z, HF.out.1, fun h => by have := HF.out.2.1 h; omega, HF.out.2.2⟩

theorem many_any (w : World) :
    Calls Try.prog 37 #[.int .i64 10000] w fun r w' => r = .returned (.pointer (some ⟨w.heap.size, 0, none⟩)) ∧ Ct w.heap.size w' 10000 ∧ Below w.heap.size w w' := by
  go_enter Try.func37, Try.ntmps37
  go_wp2
  go_ret
  exact ⟨rfl, ⟨by simp, by rw [World.cell?_alloc_at _ _ _ _ rfl]; rfl, World.frozen?_alloc_at _ _ _ _ rfl, by omega⟩, (Below.refl _ _).alloc (Nat.le_refl _) _⟩

def bulkW (x : Wr) : Nat := 1 + x.1.size + x.2.2.size
theorem isW_at {w : World} {a : Option Addr} {l : List Wr} (h : IsWr w a l) {k : Nat} (hk : k < l.length) : ∃ b off x, a = some ⟨b, off, none⟩ ∧ l[k]? = some x ∧ b < w.heap.size ∧ w.cell? ⟨b, off + k * 3, none⟩ = some (.string x.1) ∧ w.cell? ⟨b, off + k * 3 + 1, none⟩ = some (.bool x.2.1) ∧ w.cell? ⟨b, off + k * 3 + 2, none⟩ = some (.string x.2.2) := by
  obtain ⟨b, off, e, hr⟩ := h.1 (by rintro rfl; simp at hk)
  have hx : l[k]? = some l[k] := List.getElem?_eq_getElem hk
  exact ⟨b, off, l[k], e, hx, hr.1, hr.2 k _ hx⟩
set_option maxHeartbeats 1000000 in
theorem writes_c (C : Nat) (w0 w : World) (x : Int) (a : Option Addr) (cap n : Nat) (l : List Wr) (hn : l.length = n) (hmx : (n : Int) ≤ 9223372036854775807) (h : Ct C w x) (hC : w0.heap.size ≤ C) (hb : Below w0.heap.size w0 w) (hw : IsWr w0 a l) (hsz : ∀ e ∈ l, e.1.size ≤ maxLen ∧ e.2.2.size ≤ maxLen) :
    Calls Try.prog 40 #[.pointer (some ⟨C, 0, none⟩), .slice a n cap] w fun r w' => (∃ v, r = .returned v) ∧ ∃ z, Ct C w' z ∧ (0 ≤ z → 0 ≤ x ∧ z = x - (l.map bulkW).sum) ∧ Below w0.heap.size w0 w' := by
  have HC : Hid (Ct C w x ∧ Below w0.heap.size w0 w) := ⟨h, hb⟩
  have HW : Hid (IsWr w0 a l) := hw
  have HN : Hid (l.length = n) := hn
  have HSZ : Hid (∀ e ∈ l, e.1.size ≤ maxLen ∧ e.2.2.size ≤ maxLen) := hsz
  clear h hw hn hb hsz
  go_enter Try.func40, Try.ntmps40
  go_wp2
  go_loopw [4] (fun i wr => ∃ (k : Nat) (z : Int), k ≤ n ∧ i = .int .i64 (k : Int) ∧ Hid (Ct C wr z ∧ (0 ≤ z → 0 ≤ x ∧ z = x - ((l.take k).map bulkW).sum) ∧ Below w0.heap.size w0 wr)) (fun i _ => n - (intOf i).toNat)
  case atStart => exact ⟨0, x, Nat.zero_le _, rfl, HC.out.1, fun h => ⟨h, by simp⟩, HC.out.2⟩
  case round =>
    obtain ⟨k, z, hk, rfl, HK⟩ := hrel
    rename World => wr
    by_cases hlt : k < n
    · have q1 : (k : Int) < (n : Int) := by omega
      have x2 := HK.out.1.2.1
      by_cases hx0 : 0 ≤ z
      · have hkl : k < l.length := by rw [HN.out]; exact hlt
        obtain ⟨b, off, ⟨kk, dd, vv⟩, rfl, hx, hbl, c0, c1, c2⟩ := isW_at (HW.out.below HK.out.2.2) hkl
        have hsz := HSZ.out _ (List.mem_of_getElem? hx)
        have HX : Hid (l[k]? = some (kk, dd, vv)) := hx
        have HBK : Hid (((l.take (k + 1)).map bulkW).sum = ((l.take k).map bulkW).sum + bulkW (kk, dd, vv)) := sum_take hx
        dsimp only at c0 c1 c2 hsz
        have hvv := hsz.2
        unfold maxLen at hvv
        clear hx hkl
        go_wp2_with (first | (go_at_call 38; refine (ok_x C _ z true x2 (decide_eq_true hx0)).mono ?_; rintro r w3 ⟨rfl, rfl⟩) | (go_at_call 75; refine (text_c C w0 _ z _ hsz.1 HK.out.1 hC HK.out.2.2 hx0).mono ?_; rintro r w2 ⟨⟨v2, rfl⟩, z2, hc2, hz2, hk2⟩; have HF : Hid (Ct C w2 z2 ∧ (0 ≤ z2 → 0 ≤ z ∧ z2 = z - 1 - kk.size) ∧ Below w0.heap.size w0 w2) := ⟨hc2, hz2, hk2⟩; have d2 : w2.cell? ⟨b, off + k * 3 + 2, none⟩ = some (.string vv) := (by obtain ⟨b', off', e', hr'⟩ := (HW.out.below HF.out.2.2).1 (by intro e; have h9 := HX.out; rw [e] at h9; cases h9); cases e'; exact (hr'.2 k _ HX.out).2.2); clear hc2 hk2 hz2 c0 c1 c2 x2) | (go_at_call 39; refine (add_c C w0 _ z2 vv.size _ rfl hvv HF.out.1 hC HF.out.2.2).mono ?_; rintro r w4 ⟨⟨b4, rfl⟩, z4, hc4, hz4, hk4⟩; have HF4 : Hid (Ct C w4 z4 ∧ (0 ≤ z4 → 0 ≤ z2 ∧ z4 = z2 - vv.size) ∧ Below w0.heap.size w0 w4) := ⟨hc4, hz4, hk4⟩; clear hc4 hk4 hz4))
        go_roundw
        case rel =>
          refine ⟨k + 1, z4, by omega, by go_num, HF4.out.1, fun h => ?_, HF4.out.2.2⟩
          have h1 := HF4.out.2.1 h
          have h2 := HF.out.2.1 h1.1
          have h3 := HK.out.2.1 h2.1
          rw [HBK.out, show bulkW (kk, dd, vv) = 1 + kk.size + vv.size from rfl]
          omega
        case measure => simp [intOf]; omega
      · go_wp2_with (go_at_call 38; refine (ok_x C _ z false x2 (decide_eq_false hx0)).mono ?_; rintro r w3 ⟨rfl, rfl⟩)
        go_end0
        exact ⟨⟨_, rfl⟩, z, HK.out.1, fun h => absurd h (by omega), HK.out.2.2⟩
    · obtain rfl : k = n := by omega
      go_wp2
      go_end0
      refine ⟨⟨_, rfl⟩, z, HK.out.1, fun h => ?_, HK.out.2.2⟩
      have := HK.out.2.1 h
      rw [List.take_of_length_le (by rw [HN.out]; exact Nat.le_refl _)] at this
      exact this
theorem sum_len {l : List Wr} : l.length ≤ (l.map bulkW).sum := by
  induction l with
  | nil => simp
  | cons x t ih => simp only [List.map_cons, List.sum_cons, List.length_cons]; unfold bulkW at *; omega
/-- one call of the script: kind, second, number, key, writes (where, room, which), how many -/
abbrev OpM := Int × Bool × Int × ByteArray × (Option Addr × Nat × List Wr) × Int
def omz : OpM := (0, false, 0, ⟨#[]⟩, (none, 0, []), 0)
def OmAt (w : World) (b off : Nat) (o : OpM) : Prop := w.cell? ⟨b, off, none⟩ = some (.int .i64 o.1) ∧ w.cell? ⟨b, off + 1, none⟩ = some (.bool o.2.1) ∧ w.cell? ⟨b, off + 2, none⟩ = some (.int .u64 o.2.2.1) ∧ w.cell? ⟨b, off + 3, none⟩ = some (.string o.2.2.2.1) ∧ w.cell? ⟨b, off + 4, none⟩ = some (.slice o.2.2.2.2.1.1 o.2.2.2.2.1.2.2.length o.2.2.2.2.1.2.1) ∧ w.cell? ⟨b, off + 5, none⟩ = some (.int .i64 o.2.2.2.2.2)
def OkM (w : World) (o : OpM) : Prop := IsWr w o.2.2.2.2.1.1 o.2.2.2.2.1.2.2 ∧ (o.2.2.2.2.1.1 = none → o.2.2.2.2.1.2.1 = 0) ∧ (0 ≤ o.2.2.1 ∧ o.2.2.1 ≤ 18446744073709551615) ∧ (-9223372036854775808 ≤ o.2.2.2.2.2 ∧ o.2.2.2.2.2 ≤ 9223372036854775807)
theorem OkM.below {w w' : World} {o : OpM} (h : OkM w o) (hb : Below w.heap.size w w') : OkM w' o := ⟨h.1.below hb, h.2⟩
def MRow (w : World) (b off : Nat) (l : List OpM) : Prop := b < w.heap.size ∧ ∀ (i : Nat) (o : OpM), l[i]? = some o → OmAt w b (off + i * 6) o
def IsM (w : World) (a : Option Addr) (l : List OpM) : Prop := (l ≠ [] → ∃ b off, a = some ⟨b, off, none⟩ ∧ MRow w b off l) ∧ ∀ o ∈ l, OkM w o
theorem MRow.below {w w' : World} {b off : Nat} {l : List OpM} (h : MRow w b off l) (hb : Below w.heap.size w w') : MRow w' b off l := by
  have e : ∀ j, w'.cell? ⟨b, j, none⟩ = w.cell? ⟨b, j, none⟩ := fun j => World.cell?_of_block (hb.block b h.1)
  refine ⟨Nat.lt_of_lt_of_le h.1 hb.size, fun i o ho => ?_⟩
  have := h.2 i o ho
  unfold OmAt at *
  simp only [e]
  exact this
theorem IsM.below {w w' : World} {a : Option Addr} {l : List OpM} (h : IsM w a l) (hb : Below w.heap.size w w') : IsM w' a l := ⟨fun hne => by
  obtain ⟨b, off, e, hr⟩ := h.1 hne
  exact ⟨b, off, e, hr.below hb⟩, fun o ho => (h.2 o ho).below hb⟩
theorem IsM.at_ {w : World} {a : Option Addr} {l : List OpM} (h : IsM w a l) {k : Nat} (hk : k < l.length) : ∃ b off x, a = some ⟨b, off, none⟩ ∧ l[k]? = some x ∧ b < w.heap.size ∧ OmAt w b (off + k * 6) x ∧ OkM w x := by
  obtain ⟨b, off, e, hr⟩ := h.1 (by rintro rfl; simp at hk)
  have hx : l[k]? = some l[k] := List.getElem?_eq_getElem hk
  exact ⟨b, off, l[k], e, hx, hr.1, hr.2 k _ hx, h.2 _ (List.mem_of_getElem? hx)⟩
def bulkO (o : OpM) : Nat := 1 + (o.2.2.2.2.1.2.2.map bulkW).sum
theorem sumO_mem {l : List OpM} {o : OpM} (h : o ∈ l) : bulkO o ≤ (l.map bulkO).sum := by
  induction l with
  | nil => simp at h
  | cons x t ih =>
    simp only [List.map_cons, List.sum_cons]
    rcases List.mem_cons.1 h with rfl | h
    · omega
    · have := ih h; omega
theorem sumO_len {l : List OpM} : l.length ≤ (l.map bulkO).sum := by
  induction l with
  | nil => simp
  | cons x t ih => simp only [List.map_cons, List.sum_cons, List.length_cons]; unfold bulkO at *; omega
def FewIs (w : World) (l : List OpM) (r : Ending) (w' : World) : Prop := (∃ b : Bool, r = .returned (.bool b) ∧ (b = true → l.length ≤ 10000 ∧ ∀ o ∈ l, o.2.2.2.2.1.2.2.length ≤ 10000)) ∧ Below w.heap.size w w'
set_option maxHeartbeats 2000000 in
theorem few_any (w : World) (a : Option Addr) (cap n : Nat) (l : List OpM) (hn : l.length = n) (hmx : (n : Int) ≤ 9223372036854775807) (hw : IsM w a l) :
    Calls Try.prog 8 #[.slice a n cap] w fun r w' => FewIs w l r w' := by
  have HW : Hid (IsM w a l) := hw
  have HN : Hid (l.length = n) := hn
  clear hw hn
  go_enter Try.func8, Try.ntmps8
  go_wp2_with (go_at_call 37; refine (many_any w).mono ?_; rintro r w1 ⟨rfl, hc1, hk1⟩; have HM : Hid (Ct w.heap.size w1 10000 ∧ Below w.heap.size w w1) := ⟨hc1, hk1⟩; clear hc1 hk1)
  generalize hC : w.heap.size = C at *
  have HC : Hid (w.heap.size = C) := hC
  clear hC
  go_loopw [4] (fun i wr => ∃ (k : Nat) (z : Int), k ≤ n ∧ i = .int .i64 (k : Int) ∧ Hid (Ct C wr z ∧ (0 ≤ z → z = 10000 - ((l.take k).map bulkO).sum) ∧ Below C w wr)) (fun i _ => n - (intOf i).toNat)
  case atStart => exact ⟨0, 10000, Nat.zero_le _, rfl, HM.out.1, fun h => by simp, HM.out.2⟩
  case round =>
    obtain ⟨k, z, hk, rfl, HK⟩ := hrel
    rename World => wr
    by_cases hlt : k < n
    · have q1 : (k : Int) < (n : Int) := by omega
      have x2 := HK.out.1.2.1
      by_cases hx0 : 0 ≤ z
      · have hkl : k < l.length := by rw [HN.out]; exact hlt
        have hbk : Below w.heap.size w wr := by rw [HC.out]; exact HK.out.2.2
        obtain ⟨b, off, ⟨o1, o2, o3, o4, ⟨oa, oc, ow⟩, o6⟩, rfl, hx, hbl, hat, hok⟩ := HW.out.at_ hkl
        have HX : Hid (((l.take (k + 1)).map bulkO).sum = ((l.take k).map bulkO).sum + (1 + (ow.map bulkW).sum)) := sum_take hx
        obtain ⟨L, hL⟩ : ∃ L, ow.length = L := ⟨_, rfl⟩
        have c4 := hat.2.2.2.2.1
        dsimp only at c4 hok
        rw [hL] at c4
        have HC4 : Hid (∀ W, Below C w W → W.cell? ⟨b, off + k * 6 + 4, none⟩ = some (.slice oa L oc)) := fun W hW => (hW.cell (p := ⟨b, off + k * 6 + 4, none⟩) (by rw [← HC.out]; exact hbl)).trans c4
        have HOK : Hid (IsWr w oa ow ∧ ow.length = L ∧ ∀ e ∈ ow, e.1.size ≤ maxLen ∧ e.2.2.size ≤ maxLen) := ⟨hok.1, hL, hok.1.2.2⟩
        have hLm : (L : Int) ≤ 9223372036854775807 := by have := hok.1.2.1; dsimp only at this; unfold maxLen at this; omega
        clear hx hkl hat hok c4 hbl hL hbk
        go_wp2_with (first | (go_at_call 38; refine (ok_x C _ z true x2 (decide_eq_true hx0)).mono ?_; rintro r w3 ⟨rfl, rfl⟩) | (go_at_call 39; refine (add_c C w _ z 1 _ rfl (by omega) HK.out.1 (by rw [HC.out]; exact Nat.le_refl _) (by rw [HC.out]; exact HK.out.2.2)).mono ?_; rintro r w2 ⟨⟨v2, rfl⟩, z2, hc2, hz2, hk2⟩; have HF : Hid (Ct C w2 z2 ∧ (0 ≤ z2 → 0 ≤ z ∧ z2 = z - (1 : Nat)) ∧ Below C w w2) := ⟨hc2, hz2, by rw [← HC.out]; exact hk2⟩; have d4 := HC4.out w2 HF.out.2.2; clear hc2 hk2 hz2 x2) | (go_at_call 40; refine (writes_c C w _ z2 oa oc L ow HOK.out.2.1 hLm HF.out.1 (by rw [HC.out]; exact Nat.le_refl _) (by rw [HC.out]; exact HF.out.2.2) HOK.out.1 HOK.out.2.2).mono ?_; rintro r w4 ⟨⟨v4, rfl⟩, z4, hc4, hz4, hk4⟩; have HF4 : Hid (Ct C w4 z4 ∧ (0 ≤ z4 → 0 ≤ z2 ∧ z4 = z2 - (ow.map bulkW).sum) ∧ Below C w w4) := ⟨hc4, hz4, by rw [← HC.out]; exact hk4⟩; clear hc4 hk4 hz4))
        go_roundw
        case rel =>
          refine ⟨k + 1, z4, by omega, by go_num, HF4.out.1, fun h => ?_, HF4.out.2.2⟩
          have h1 := HF4.out.2.1 h
          have h2 := HF.out.2.1 h1.1
          have h3 := HK.out.2.1 h2.1
          rw [HX.out]
          omega
        case measure => simp [intOf]; omega
      · go_wp2_with (go_at_call 38; go_loud (refine (ok_x C _ z false x2 (decide_eq_false (by omega))).mono ?_; rintro r w3 ⟨rfl, hw3⟩; have hw4 := hw3.symm; clear hw3; subst hw4))
        go_ret
        exact ⟨⟨_, rfl, fun h => by cases h⟩, by rw [HC.out]; exact HK.out.2.2⟩
    · obtain rfl : k = n := by omega
      have x2 := HK.out.1.2.1
      go_wp2_with (go_at_call 38; refine (ok_x C _ z (decide (0 ≤ z)) x2 rfl).mono ?_; rintro r w3 ⟨rfl, rfl⟩)
      go_ret
      refine ⟨⟨_, rfl, fun h => ?_⟩, by rw [HC.out]; exact HK.out.2.2⟩
      have h0 : 0 ≤ z := by simpa using h
      have h1 := HK.out.2.1 h0
      rw [List.take_of_length_le (by rw [HN.out]; exact Nat.le_refl _)] at h1
      have h2 := sumO_len (l := l)
      refine ⟨by omega, fun o ho => ?_⟩
      have h3 := sumO_mem ho
      have h4 := sum_len (l := o.2.2.2.2.1.2.2)
      have h5 : bulkO o = 1 + (o.2.2.2.2.1.2.2.map bulkW).sum := rfl
      omega
end Mq
end Go.Proofs.Ytcioaoanhmpdkaa
