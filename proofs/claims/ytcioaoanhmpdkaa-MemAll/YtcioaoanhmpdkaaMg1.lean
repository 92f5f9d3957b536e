import Derived.Test.YtcioaoanhmpdkaaCRw
import Derived.Test.YtcioaoanhmpdkaaChk
import Derived.Test.YtcioaoanhmpdkaaSkP
import Derived.Test.YtcioaoanhmpdkaaByt
import Derived.Deep.QuietTactic
import Derived.BigQuiet
namespace Go.Proofs.Ytcioaoanhmpdkaa
namespace Grp
open Go.RowKit Laws Irw Crw Sk
set_option linter.unusedVariables false
set_option maxRecDepth 100000
set_option linter.unusedSimpArgs false

abbrev Sv := Option Addr × Nat × Nat
def kS : Knd Sv := ⟨52, 1, 24, .slice none 0 0, fun x => [.slice x.1 x.2.1 x.2.2], fun _ => rfl, fun x u hu => by simp at hu; subst hu; rfl, by omega, rfl, by omega⟩
def kW : Knd Chk.Wr := ⟨73, 3, 40, .agg #[.string ⟨#[]⟩, .bool false, .string ⟨#[]⟩], fun x => [.string x.1, .bool x.2.1, .string x.2.2], fun _ => rfl, fun x u hu => by simp at hu; rcases hu with rfl | rfl | rfl <;> rfl, by omega, rfl, by omega⟩
def kU : Knd Int := ⟨51, 1, 8, .int .u64 0, fun x => [.int .u64 x], fun _ => rfl, fun x u hu => by simp at hu; subst hu; rfl, by omega, rfl, by omega⟩
theorem infoS : (Try.prog.info? 52).map (fun i => (i.zero, i.size, i.bytes)) = some (some kS.zero, 1, 24) := by kernel_rfl
theorem infoW : (Try.prog.info? 73).map (fun i => (i.zero, i.size, i.bytes)) = some (some kW.zero, 3, 40) := by kernel_rfl
theorem infoU : (Try.prog.info? 51).map (fun i => (i.zero, i.size, i.bytes)) = some (some kU.zero, 1, 8) := by kernel_rfl
theorem undW : Try.prog.underlying 52 = some (.slice 73) := by kernel_rfl
theorem undG : Try.prog.underlying 33 = some (.slice 52) := by kernel_rfl
theorem undU : Try.prog.underlying 66 = some (.slice 51) := by kernel_rfl

theorem isWr_of {w : World} {a : Option Addr} {ws : List Chk.Wr} (h : IsK kW w a ws) (hl : ws.length ≤ maxLen) (hs : ∀ x ∈ ws, x.1.size ≤ maxLen ∧ x.2.2.size ≤ maxLen) : Chk.IsWr w a ws := by
  refine ⟨fun hne => ?_, hl, hs⟩
  obtain ⟨b, off, e, hr⟩ := h hne
  exact ⟨b, off, e, hr.1, fun i x hx => ⟨hr.2 i x hx 0 _ rfl, hr.2 i x hx 1 _ rfl, hr.2 i x hx 2 _ rfl⟩⟩
theorem IsWr.keepB {w w' : World} {a : Option Addr} {ws : List Chk.Wr} (h : Chk.IsWr w a ws) (hb : ∀ b off, a = some ⟨b, off, none⟩ → b < w.heap.size → w'.heap[b]? = w.heap[b]?) (hs : w.heap.size ≤ w'.heap.size) : Chk.IsWr w' a ws := by
  refine ⟨fun hne => ?_, h.2⟩
  obtain ⟨b, off, e, hr⟩ := h.1 hne
  have hk := hb b off e hr.1
  refine ⟨b, off, e, Nat.lt_of_lt_of_le hr.1 hs, fun i x hx => ?_⟩
  obtain ⟨h0, h1, h2⟩ := hr.2 i x hx
  exact ⟨(World.cell?_of_block (a := ⟨b, _, none⟩) hk).trans h0, (World.cell?_of_block (a := ⟨b, _, none⟩) hk).trans h1, (World.cell?_of_block (a := ⟨b, _, none⟩) hk).trans h2⟩
/-- Lists of writes: what a slice of slices holds. -/
def IsG (w : World) (a : Option Addr) (gs : List (List Chk.Wr)) : Prop :=
  ∃ vs : List Sv, vs.length = gs.length ∧ IsK kS w a vs ∧ ∀ (i : Nat) v ws, vs[i]? = some v → gs[i]? = some ws → v.2.1 = ws.length ∧ Chk.IsWr w v.1 ws
theorem IsG.below {w w' : World} {a : Option Addr} {gs : List (List Chk.Wr)} (h : IsG w a gs) (hb : Below w.heap.size w w') : IsG w' a gs := by
  obtain ⟨vs, h1, h2, h3⟩ := h
  exact ⟨vs, h1, h2.below hb, fun i v ws hv hw => ⟨(h3 i v ws hv hw).1, (h3 i v ws hv hw).2.below hb⟩⟩
theorem IsG.rd {w : World} {a : Option Addr} {gs : List (List Chk.Wr)} (h : IsG w a gs) {k : Nat} (hk : k < gs.length) : ∃ b off ad c, a = some ⟨b, off, none⟩ ∧ b < w.heap.size ∧ w.cell? ⟨b, off + k, none⟩ = some (.slice ad (gs.getD k []).length c) ∧ Chk.IsWr w ad (gs.getD k []) := by
  obtain ⟨vs, h1, h2, h3⟩ := h
  obtain ⟨b, off, e, hr⟩ := h2.at_ (by omega)
  have hkv : k < vs.length := by omega
  have hv : vs[k]? = some vs[k] := List.getElem?_eq_getElem hkv
  have hg : gs[k]? = some (gs.getD k []) := by simp [hk]
  obtain ⟨h4, h5⟩ := h3 k _ _ hv hg
  have hc := hr.2 k _ hv 0 _ rfl
  refine ⟨b, off, vs[k].1, vs[k].2.2, e, hr.1, ?_, h5⟩
  have : off + k * kS.size + 0 = off + k := by show off + k * 1 + 0 = _; omega
  rw [this, h4] at hc
  exact hc

/-- a count as it lies -/
def Ct (C : Nat) (w : World) : Prop := C < w.heap.size ∧ (∃ x, w.cell? ⟨C, 0, none⟩ = some (.int .i64 x)) ∧ w.frozen? ⟨C, 0, none⟩ = false
theorem Ct.below {C : Nat} {w w' : World} (h : Ct C w) (hb : Below w.heap.size w w') : Ct C w' := by
  obtain ⟨h1, ⟨x, h2⟩, h3⟩ := h
  exact ⟨Nat.lt_of_lt_of_le h1 hb.size, ⟨x, (hb.cell (p := ⟨C, 0, none⟩) h1).trans h2⟩, (hb.frozen (p := ⟨C, 0, none⟩) h1).trans h3⟩
theorem Ct.set {C : Nat} {w : World} (h : Ct C w) (y : Int) : Ct C (w.setCell ⟨C, 0, none⟩ (.int .i64 y)) := by
  obtain ⟨h1, ⟨x, h2⟩, h3⟩ := h
  exact ⟨by simpa using h1, ⟨y, World.cell?_setCell_same _ _ _ h2⟩, by rw [World.frozen?_setCell]; exact h3⟩
theorem ok_c (C : Nat) (w : World) (h : Ct C w) :
    Calls Try.prog 38 #[.pointer (some ⟨C, 0, none⟩)] w fun r w' => ∃ b, r = .returned (.bool b) ∧ w' = w := by
  obtain ⟨h1, ⟨x, h2⟩, h3⟩ := h
  go_enter Try.func38, Try.ntmps38
  go_wp2
  go_ret
  exact ⟨_, rfl, rfl⟩
theorem ok_x (C : Nat) (w : World) (x : Int) (b : Bool) (h2 : w.cell? ⟨C, 0, none⟩ = some (.int .i64 x)) (hb : decide (0 ≤ x) = b) :
    Calls Try.prog 38 #[.pointer (some ⟨C, 0, none⟩)] w fun r w' => r = .returned (.bool b) ∧ w' = w := by
  go_enter Try.func38, Try.ntmps38
  go_wp2
  go_ret
  refine ⟨?_, rfl⟩
  rw [← hb]
  rfl
theorem add_c (C : Nat) (w0 w : World) (n : Int) (h : Ct C w) (hC : w0.heap.size ≤ C) (hb : Below w0.heap.size w0 w) :
    Calls Try.prog 39 #[.pointer (some ⟨C, 0, none⟩), .int .i64 n] w fun r w' => ∃ b, r = .returned (.bool b) ∧ Ct C w' ∧ Below w0.heap.size w0 w' := by
  have HC : Hid (Ct C w ∧ Below w0.heap.size w0 w) := ⟨h, hb⟩
  clear hb
  obtain ⟨h1, ⟨x, h2⟩, h3⟩ := h
  by_cases hx : 0 ≤ x
  · go_enter Try.func39, Try.ntmps39
    go_wp2
    go_ret
    exact ⟨_, rfl, HC.out.1.set _, HC.out.2.setCell (p := ⟨C, 0, none⟩) hC _⟩
  · go_enter Try.func39, Try.ntmps39
    go_wp2
    go_ret
    exact ⟨.inl rfl, HC.out⟩
theorem text_c (C : Nat) (w0 w : World) (s : ByteArray) (h : Ct C w) (hC : w0.heap.size ≤ C) (hb : Below w0.heap.size w0 w) :
    Calls Try.prog 75 #[.pointer (some ⟨C, 0, none⟩), .string s] w fun r w' => (∃ v, r = .returned v) ∧ Ct C w' ∧ Below w0.heap.size w0 w' := by
  have HC : Hid (Ct C w ∧ Below w0.heap.size w0 w) := ⟨h, hb⟩
  clear h hb
  go_enter Try.func75, Try.ntmps75
  go_wp2_with (go_at_call 39; refine (add_c C w0 _ _ HC.out.1 hC HC.out.2).mono ?_; rintro r w2 ⟨b, rfl, hc2, hk2⟩; have HF : Hid (Ct C w2 ∧ Below w0.heap.size w0 w2) := ⟨hc2, hk2⟩; clear hc2 hk2)
  go_end0
  exact ⟨⟨_, rfl⟩, HF.out⟩
set_option maxHeartbeats 1000000 in
theorem writes_c (C : Nat) (w0 w : World) (a : Option Addr) (cap n : Nat) (ws : List Chk.Wr) (hn : ws.length = n) (h : Ct C w) (hC : w0.heap.size ≤ C) (hb : Below w0.heap.size w0 w) (hw : Chk.IsWr w0 a ws) :
    Calls Try.prog 40 #[.pointer (some ⟨C, 0, none⟩), .slice a n cap] w fun r w' => (∃ v, r = .returned v) ∧ Ct C w' ∧ Below w0.heap.size w0 w' := by
  have HC : Hid (Ct C w ∧ Below w0.heap.size w0 w) := ⟨h, hb⟩
  have HW : Hid (Chk.IsWr w0 a ws) := hw
  have HN : Hid (ws.length = n) := hn
  have hmx : (n : Int) ≤ 9223372036854775807 := by have := hw.2.1; unfold maxLen at this; omega
  clear h hw hn hb
  go_enter Try.func40, Try.ntmps40
  go_wp2
  go_loopw [4] (fun i wr => ∃ k : Nat, k ≤ n ∧ i = .int .i64 (k : Int) ∧ Hid (Ct C wr ∧ Below w0.heap.size w0 wr)) (fun i _ => n - (intOf i).toNat)
  case atStart => exact ⟨0, Nat.zero_le _, rfl, HC⟩
  case round =>
    obtain ⟨k, hk, rfl, HK⟩ := hrel
    by_cases hlt : k < n
    · have q1 : (k : Int) < (n : Int) := by omega
      obtain ⟨_, ⟨x, x2⟩, _⟩ := HK.out.1
      by_cases hx0 : 0 ≤ x
      · have hkl : k < ws.length := by rw [HN.out]; exact hlt
        obtain ⟨b, off, rfl, hr⟩ := (HW.out.below HK.out.2).1 (by intro e; rw [e] at hkl; simp at hkl)
        obtain ⟨kk, dd, vv, hx⟩ : ∃ kk dd vv, ws[k]? = some (kk, dd, vv) := ⟨_, _, _, List.getElem?_eq_getElem hkl⟩
        obtain ⟨c0, c1, c2⟩ := hr.2 k _ hx
        have HX : Hid (ws[k]? = some (kk, dd, vv)) := hx
        dsimp only at c0 c1 c2
        clear hr hx hkl
        go_wp2_with (first | (go_at_call 38; refine (ok_x C _ x true x2 (decide_eq_true hx0)).mono ?_; rintro r w3 ⟨rfl, rfl⟩) | (go_at_call 75; refine (text_c C w0 _ _ HK.out.1 hC HK.out.2).mono ?_; rintro r w2 ⟨⟨v2, rfl⟩, hc2, hk2⟩; have HF : Hid (Ct C w2 ∧ Below w0.heap.size w0 w2) := ⟨hc2, hk2⟩; have d2 : w2.cell? ⟨b, off + k * 3 + 2, none⟩ = some (.string vv) := (by obtain ⟨b', off', e', hr'⟩ := (HW.out.below HF.out.2).1 (by intro e; have h9 := HX.out; rw [e] at h9; cases h9); cases e'; exact (hr'.2 k _ HX.out).2.2); clear hc2 hk2 c0 c1 c2 x2; clear HK) | (go_at_call 39; refine (add_c C w0 _ _ HF.out.1 hC HF.out.2).mono ?_; rintro r w4 ⟨b4, rfl, hc4, hk4⟩; have HF4 : Hid (Ct C w4 ∧ Below w0.heap.size w0 w4) := ⟨hc4, hk4⟩; clear hc4 hk4))
        go_roundw
        case rel => exact ⟨k + 1, by omega, by go_num, HF4⟩
        case measure => simp [intOf]; omega
      · go_wp2_with (go_at_call 38; refine (ok_x C _ x false x2 (decide_eq_false hx0)).mono ?_; rintro r w3 ⟨rfl, rfl⟩)
        go_end0
        exact ⟨⟨_, rfl⟩, HK.out⟩
    · go_wp2
      go_end0
      exact ⟨⟨_, rfl⟩, HK.out⟩
set_option maxHeartbeats 1000000 in
theorem groups_c (C : Nat) (w0 w : World) (a : Option Addr) (cap n : Nat) (gs : List (List Chk.Wr)) (hn : gs.length = n) (hmx : (n : Int) ≤ 9223372036854775807) (h : Ct C w) (hC : w0.heap.size ≤ C) (hb : Below w0.heap.size w0 w) (hw : IsG w0 a gs) :
    Calls Try.prog 67 #[.pointer (some ⟨C, 0, none⟩), .slice a n cap] w fun r w' => (∃ v, r = .returned v) ∧ Ct C w' ∧ Below w0.heap.size w0 w' := by
  have HC : Hid (Ct C w ∧ Below w0.heap.size w0 w) := ⟨h, hb⟩
  have HW : Hid (IsG w0 a gs) := hw
  have HN : Hid (gs.length = n) := hn
  clear h hw hn hb
  go_enter Try.func67, Try.ntmps67
  go_wp2_with (go_at_call 39; refine (add_c C w0 _ _ HC.out.1 hC HC.out.2).mono ?_; rintro r w2 ⟨b, rfl, hc2, hk2⟩; have HF : Hid (Ct C w2 ∧ Below w0.heap.size w0 w2) := ⟨hc2, hk2⟩; clear hc2 hk2)
  go_loopw [4] (fun i wr => ∃ k : Nat, k ≤ n ∧ i = .int .i64 (k : Int) ∧ Hid (Ct C wr ∧ Below w0.heap.size w0 wr)) (fun i _ => n - (intOf i).toNat)
  case atStart => exact ⟨0, Nat.zero_le _, rfl, HF⟩
  case round =>
    clear HF
    obtain ⟨k, hk, rfl, HK⟩ := hrel
    rename World => wr
    by_cases hlt : k < n
    · have q1 : (k : Int) < (n : Int) := by omega
      obtain ⟨_, ⟨x, x2⟩, _⟩ := HK.out.1
      by_cases hx0 : 0 ≤ x
      · have hkl : k < gs.length := by rw [HN.out]; exact hlt
        obtain ⟨bb, off, ad, c, rfl, hbl, c0, hws⟩ := HW.out.rd hkl
        have d0 := (HK.out.2.cell (p := ⟨bb, off + k, none⟩) hbl).trans c0
        obtain ⟨m, hm⟩ : ∃ m, (gs.getD k []).length = m := ⟨_, rfl⟩
        have HWS : Hid (Chk.IsWr w0 ad (gs.getD k []) ∧ (gs.getD k []).length = m) := ⟨hws, hm⟩
        rw [hm] at d0
        clear hws hkl c0 hm hbl
        go_wp2_with (first | (go_at_call 38; refine (ok_x C _ x true x2 (decide_eq_true hx0)).mono ?_; rintro r w3 ⟨rfl, rfl⟩) | (go_at_call 40; refine (writes_c C w0 _ _ _ _ _ HWS.out.2 HK.out.1 hC HK.out.2 HWS.out.1).mono ?_; rintro r w4 ⟨⟨v4, rfl⟩, hc4, hk4⟩; have HF4 : Hid (Ct C w4 ∧ Below w0.heap.size w0 w4) := ⟨hc4, hk4⟩; clear hc4 hk4))
        go_roundw
        case rel => exact ⟨k + 1, by omega, by go_num, HF4⟩
        case measure => simp [intOf]; omega
      · go_wp2_with (go_at_call 38; refine (ok_x C _ x false x2 (decide_eq_false hx0)).mono ?_; rintro r w3 ⟨rfl, rfl⟩)
        go_end0
        exact ⟨⟨_, rfl⟩, HK.out⟩
    · go_wp2
      go_end0
      exact ⟨⟨_, rfl⟩, HK.out⟩
theorem many_c (w : World) (n : Int) :
    Calls Try.prog 37 #[.int .i64 n] w fun r w' => r = .returned (.pointer (some ⟨w.heap.size, 0, none⟩)) ∧ w' = w.alloc (.cells #[.int .i64 n] 116) := by
  go_enter Try.func37, Try.ntmps37
  go_wp2
  go_ret
  exact ⟨rfl, rfl⟩
/-- are they few? whatever it answers -/
theorem groups_any (w : World) (a : Option Addr) (cap n : Nat) (gs : List (List Chk.Wr)) (hn : gs.length = n) (hmx : (n : Int) ≤ 9223372036854775807) (hw : IsG w a gs) :
    Calls Try.prog 19 #[.slice a n cap] w fun r w' => ∃ b, r = .returned (.bool b) ∧ Below w.heap.size w w' := by
  have HW : Hid (IsG w a gs) := hw
  have HN : Hid (gs.length = n) := hn
  clear hw hn
  have HB1 : Hid (Below w.heap.size w (w.alloc (.cells #[.int .i64 10000] 116))) := (Below.refl _ _).alloc (Nat.le_refl _) _
  have g1 : (w.alloc (.cells #[.int .i64 10000] 116)).heap[w.heap.size]? = some (.cells #[.int .i64 10000] 116) := World.alloc_heap_new _ _
  have HC1 : Hid (Ct w.heap.size (w.alloc (.cells #[.int .i64 10000] 116))) := ⟨(Array.getElem?_eq_some_iff.1 g1).1, ⟨10000, by rw [cell_of_obj g1]; rfl⟩, froz_of_obj g1⟩
  clear g1
  go_enter Try.func19, Try.ntmps19
  go_wp2_with (first | (go_at_call 37; refine (many_c _ _).mono ?_; rintro r w3 ⟨rfl, rfl⟩) | (go_at_call 67; refine (groups_c w.heap.size w _ _ _ _ gs HN.out hmx HC1.out (Nat.le_refl _) HB1.out HW.out).mono ?_; rintro r w4 ⟨⟨v4, rfl⟩, hc4, hk4⟩; obtain ⟨_, ⟨x4, hx4⟩, _⟩ := hc4; have HF4 : Hid (Below w.heap.size w w4) := hk4; clear hk4) | (go_at_call 38; refine (ok_x _ _ _ _ hx4 rfl).mono ?_; rintro r w5 ⟨rfl, rfl⟩))
  go_ret
  exact ⟨_, rfl, HF4.out⟩
end Grp
end Go.Proofs.Ytcioaoanhmpdkaa
