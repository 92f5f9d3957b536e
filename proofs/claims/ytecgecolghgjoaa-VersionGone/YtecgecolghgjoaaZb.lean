import Derived.Test.YtecgecolghgjoaaZa
namespace Go.Proofs.Ytecgecolghgjoaa
namespace Vr
open Go.Shelf Go.RowKit Go.Maps Go.ChangeMaps Go.MapKept Laws Irw Crw
set_option linter.unusedVariables false
set_option linter.unusedSimpArgs false
set_option maxRecDepth 20000
theorem setC_sets (b : Nat) : ∀ (vs : List Value) (o : Nat) (w : World), w.setCells b o vs = sets w b o vs
  | [], _, _ => rfl
  | v :: r, o, w => setC_sets b r (o + 1) _
/-- what lies behind is written over -/
theorem own_front {e : TypeId} {size g n c i : Nat} {w : World} {xs : List Value} (h : w.ownsRow 0 e size (.slice (some ⟨g, 0, none⟩) n c) n xs) (hi : i ≤ n) (vs : List Value) (hl : i * size + vs.length ≤ xs.length) :
    (sets w g (i * size) vs).ownsRow 0 e size (.slice (some ⟨g, 0, none⟩) i c) i (xs.take (i * size)) := by
  obtain ⟨ys, h1, h2⟩ := own_sets vs (i * size) w xs h hl
  obtain ⟨hlen, h3 | ⟨g', cap, cur, hv, hb, hh, hc1, hc2, hc3, hc4⟩⟩ := h1
  · cases h3.1
  · cases hv
    refine ⟨by rw [List.length_take]; omega, .inr ⟨g, c, cur, rfl, hb, hh, by omega, hc2, hc3, ?_⟩⟩
    have e1 : cur.toList.take (i * size) = ys.take (i * size) := by
      rw [← hc4, List.take_take, Nat.min_eq_left (Nat.mul_le_mul_right _ hi)]
    have e2 := congrArg (List.take (i * size)) h2
    rw [List.take_take, Nat.min_eq_left (by omega), List.take_append_of_le_length (by rw [List.length_take]; omega), List.take_take, Nat.min_self] at e2
    rw [e1, e2]
theorem zeroTb (w : World) : (zeroValue 47).run Try.prog w = .ok kTb.zero w := by kernel_rfl
def zs6 (n : Nat) : List Value := (Builtin.zeroCells kTb.zero.cells n).toList
theorem zs6_len (n : Nat) : (zs6 n).length = n * 6 := by
  unfold zs6 Builtin.zeroCells
  simp
  rfl
theorem zs6_one (n : Nat) : ∀ v ∈ zs6 n, v.oneCell' = true := by
  intro v hv
  unfold zs6 Builtin.zeroCells at hv
  simp only [Array.toList_map, List.mem_map] at hv
  obtain ⟨i, _, rfl⟩ := hv
  have h6 : kTb.zero.cells.size = 6 := rfl
  rw [h6]
  have : i % 6 < 6 := Nat.mod_lt _ (by decide)
  generalize i % 6 = k at this
  match k, this with
  | 0, _ => rfl
  | 1, _ => rfl
  | 2, _ => rfl
  | 3, _ => rfl
  | 4, _ => rfl
  | 5, _ => rfl
/-- clear of tables -/
theorem run_clearTb (w : World) (b o n c : Nat) (hn : 0 < n) (hc : ∀ j, j < n * 6 → (w.cell? ⟨b, o + j, none⟩).isSome = true) (hf : ∀ j, j < n * 6 → w.frozen? ⟨b, o + j, none⟩ = false) (ty : TypeId) :
    (Builtin.clear_ #[58] ty #[.slice (some ⟨b, o, none⟩) n c]).run Try.prog w = .ok (.tuple #[]) (sets w b o (zs6 n)) := by
  have hst := run_storeCells_cells (P := Try.prog) b o (zs6 n) 0 w (by rw [zs6_len]; simpa using hc) (by rw [zs6_len]; simpa using hf) (zs6_one n)
  simp only [Nat.add_zero, setC_sets] at hst
  obtain ⟨m, rfl⟩ : ∃ m, n = m + 1 := ⟨n - 1, by omega⟩
  have hz : (zeroValue 47).run Try.prog w = .ok kTb.zero w := zeroTb w
  obtain ⟨z, hz2⟩ : ∃ z, kTb.zero = z := ⟨_, rfl⟩
  unfold zs6 at hst ⊢
  rw [hz2] at hz hst ⊢
  simp [Builtin.clear_, run_underlying Try.underlying58, hz, hst]
/-- a table is written over another one -/
theorem own_tb {t0 : Nat} {T : Nat → Nat} {w : World} {g n c : Nat} {l : List Tb} (h : OwnK kTb t0 T w (.slice (some ⟨g, 0, none⟩) n c) l) (hn : n = l.length) {m : Nat} (hm : m < l.length) (x : Tb) :
    OwnK kTb t0 T ((((((w.setCell ⟨g, m * 6, none⟩ (.int .u64 (x.no : Int))).setCell ⟨g, m * 6 + 1, none⟩ (.int .i64 x.we)).setCell ⟨g, m * 6 + 2, none⟩ (.int .i64 x.by_)).setCell ⟨g, m * 6 + 3, none⟩ (.int .i64 x.en)).setCell ⟨g, m * 6 + 4, none⟩ (.string x.le)).setCell ⟨g, m * 6 + 5, none⟩ (.string x.gr)) (.slice (some ⟨g, 0, none⟩) n c) (l.set m x) := by
  obtain ⟨y, hy⟩ : ∃ y, l[m]? = some y := ⟨_, List.getElem?_eq_getElem hm⟩
  have h1 := ownK_set (K := kTb) h hn (m := m) (j := 0) (x := ⟨x.no, y.we, y.by_, y.en, y.le, y.gr⟩) (u := .int .u64 (x.no : Int)) hm (by decide) (fun z hz => by rw [hy] at hz; cases hz; rfl)
  have h2 := ownK_set (K := kTb) h1 (by simpa using hn) (m := m) (j := 1) (x := ⟨x.no, x.we, y.by_, y.en, y.le, y.gr⟩) (u := .int .i64 x.we) (by simpa using hm) (by decide) (fun z hz => by rw [List.getElem?_set_self hm] at hz; cases hz; rfl)
  have h3 := ownK_set (K := kTb) h2 (by simpa using hn) (m := m) (j := 2) (x := ⟨x.no, x.we, x.by_, y.en, y.le, y.gr⟩) (u := .int .i64 x.by_) (by simpa using hm) (by decide) (fun z hz => by rw [List.getElem?_set_self (by simpa using hm)] at hz; cases hz; rfl)
  have h4 := ownK_set (K := kTb) h3 (by simpa using hn) (m := m) (j := 3) (x := ⟨x.no, x.we, x.by_, x.en, y.le, y.gr⟩) (u := .int .i64 x.en) (by simpa using hm) (by decide) (fun z hz => by rw [List.getElem?_set_self (by simpa using hm)] at hz; cases hz; rfl)
  have h5 := ownK_set (K := kTb) h4 (by simpa using hn) (m := m) (j := 4) (x := ⟨x.no, x.we, x.by_, x.en, x.le, y.gr⟩) (u := .string x.le) (by simpa using hm) (by decide) (fun z hz => by rw [List.getElem?_set_self (by simpa using hm)] at hz; cases hz; rfl)
  have h6 := ownK_set (K := kTb) h5 (by simpa using hn) (m := m) (j := 5) (x := x) (u := .string x.gr) (by simpa using hm) (by decide) (fun z hz => by rw [List.getElem?_set_self (by simpa using hm)] at hz; cases hz; rfl)
  simp only [List.set_set] at h6
  exact h6
/-- the list while DeleteFunc goes through it -/
structure Dl (f : Tb → Bool) (l R : List Tb) (i j : Nat) : Prop where
  len : R.length = l.length
  lt : i < j
  le : j ≤ l.length
  fst : R.take i = (l.take j).filter f
  snd : R.drop j = l.drop j
theorem Dl.at_ {f : Tb → Bool} {l R : List Tb} {i j : Nat} (h : Dl f l R i j) : R[j]? = l[j]? := by
  have := congrArg (·[0]?) h.snd
  simpa using this
theorem Dl.keep {f : Tb → Bool} {l R : List Tb} {i j : Nat} {t : Tb} (h : Dl f l R i j) (ht : l[j]? = some t) (hf : f t = true) : Dl f l (R.set i t) (i + 1) (j + 1) := by
  have hj := (List.getElem?_eq_some_iff.1 ht).1
  have h1 := h.lt
  have h2 := h.len
  refine ⟨by simpa using h.len, by omega, hj, ?_, ?_⟩
  · have e1 : (l.take (j + 1)).filter f = R.take i ++ [t] := by
      rw [List.take_add_one, ht, List.filter_append, ← h.fst]
      simp [hf]
    rw [e1, List.take_add_one, List.getElem?_set_self (by omega), List.take_set_of_le (Nat.le_refl _)]
    rfl
  · rw [List.drop_set_of_lt (by omega)]
    have := congrArg (List.drop 1) h.snd
    simpa [List.drop_drop, Nat.add_comm] using this
theorem Dl.drop {f : Tb → Bool} {l R : List Tb} {i j : Nat} {t : Tb} (h : Dl f l R i j) (ht : l[j]? = some t) (hf : f t = false) : Dl f l R i (j + 1) := by
  have hj := (List.getElem?_eq_some_iff.1 ht).1
  have h1 := h.lt
  refine ⟨h.len, by omega, hj, ?_, ?_⟩
  · rw [List.take_add_one, ht, List.filter_append, ← h.fst]
    simp [hf]
  · have := congrArg (List.drop 1) h.snd
    simpa [List.drop_drop, Nat.add_comm] using this
theorem Dl.start {f : Tb → Bool} {l : List Tb} {i : Nat} {t : Tb} (ht : l[i]? = some t) (hf : f t = false) (hb : ∀ j, j < i → ∀ x, l[j]? = some x → f x = true) : Dl f l l i (i + 1) := by
  have hj := (List.getElem?_eq_some_iff.1 ht).1
  refine ⟨rfl, by omega, hj, ?_, rfl⟩
  rw [List.take_add_one, ht, List.filter_append]
  have : (l.take i).filter f = l.take i := List.filter_eq_self.2 fun x hx => by
    obtain ⟨k, hk, e⟩ := List.getElem_of_mem hx
    have hk' : k < i := by simp at hk; omega
    exact hb k hk' x (by rw [← e, List.getElem_take, List.getElem?_eq_getElem])
  rw [this]
  simp [hf]
theorem Dl.done {f : Tb → Bool} {l R : List Tb} {i : Nat} (h : Dl f l R i l.length) : R.take i = l.filter f ∧ (l.filter f).length = i := by
  have e := h.fst
  rw [List.take_length] at e
  refine ⟨e, ?_⟩
  rw [← e, List.length_take]
  have := h.lt
  have := h.len
  omega
def DfIs (T : Nat → Nat) (w : World) (a : Option Addr) (c t0 : Nat) (r : List Tb) (e : Ending) (w' : World) : Prop := e = .returned (.slice a r.length c) ∧ Goes (· = t0) T w T w' ∧ OwnK kTb t0 T w' (.slice a r.length c) r
set_option maxHeartbeats 4000000 in
theorem deleteFunc_any {T : Nat → Nat} {w : World} {bx db mb t0 : Nat} {ns : List Nat} {u : Value} (a : Option Addr) (c : Nat) (l : List Tb) (hbx : Zb w bx [.pointer (some ⟨db, 0, none⟩)]) (hdb : Zb w db [u, .map (some mb)]) (hm : WAt T w 4 mb ns)
    (h : OwnK kTb t0 T w (.slice a l.length c) l) (hno : ∀ t ∈ l, t.no < U64) (hlen : l.length ≤ 3000000) (ht1 : T bx ≠ t0) (ht2 : T db ≠ t0) (ht3 : 4 ≠ t0) :
    Calls Try.prog 56 #[.slice a l.length c, .func (.func 57) #[] #[.pointer (some ⟨bx, 0, none⟩)]] w fun e w' => DfIs T w a c t0 (l.filter fun t => decide (t.no ∈ ns)) e w' := by
  have HI := indexFunc_any a c l 57 #[.pointer (some ⟨bx, 0, none⟩)] (fun t => !decide (t.no ∈ ns)) w enters124 (Ls.own (s := (a, l.length, c)) h) hno hlen (fun W t hn hb => dt1_any hbx hdb hm W t hn hb)
  obtain ⟨f, hf⟩ : ∃ f : Tb → Bool, f = fun t => decide (t.no ∈ ns) := ⟨_, rfl⟩
  have hf2 : ∀ t, (!decide (t.no ∈ ns)) = !f t := fun t => by rw [hf]
  rw [← hf]
  cases hfi : l.findIdx? (fun t => !decide (t.no ∈ ns)) with
  | none =>
    have e1 : l.filter f = l := List.filter_eq_self.2 fun t ht => by
      have := List.findIdx?_eq_none_iff.1 hfi t ht
      rw [hf2] at this
      simpa using this
    have HC : Hid (Calls Try.prog 71 #[.slice a l.length c, .func (.func 57) #[] #[.pointer (some ⟨bx, 0, none⟩)]] w fun e w' => e = .returned (.int .i64 (-1)) ∧ Below w.heap.size w w') := by
      unfold idx at HI
      rw [hfi] at HI
      exact HI
    have HO : Hid (OwnK kTb t0 T w (.slice a l.length c) l) := h
    rw [e1]
    clear hbx hdb hm h hno HI hfi e1 hf hf2
    go_enter Try.func56, Try.ntmps56
    go_wp2_with (go_at_call 71; go_loud (refine HC.out.mono ?_; rintro e w1 ⟨rfl, hb1⟩; have HB : Hid (Below w.heap.size w w1) := hb1; clear hb1))
    go_ret
    exact ⟨rfl, Goes.below HB.out, HO.out.below HB.out⟩
  | some i0 =>
    obtain ⟨hi0, p1, p2⟩ := List.findIdx?_eq_some_iff_getElem.1 hfi
    have D0 : Dl f l l i0 (i0 + 1) := Dl.start (List.getElem?_eq_getElem hi0) (by rw [hf2] at p1; simpa using p1) (fun j hj x hx => by
      have := p2 j hj
      rw [hf2] at this
      obtain ⟨q1, q2⟩ := List.getElem?_eq_some_iff.1 hx
      rw [q2] at this
      simpa using this)
    obtain ⟨G, hG⟩ : ∃ G, a = some ⟨G, 0, none⟩ := by
      rcases h.1.2 with ⟨h1, h2⟩ | ⟨g, cap, cur, hv, _⟩
      · omega
      · cases hv; exact ⟨g, rfl⟩
    subst hG
    have HC : Hid (Calls Try.prog 71 #[.slice (some ⟨G, 0, none⟩) l.length c, .func (.func 57) #[] #[.pointer (some ⟨bx, 0, none⟩)]] w fun e w' => e = .returned (.int .i64 (i0 : Int)) ∧ Below w.heap.size w w') := by
      unfold idx at HI
      rw [hfi] at HI
      exact HI
    have HA : Hid (Zb w bx [.pointer (some ⟨db, 0, none⟩)] ∧ Zb w db [u, .map (some mb)] ∧ WAt T w 4 mb ns ∧ (∀ t ∈ l, t.no < U64)) := ⟨hbx, hdb, hm, hno⟩
    have HO : Hid (OwnK kTb t0 T w (.slice (some ⟨G, 0, none⟩) l.length c) l) := h
    have HF : Hid (f = fun t => decide (t.no ∈ ns)) := hf
    have HD : Hid (Dl f l l i0 (i0 + 1)) := D0
    have hlc : l.length ≤ c := (OwnK.sk (s := (some ⟨G, 0, none⟩, l.length, c)) h).2.2.1
    have q0 : ¬ (i0 : Int) = -1 := by omega
    have q00 : ((i0 : Int) == -1) = false := beq_eq_false_iff_ne.2 q0
    clear hbx hdb hm h hno HI hfi hf hf2 p1 p2 D0
    go_enter Try.func56, Try.ntmps56
    go_wp2_with (go_at_call 71; go_loud (refine HC.out.mono ?_; rintro e w1 ⟨rfl, hb1⟩; have HB : Hid (Below w.heap.size w w1) := hb1; clear hb1))
    go_loopw [5, 6] (fun vi vj wr => ∃ (i j : Nat) (R : List Tb), vi = .int .i64 (i : Int) ∧ vj = .int .i64 (j : Int) ∧ i < j ∧ j ≤ l.length ∧ Hid (Dl f l R i j ∧ Goes (· = t0) T w T wr ∧ OwnK kTb t0 T wr (.slice (some ⟨G, 0, none⟩) l.length c) R)) (fun _ vj _ => l.length - (intOf vj).toNat)
    case atStart => exact ⟨i0, i0 + 1, l, rfl, by go_num, by omega, hi0, HD.out, Goes.below HB.out, HO.out.below HB.out⟩
    case round =>
      clear HD HO HC HB
      obtain ⟨i, j, R, rfl, rfl, hij, hjl, HX⟩ := hrel
      rename World => wr
      by_cases hlt : j < l.length
      · have q1 : (j : Int) < (l.length : Int) := by omega
        obtain ⟨b, off, e1, hb, t, ht, y0, y1, y2, y3, y4, y5⟩ := (Ls.own (s := (some ⟨G, 0, none⟩, l.length, c)) HX.out.2.2).tb (i := j) (by rw [HX.out.1.len]; exact hlt)
        cases e1
        rw [Nat.zero_add] at y0 y1 y2 y3 y4 y5
        rw [HX.out.1.at_] at ht
        have HT : Hid (l[j]? = some t) := ht
        have htn : t.no < U64 := HA.out.2.2.2 t (List.mem_of_getElem? ht)
        clear ht
        go_upto_region 8 with fail
        obtain ⟨W, hW⟩ : ∃ W, wr.alloc (Obj.cells #[.int .u64 (t.no : Int), .int .i64 t.we, .int .i64 t.by_, .int .i64 t.en, .string t.le, .string t.gr] 47) = W := ⟨_, rfl⟩
        obtain ⟨b7, hb7⟩ : ∃ b, wr.heap.size = b := ⟨_, rfl⟩
        have HW : Hid (Below wr.heap.size wr W ∧ Zb W b7 [.int .u64 (t.no : Int), .int .i64 t.we, .int .i64 t.by_, .int .i64 t.en, .string t.le, .string t.gr] ∧ wr.heap.size = b7) := by
          rw [← hW, ← hb7]
          exact ⟨(Below.refl _ _).alloc (Nat.le_refl _) _, Zb.new _ _ _, rfl⟩
        have HG : Hid (Goes (· = t0) T w T W) := HX.out.2.1.trans (Goes.below HW.out.1)
        have HC : Hid (Calls Try.prog 57 #[.agg #[.int .u64 (t.no : Int), .int .i64 t.we, .int .i64 t.by_, .int .i64 t.en, .string t.le, .string t.gr], .pointer (some ⟨bx, 0, none⟩)] W fun e w' => e = .returned (.bool (!f t)) ∧ Below W.heap.size W w') := by
          have := dt1_any (w := W) (HA.out.1.goes HG.out ht1) (HA.out.2.1.goes HG.out ht2) (HA.out.2.2.1.goes HG.out ht3) W t htn (Below.refl _ _)
          rw [HF.out]
          exact this
        have z0 := HW.out.2.1.2.1 0 _ rfl
        have z1 := HW.out.2.1.2.1 1 _ rfl
        have z2 := HW.out.2.1.2.1 2 _ rfl
        have z3 := HW.out.2.1.2.1 3 _ rfl
        have z4 := HW.out.2.1.2.1 4 _ rfl
        have z5 := HW.out.2.1.2.1 5 _ rfl
        rw [hW, hb7]
        clear y0 y1 y2 y3 y4 y5 hW hb7
        cases hft : f t with
        | false =>
          have HFT : Hid (f t = false) := hft
          rw [hft] at HC
          have HC2 : Hid (Calls Try.prog 57 #[.agg #[.int .u64 (t.no : Int), .int .i64 t.we, .int .i64 t.by_, .int .i64 t.en, .string t.le, .string t.gr], .pointer (some ⟨bx, 0, none⟩)] W fun e w' => e = .returned (.bool true) ∧ Below W.heap.size W w') := HC.out
          clear hft HC
          go_wp2_with (go_at_call 57; go_loud (refine HC2.out.mono ?_; rintro e w2 ⟨rfl, hb2⟩; have HB2 : Hid (Below W.heap.size W w2) := hb2; clear hb2))
          go_roundw
          case rel => exact ⟨i, j + 1, R, rfl, by go_num, by omega, hlt, HX.out.1.drop HT.out HFT.out, HG.out.trans (Goes.below HB2.out), (HX.out.2.2.below HW.out.1).below HB2.out⟩
          case measure => simp [intOf]; omega
        | true =>
          have HFT : Hid (f t = true) := hft
          rw [hft] at HC
          have HC2 : Hid (Calls Try.prog 57 #[.agg #[.int .u64 (t.no : Int), .int .i64 t.we, .int .i64 t.by_, .int .i64 t.en, .string t.le, .string t.gr], .pointer (some ⟨bx, 0, none⟩)] W fun e w' => e = .returned (.bool false) ∧ Below W.heap.size W w') := HC.out
          clear hft HC
          go_upto_region 9 with (go_at_call 57; go_loud (refine HC2.out.mono ?_; rintro e w2 ⟨rfl, hb2⟩; have HB2 : Hid (Below W.heap.size W w2) := hb2; clear hb2))
          have HO2 : Hid (OwnK kTb t0 T w2 (.slice (some ⟨G, 0, none⟩) l.length c) R) := (HX.out.2.2.below HW.out.1).below HB2.out
          have HZ2 : Hid (Zb w2 b7 [.int .u64 (t.no : Int), .int .i64 t.we, .int .i64 t.by_, .int .i64 t.en, .string t.le, .string t.gr]) := HW.out.2.1.below HB2.out
          clear z0 z1 z2 z3 z4 z5
          have z0 := HZ2.out.2.1 0 _ rfl
          have z1 := HZ2.out.2.1 1 _ rfl
          have z2 := HZ2.out.2.1 2 _ rfl
          have z3 := HZ2.out.2.1 3 _ rfl
          have z4 := HZ2.out.2.1 4 _ rfl
          have z5 := HZ2.out.2.1 5 _ rfl
          obtain ⟨b, off, e1, hb8, t8, ht8, y0, y1, y2, y3, y4, y5⟩ := (Ls.own (s := (some ⟨G, 0, none⟩, l.length, c)) HO2.out).tb (i := i) (by rw [HX.out.1.len]; omega)
          cases e1
          rw [Nat.zero_add] at y0 y1 y2 y3 y4 y5
          have hfz : ∀ k, w2.frozen? ⟨G, k, none⟩ = false := fun k => World.ownsRow.frozenAt (show w2.ownsRow 0 kTb.ty kTb.size (.slice (some ⟨G, 0, none⟩) l.length c) l.length (kTb.cells R) from by have := HO2.out.1; rw [HX.out.1.len] at this; exact this) k
          have f0 := hfz (i * 6)
          have f1 := hfz (i * 6 + 1)
          have f2 := hfz (i * 6 + 2)
          have f3 := hfz (i * 6 + 3)
          have f4 := hfz (i * 6 + 4)
          have f5 := hfz (i * 6 + 5)
          clear hfz ht8
          have hil : i < l.length := by omega
          have HN : Hid (OwnK kTb t0 T ((((((w2.setCell ⟨G, i * 6, none⟩ (.int .u64 (t.no : Int))).setCell ⟨G, i * 6 + 1, none⟩ (.int .i64 t.we)).setCell ⟨G, i * 6 + 2, none⟩ (.int .i64 t.by_)).setCell ⟨G, i * 6 + 3, none⟩ (.int .i64 t.en)).setCell ⟨G, i * 6 + 4, none⟩ (.string t.le)).setCell ⟨G, i * 6 + 5, none⟩ (.string t.gr)) (.slice (some ⟨G, 0, none⟩) l.length c) (R.set i t)) := own_tb HO2.out HX.out.1.len.symm (by rw [HX.out.1.len]; exact hil) t
          have HTG : Hid (T G = t0) := HO2.out.2 G rfl
          obtain ⟨W9, hW9⟩ : ∃ W9, (((((w2.setCell ⟨G, i * 6, none⟩ (.int .u64 (t.no : Int))).setCell ⟨G, i * 6 + 1, none⟩ (.int .i64 t.we)).setCell ⟨G, i * 6 + 2, none⟩ (.int .i64 t.by_)).setCell ⟨G, i * 6 + 3, none⟩ (.int .i64 t.en)).setCell ⟨G, i * 6 + 4, none⟩ (.string t.le)).setCell ⟨G, i * 6 + 5, none⟩ (.string t.gr) = W9 := ⟨_, rfl⟩
          have HG9 : Hid (Goes (· = t0) T w T W9) := by
            rw [← hW9]
            have hs : ∀ (X : World) (k : Nat) (v : Value), Goes (· = t0) T X T (X.setCell ⟨G, k, none⟩ v) := fun X k v => Goes.setCell (t := (· = t0)) HTG.out
            exact (HG.out.trans (Goes.below HB2.out)).trans ((((((hs _ _ _).trans (hs _ _ _)).trans (hs _ _ _)).trans (hs _ _ _)).trans (hs _ _ _)).trans (hs _ _ _))
          rw [hW9] at HN
          go_wp2
          go_roundw
          case rel => exact ⟨i + 1, j + 1, R.set i t, by go_num, by go_num, by omega, hlt, HX.out.1.keep HT.out HFT.out, HG9.out, HN.out⟩
          case measure => simp [intOf]; omega
      · have q1 : ¬ (j : Int) < (l.length : Int) := by omega
        have HJ : Hid (j = l.length) := show j = l.length by omega
        have hil : i < l.length := by omega
        obtain ⟨m, hm⟩ : ∃ m : Nat, m = l.length - i := ⟨_, rfl⟩
        obtain ⟨cm, hcm⟩ : ∃ m : Nat, m = c - i := ⟨_, rfl⟩
        have HR : Hid (wr.ownsRow 0 kTb.ty kTb.size (.slice (some ⟨G, 0, none⟩) l.length c) l.length (kTb.cells R)) := by
          have := HX.out.2.2.1
          rw [HX.out.1.len] at this
          exact this
        have hclr : ∀ ty, (Builtin.clear_ #[58] ty #[.slice (some ⟨G, i * 6, none⟩) m cm]).run Try.prog wr = .ok (.tuple #[]) (sets wr G (i * 6) (zs6 m)) := fun ty =>
          run_clearTb wr G (i * 6) m cm (by omega) (fun k hk => by
            obtain ⟨h1, h2 | ⟨g', cap, cur, hv, hb, hh, hc1, hc2, hc3, hc4⟩⟩ := HR.out
            · cases h2.1
            · cases hv
              have : i * 6 + k < cur.size := by rw [hc3]; show i * 6 + k < c * 6; omega
              unfold World.cell?
              rw [hh]
              simp [this]) (fun k hk => World.ownsRow.frozenAt HR.out _) ty
        obtain ⟨W9, hW9⟩ : ∃ W9, sets wr G (i * 6) (zs6 m) = W9 := ⟨_, rfl⟩
        have HN : Hid (OwnK kTb t0 T W9 (.slice (some ⟨G, 0, none⟩) i c) (R.take i)) := by
          rw [← hW9]
          have h1 := own_front (i := i) HR.out (by omega) (zs6 m) (by rw [zs6_len, kTb.cells_length, HX.out.1.len]; show i * 6 + m * 6 ≤ l.length * 6; omega)
          rw [← cells_take kTb R i (by rw [HX.out.1.len]; omega)] at h1
          refine ⟨?_, fun b hb => HX.out.2.2.2 b hb⟩
          rw [List.length_take, HX.out.1.len, Nat.min_eq_left (by omega)]
          exact h1
        have HTG : Hid (T G = t0) := HX.out.2.2.2 G rfl
        have HG9 : Hid (Goes (· = t0) T w T W9) := by
          rw [← hW9]
          exact HX.out.2.1.trans (Goes.sets (t := (· = t0)) HTG.out _ _ _)
        have HDN : Hid (R.take i = l.filter f ∧ (l.filter f).length = i) := by
          have := HX.out.1
          rw [HJ.out] at this
          exact this.done
        rw [hW9] at hclr
        have hci : ¬ c = i := by omega
        have hm2 : (l.length : Int) - (i : Int) = (m : Int) := by omega
        have hm3 : (c : Int) - (i : Int) = (cm : Int) := by omega
        rw [hm, hcm] at hclr
        clear hW9 HR hm2 hm3 hm hcm
        go_wp2
        go_ret
        unfold DfIs
        rw [HDN.out.2, ← HDN.out.1]
        exact ⟨rfl, HG9.out, HN.out⟩
end Vr
end Go.Proofs.Ytecgecolghgjoaa
