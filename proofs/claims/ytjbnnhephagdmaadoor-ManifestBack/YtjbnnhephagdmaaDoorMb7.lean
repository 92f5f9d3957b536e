import Derived.Test.YtjbnnhephagdmaaDoorMb3
import Derived.Test.YtjbnnhephagdmaaDoorMw0
import Derived.Test.YtjbnnhephagdmaaDoorMp7
import Derived.Laws.OwnMore
namespace Go.Proofs.YtjbnnhephagdmaaDoor
namespace Mnf
open Go.RowKit CMath Byt Cod Crw Irw Laws
set_option linter.unusedVariables false
set_option linter.unusedSimpArgs false
set_option maxRecDepth 20000
/-- lengths as they may be in memory -/
def SzE (w : World) (v : Ev) (e : Ed) : Prop := (v.2.2.2.1.2.1 ≤ 9223372036854775807 ∧ v.2.2.2.2.1.2.1 ≤ 9223372036854775807 ∧ v.2.2.2.2.2.2.1 ≤ 9223372036854775807) ∧ (∀ q ∈ e.inn, q.le.size ≤ 9223372036854775807 ∧ q.gr.size ≤ 9223372036854775807) ∧ ∀ s ∈ e.ptr, s.size ≤ 9223372036854775807
def LzE (e : Ed) : Prop := (e.out.length ≤ 9223372036854775807 ∧ e.inn.length ≤ 9223372036854775807 ∧ e.ptr.length ≤ 9223372036854775807) ∧ (∀ q ∈ e.inn, q.le.size ≤ 9223372036854775807 ∧ q.gr.size ≤ 9223372036854775807) ∧ ∀ s ∈ e.ptr, s.size ≤ 9223372036854775807
set_option maxHeartbeats 1000000 in
theorem edits_c (C : Nat) (w0 w : World) (x : Int) (a : Option Addr) (cap n : Nat) (es : List Ed) (hw : EdsAw w0 (a, n, cap) es) (hmx : (n : Int) ≤ 9223372036854775807) (hsz : ∀ e ∈ es, LzE e) (h : Ct C w x) (hC : w0.heap.size ≤ C) (hb : Below w0.heap.size w0 w) :
    Calls Tryd.prog 17 #[.pointer (some ⟨C, 0, none⟩), .slice a n cap] w fun r w' => (∃ v, r = .returned v) ∧ ∃ z, Ct C w' z ∧ (0 ≤ z → 0 ≤ x ∧ z + ((es.map bulkT).sum : Int) ≤ x) ∧ Below w0.heap.size w0 w' := by
  have hne : n = es.length := by obtain ⟨vs, _, h2, _⟩ := hw; exact h2
  have HC : Hid (Ct C w x ∧ Below w0.heap.size w0 w) := ⟨h, hb⟩
  have HW : Hid (EdsAw w0 (a, n, cap) es ∧ (∀ e ∈ es, LzE e) ∧ n = es.length) := ⟨hw, hsz, hne⟩
  clear h hw hsz hb hne
  go_enter Tryd.func17, Tryd.ntmps17
  go_wp2
  go_loopw [4] (fun i wr => ∃ (k : Nat) (z : Int), k ≤ n ∧ i = .int .i64 (k : Int) ∧ Hid (Ct C wr z ∧ (0 ≤ z → 0 ≤ x ∧ z + (((es.take k).map bulkT).sum : Int) ≤ x) ∧ Below w0.heap.size w0 wr)) (fun i _ => n - (intOf i).toNat)
  case atStart => exact ⟨0, x, Nat.zero_le _, rfl, HC.out.1, fun h => ⟨h, by simp⟩, HC.out.2⟩
  case round =>
    obtain ⟨k, z, hk, rfl, HK⟩ := hrel
    rename World => wr
    by_cases hlt : k < n
    · have q1 : (k : Int) < (n : Int) := by omega
      have x2 := HK.out.1.2.1
      by_cases hx0 : 0 ≤ z
      · have hkl : k < es.length := by rw [← HW.out.2.2]; exact hlt
        obtain ⟨ed, hed0⟩ : ∃ e, es[k]? = some e := ⟨_, List.getElem?_eq_getElem hkl⟩
        obtain ⟨_, _, v0, e0, _, _, he0⟩ := eds_aw HW.out.1 hed0
        obtain ⟨b1, off1, v, hsa, hbl1, cs1, he1⟩ := eds_aw HW.out.1 hed0
        dsimp only at hsa
        subst hsa
        obtain ⟨v1, v2, v3, o1, i1, p1⟩ := v
        have c0 : wr.cell? ⟨b1, off1 + k * 6, none⟩ = some (.int .u64 (v1 : Int)) := (HK.out.2.2.cell (p := ⟨b1, off1 + k * 6, none⟩) hbl1).trans (cs1 0 _ rfl)
        have c1 : wr.cell? ⟨b1, off1 + k * 6 + 1, none⟩ = some (.int .u64 (v2 : Int)) := (HK.out.2.2.cell (p := ⟨b1, off1 + k * 6 + 1, none⟩) hbl1).trans (cs1 1 _ rfl)
        have c2 : wr.cell? ⟨b1, off1 + k * 6 + 2, none⟩ = some (.int .u64 (v3 : Int)) := (HK.out.2.2.cell (p := ⟨b1, off1 + k * 6 + 2, none⟩) hbl1).trans (cs1 2 _ rfl)
        have c3 : wr.cell? ⟨b1, off1 + k * 6 + 3, none⟩ = some (.slice o1.1 o1.2.1 o1.2.2) := (HK.out.2.2.cell (p := ⟨b1, off1 + k * 6 + 3, none⟩) hbl1).trans (cs1 3 _ rfl)
        have c4 : wr.cell? ⟨b1, off1 + k * 6 + 4, none⟩ = some (.slice i1.1 i1.2.1 i1.2.2) := (HK.out.2.2.cell (p := ⟨b1, off1 + k * 6 + 4, none⟩) hbl1).trans (cs1 4 _ rfl)
        have c5 : wr.cell? ⟨b1, off1 + k * 6 + 5, none⟩ = some (.slice p1.1 p1.2.1 p1.2.2) := (HK.out.2.2.cell (p := ⟨b1, off1 + k * 6 + 5, none⟩) hbl1).trans (cs1 5 _ rfl)
        have hlz := HW.out.2.1 ed (List.mem_of_getElem? hed0)
        have HEC : Hid (Calls Tryd.prog 31 #[.pointer (some ⟨C, 0, none⟩), .agg #[.int .u64 (v1 : Int), .int .u64 (v2 : Int), .int .u64 (v3 : Int), .slice o1.1 o1.2.1 o1.2.2, .slice i1.1 i1.2.1 i1.2.2, .slice p1.1 p1.2.1 p1.2.2]] wr fun r w' => (∃ v, r = .returned v) ∧ ∃ z', Ct C w' z' ∧ (0 ≤ z' → 0 ≤ z ∧ z' + (bulkT ed : Int) ≤ z) ∧ Below w0.heap.size w0 w') :=
          edit_c C w0 wr z ed v1 v2 v3 o1 i1 p1 he1.2.1 he1.2.2.1 he1.2.2.2 ⟨by rw [he1.2.1.2.1]; exact hlz.1.1, by rw [he1.2.2.1.2.1]; exact hlz.1.2.1, by rw [he1.2.2.2.2.1]; exact hlz.1.2.2⟩ hlz.2.1 hlz.2.2 HK.out.1 hC HK.out.2.2
        have HSM : Hid (((es.take (k + 1)).map bulkT).sum = ((es.take k).map bulkT).sum + bulkT ed) := sum_take hed0
        clear hkl hed0 cs1 he1 hlz e0 he0
        go_wp2_with (first | (go_at_call 18; refine (ok_x C _ z true x2 (decide_eq_true hx0)).mono ?_; rintro r w3 ⟨rfl, rfl⟩) | (go_at_call 31; refine HEC.out.mono ?_; rintro r w4 ⟨⟨v4, rfl⟩, z4, h41, h42, h43⟩; have HF : Hid (Ct C w4 z4 ∧ (0 ≤ z4 → 0 ≤ z ∧ z4 + (bulkT ed : Int) ≤ z) ∧ Below w0.heap.size w0 w4) := ⟨h41, h42, h43⟩; clear h41 h42 h43))
        go_roundw
        case rel =>
          refine ⟨k + 1, z4, by omega, by go_num, HF.out.1, fun h => ?_, HF.out.2.2⟩
          have h1 := HF.out.2.1 h
          have h3 := HK.out.2.1 h1.1
          rw [HSM.out]
          omega
        case measure => simp [intOf]; omega
      · go_wp2_with (go_at_call 18; refine (ok_x C _ z false x2 (decide_eq_false hx0)).mono ?_; rintro r w3 ⟨rfl, rfl⟩)
        go_end0
        exact ⟨⟨_, rfl⟩, z, HK.out.1, fun h => absurd h (by omega), HK.out.2.2⟩
    · obtain rfl : k = n := by omega
      go_wp2
      go_end0
      refine ⟨⟨_, rfl⟩, z, HK.out.1, fun h => ?_, HK.out.2.2⟩
      have := HK.out.2.1 h
      rw [List.take_of_length_le (by rw [HW.out.2.2]; exact Nat.le_refl _)] at this
      exact this
/-- at most 10,000 parts, or nothing is said -/
theorem few_any (w : World) (a : Option Addr) (cap n : Nat) (es : List Ed) (hw : EdsAw w (a, n, cap) es) (hmx : (n : Int) ≤ 9223372036854775807) (hsz : ∀ e ∈ es, LzE e) :
    Calls Tryd.prog 6 #[.slice a n cap] w fun r w' => ∃ b : Bool, r = .returned (.bool b) ∧ Below w.heap.size w w' ∧ (b = true → (es.map bulkT).sum ≤ 10000) := by
  have HW : Hid (EdsAw w (a, n, cap) es ∧ ∀ e ∈ es, LzE e) := ⟨hw, hsz⟩
  clear hw hsz
  go_enter Tryd.func6, Tryd.ntmps6
  go_upto_region 3 with (first
    | (go_at_call 16; refine (many_k _).mono ?_; rintro e w1 ⟨rfl, hc1, hb1⟩; have HM : Hid (Ct w.heap.size w1 10000 ∧ Below w.heap.size w w1) := ⟨hc1, hb1⟩; clear hc1 hb1)
    | (go_at_call 17; refine (edits_c w.heap.size w _ 10000 a cap n es HW.out.1 hmx HW.out.2 HM.out.1 (Nat.le_refl _) HM.out.2).mono ?_; rintro e w2 ⟨⟨v, rfl⟩, z, hc2, hz2, hb2⟩; have HZ : Hid (Ct w.heap.size w2 z ∧ (0 ≤ z → 0 ≤ (10000 : Int) ∧ z + ((es.map bulkT).sum : Int) ≤ 10000) ∧ Below w.heap.size w w2) := ⟨hc2, hz2, hb2⟩; clear hc2 hz2 hb2))
  obtain ⟨b, hb⟩ : ∃ b, decide (0 ≤ z) = b := ⟨_, rfl⟩
  go_wp2_with (go_at_call 18; refine (ok_x w.heap.size _ z b HZ.out.1.2.1 hb).mono ?_; rintro e w3 ⟨rfl, hw3⟩; rw [hw3]; clear hw3)
  go_ret
  refine ⟨b, rfl, HZ.out.2.2, fun h => ?_⟩
  rw [h] at hb
  have h0 := of_decide_eq_true hb
  have := HZ.out.2.1 h0
  omega
end Mnf
end Go.Proofs.YtjbnnhephagdmaaDoor
namespace Go.Proofs.YtjbnnhephagdmaaDoor
namespace Mnf
open Go.RowKit CMath Byt Cod Crw Irw Laws
set_option linter.unusedVariables false
set_option linter.unusedSimpArgs false
set_option maxRecDepth 20000
theorem old_set {w wr : World} {T : Nat → Nat} {B : Nat} (h : Old w T wr) (hB : w.heap.size ≤ B) (j : Nat) (v : Value) : Old w T (wr.setCell ⟨B, j, none⟩ v) := ⟨h.below.setCell (p := ⟨B, j, none⟩) hB v, fun b hb => h.zero b (by simpa using hb)⟩
/-- an edit of lists of one's own, the j-th -/
def EdO (T : Nat → Nat) (w : World) (j : Nat) (v : Ev) (e : Ed) : Prop := (v.1 = e.log ∧ v.2.1 = e.nxt ∧ v.2.2.1 = e.seq) ∧ OwnK kPl (10 + 3 * j) T w (svV v.2.2.2.1) e.out ∧ OwnK kPd (11 + 3 * j) T w (svV v.2.2.2.2.1) e.inn ∧ OwnK kT (12 + 3 * j) T w (svV v.2.2.2.2.2) e.ptr
theorem EdO.goes {t : Nat → Prop} {T T' : Nat → Nat} {w w' : World} {j : Nat} {v : Ev} {e : Ed} (h : EdO T w j v e) (hg : Goes t T w T' w') (ht : ∀ s, t s → s < 10 + 3 * j ∨ 13 + 3 * j ≤ s) : EdO T' w' j v e :=
  ⟨h.1, h.2.1.goes hg (fun k => by have := ht _ k; omega), h.2.2.1.goes hg (fun k => by have := ht _ k; omega), h.2.2.2.goes hg (fun k => by have := ht _ k; omega)⟩
/-- copies so far -/
structure Cs (w : World) (T : Nat → Nat) (wr : World) (es : List Ed) (s : Sv) : Prop where
  old : Old w T wr
  own : ∃ vs, OwnK kE 1 T wr (svV s) vs ∧ vs.length = es.length ∧ ∀ (j : Nat) v e, vs[j]? = some v → es[j]? = some e → EdO T wr j v e
theorem Cs.goes {w wr w' : World} {T T' : Nat → Nat} {es : List Ed} {s : Sv} {t : Nat} (h : Cs w T wr es s) (hg : Goes (· = t) T wr T' w') (ht : 10 + 3 * es.length ≤ t) : Cs w T' w' es s := by
  obtain ⟨vs, h1, h2, h3⟩ := h.own
  refine ⟨h.old.goes hg (by omega), vs, h1.goes hg (by omega), h2, fun j v e hv he => (h3 j v e hv he).goes hg (fun s hs => ?_)⟩
  have hj := (List.getElem?_eq_some_iff.1 he).1
  right
  omega
theorem Cs.below {w wr w' : World} {T : Nat → Nat} {es : List Ed} {s : Sv} (h : Cs w T wr es s) (hb : Below wr.heap.size wr w') : Cs w T w' es s := by
  obtain ⟨vs, h1, h2, h3⟩ := h.own
  have hg := Goes.below (t := fun _ => False) (T := T) hb
  exact ⟨h.old.goes hg (fun z => z), vs, h1.below hb, h2, fun j v e hv he => (h3 j v e hv he).goes hg (fun s hs => hs.elim)⟩
theorem Cs.set {w wr : World} {T : Nat → Nat} {es : List Ed} {s : Sv} {B : Nat} (h : Cs w T wr es s) (hB : w.heap.size ≤ B) (ht : T B = 0) (j : Nat) (v : Value) : Cs w T (wr.setCell ⟨B, j, none⟩ v) es s := by
  obtain ⟨vs, h1, h2, h3⟩ := h.own
  have hg := Goes.setCell (t := (· = 0)) (T := T) (w := wr) (p := B) (j := j) (v := v) ht
  exact ⟨old_set h.old hB j v, vs, h1.goes hg (by decide), h2, fun j v e hv he => (h3 j v e hv he).goes hg (fun s hs => by left; omega)⟩
/-- a copy is being made in a box -/
structure Cb (w : World) (T : Nat → Nat) (wr : World) (es : List Ed) (s : Sv) (k B : Nat) (vs : List Value) : Prop where
  cs : Cs w T wr es s
  len : es.length = k
  box : Zb wr B vs
  tag : T B = 0
  ge : w.heap.size ≤ B
theorem Cb.start {w wr : World} {T : Nat → Nat} {es : List Ed} {s : Sv} {k : Nat} (h : Cs w T wr es s) (hl : es.length = k) (vs : Array Value) (t : TypeId) : Cb w T (wr.alloc (.cells vs t)) es s k wr.heap.size vs.toList :=
  ⟨h.below ((Below.refl _ _).alloc (Nat.le_refl _) _), hl, Zb.new wr vs t, h.old.zero _ (.inr (Nat.le_refl _)), h.old.below.size⟩
theorem Cb.app {w wr w2 : World} {T T2 : Nat → Nat} {es : List Ed} {s : Sv} {k B t : Nat} {vs : List Value} (h : Cb w T wr es s k B vs) (hg : Goes (· = t) T wr T2 w2) (ht : 10 + 3 * k ≤ t) : Cb w T2 w2 es s k B vs :=
  ⟨h.cs.goes hg (by rw [h.len]; exact ht), h.len, h.box.goes hg (by rw [h.tag]; omega), (hg.tag B h.box.1 (by rw [h.tag]; omega)).trans h.tag, h.ge⟩
theorem Cb.set {w wr : World} {T : Nat → Nat} {es : List Ed} {s : Sv} {k B : Nat} {vs : List Value} (h : Cb w T wr es s k B vs) (j : Nat) (v : Value) : Cb w T (wr.setCell ⟨B, j, none⟩ v) es s k B (vs.set j v) :=
  ⟨h.cs.set h.ge h.tag j v, h.len, h.box.set j v, h.tag, h.ge⟩
theorem own_set {α : Type} {K : Knd α} {t B : Nat} {T : Nat → Nat} {w : World} {u : Value} {l : List α} (h : OwnK K t T w u l) (hB : T B = 0) (ht : 0 < t) (j : Nat) (v : Value) : OwnK K t T (w.setCell ⟨B, j, none⟩ v) u l :=
  h.goes (Goes.setCell (t := (· = 0)) (T := T) (w := w) (p := B) (j := j) (v := v) hB) (by omega)
end Mnf
end Go.Proofs.YtjbnnhephagdmaaDoor
namespace Go.Proofs.YtjbnnhephagdmaaDoor
namespace Mnf
open Go.RowKit CMath Byt Cod Crw Irw Laws
set_option linter.unusedVariables false
set_option linter.unusedSimpArgs false
set_option maxRecDepth 20000
theorem Cb.froz {w wr : World} {T : Nat → Nat} {es : List Ed} {s : Sv} {k B : Nat} {vs : List Value} (h : Cb w T wr es s k B vs) (j : Nat) : wr.frozen? ⟨B, j, none⟩ = false := h.box.2.2 j
theorem Cs.snoc {w W w2 : World} {T T2 : Nat → Nat} {es : List Ed} {s : Sv} (h : Cs w T W es s) (vs : List Ev) (hvs : vs.length = es.length) (hes : ∀ (j : Nat) v e, vs[j]? = some v → es[j]? = some e → EdO T W j v e) (hg : Goes (· = 1) T W T2 w2) (x : Ev) (ed : Ed) (hx : EdO T W es.length x ed) (s2 : Sv) (hown : OwnK kE 1 T2 w2 (svV s2) (vs ++ [x])) : Cs w T2 w2 (es ++ [ed]) s2 := by
  refine ⟨h.old.goes hg (by decide), vs ++ [x], hown, by simp [hvs], fun j v e hv he => ?_⟩
  refine EdO.goes ?_ hg (fun s hs => by left; omega)
  rcases Nat.lt_or_ge j es.length with hj | hj
  · rw [List.getElem?_append_left (by omega)] at hv he
    exact hes j v e hv he
  · rw [List.getElem?_append_right (by omega)] at hv he
    have hj0 : j = es.length := by
      have := (List.getElem?_eq_some_iff.1 he).1
      simp at this
      omega
    subst hj0
    rw [hvs] at hv
    simp at hv he
    subst hv
    subst he
    exact hx
set_option maxHeartbeats 2000000 in
theorem copied_any (w : World) (a : Option Addr) (n cap : Nat) (es : List Ed) (hw : EdsAw w (a, n, cap) es) (hn : n ≤ 1000000) (hl : ∀ e ∈ es, e.out.length ≤ 1000000 ∧ e.inn.length ≤ 1000000 ∧ e.ptr.length ≤ 1000000) :
    Calls Tryd.prog 19 #[.slice a n cap] w fun e w' => ∃ T s, e = .returned (svV s) ∧ Cs w T w' es s := by
  obtain ⟨pz, hpz, pz0, pz1, pz2⟩ := info_parts infoPl
  obtain ⟨dz, hdz, dz0, dz1, dz2⟩ := info_parts infoPd
  obtain ⟨tz, htz, tz0, tz1, tz2⟩ := info_parts infoT
  obtain ⟨ez, hez, ez0, ez1, ez2⟩ := info_parts infoE
  have hne : n = es.length := by obtain ⟨vs, _, h2, _⟩ := hw; exact h2
  have HW : Hid (EdsAw w (a, n, cap) es ∧ (∀ e ∈ es, e.out.length ≤ 1000000 ∧ e.inn.length ≤ 1000000 ∧ e.ptr.length ≤ 1000000) ∧ n = es.length) := ⟨hw, hl, hne⟩
  have HS0 : Hid (Cs w (fun _ => 0) w (es.take 0) nS) := ⟨⟨Below.refl _ _, fun _ _ => rfl⟩, [], OwnK.empty _ _ _, by simp, fun j v e hv => by simp at hv⟩
  clear hw hl hne
  go_enter Tryd.func19, Tryd.ntmps19
  go_wp2
  go_loopw [3, 4] (fun s3 i wr => ∃ (k : Nat) (T : Nat → Nat) (s : Sv), k ≤ n ∧ s3 = .slice s.1 s.2.1 s.2.2 ∧ i = .int .i64 (k : Int) ∧ Hid (Cs w T wr (es.take k) s)) (fun _ i _ => n - (intOf i).toNat)
  case atStart => exact ⟨0, _, nS, Nat.zero_le _, rfl, rfl, HS0.out⟩
  case round =>
    clear HS0
    obtain ⟨k, T, s, hk, rfl, rfl, HK⟩ := hrel
    rename World => wr
    by_cases hlt : k < n
    · have q1 : (k : Int) < (n : Int) := by omega
      have hkl : k < es.length := by rw [← HW.out.2.2]; exact hlt
      obtain ⟨ed, hed0⟩ : ∃ e, es[k]? = some e := ⟨_, List.getElem?_eq_getElem hkl⟩
      obtain ⟨b1, off1, v, hsa, hbl1, cs1, he1⟩ := eds_aw HW.out.1 hed0
      dsimp only at hsa
      subst hsa
      obtain ⟨v1, v2, v3, o1, i1, p1⟩ := v
      have c0 : wr.cell? ⟨b1, off1 + k * 6, none⟩ = some (.int .u64 (v1 : Int)) := (HK.out.old.below.cell (p := ⟨b1, off1 + k * 6, none⟩) hbl1).trans (cs1 0 _ rfl)
      have c1 : wr.cell? ⟨b1, off1 + k * 6 + 1, none⟩ = some (.int .u64 (v2 : Int)) := (HK.out.old.below.cell (p := ⟨b1, off1 + k * 6 + 1, none⟩) hbl1).trans (cs1 1 _ rfl)
      have c2 : wr.cell? ⟨b1, off1 + k * 6 + 2, none⟩ = some (.int .u64 (v3 : Int)) := (HK.out.old.below.cell (p := ⟨b1, off1 + k * 6 + 2, none⟩) hbl1).trans (cs1 2 _ rfl)
      have c3 : wr.cell? ⟨b1, off1 + k * 6 + 3, none⟩ = some (.slice o1.1 o1.2.1 o1.2.2) := (HK.out.old.below.cell (p := ⟨b1, off1 + k * 6 + 3, none⟩) hbl1).trans (cs1 3 _ rfl)
      have c4 : wr.cell? ⟨b1, off1 + k * 6 + 4, none⟩ = some (.slice i1.1 i1.2.1 i1.2.2) := (HK.out.old.below.cell (p := ⟨b1, off1 + k * 6 + 4, none⟩) hbl1).trans (cs1 4 _ rfl)
      have c5 : wr.cell? ⟨b1, off1 + k * 6 + 5, none⟩ = some (.slice p1.1 p1.2.1 p1.2.2) := (HK.out.old.below.cell (p := ⟨b1, off1 + k * 6 + 5, none⟩) hbl1).trans (cs1 5 _ rfl)
      have hlk : (es.take k).length = k := by simp; omega
      obtain ⟨hl1, hl2, hl3⟩ := HW.out.2.1 ed (List.mem_of_getElem? hed0)
      have HQ : Hid (es[k]? = some ed ∧ EdAw w (v1, v2, v3, o1, i1, p1) ed ∧ (es.take k).length = k) := ⟨hed0, he1, hlk⟩
      have HB0 : Hid (Cb w T (wr.alloc (.cells #[.int .u64 (v1 : Int), .int .u64 (v2 : Int), .int .u64 (v3 : Int), .slice o1.1 o1.2.1 o1.2.2, .slice i1.1 i1.2.1 i1.2.2, .slice p1.1 p1.2.1 p1.2.2] 34)) (es.take k) s k wr.heap.size (evC v1 v2 v3 o1 i1 p1)) := Cb.start HK.out hlk _ _
      clear hkl hed0 cs1 he1 hlk
      go_upto_region 6 with (fail)
      clear c0 c1 c2 c3 c4 c5
      obtain ⟨W1, hW1⟩ : ∃ W, wr.alloc (.cells #[.int .u64 (v1 : Int), .int .u64 (v2 : Int), .int .u64 (v3 : Int), .slice o1.1 o1.2.1 o1.2.2, .slice i1.1 i1.2.1 i1.2.2, .slice p1.1 p1.2.1 p1.2.2] 34) = W := ⟨_, rfl⟩
      obtain ⟨B, hB⟩ : ∃ B, wr.heap.size = B := ⟨_, rfl⟩
      rw [hB] at HB0 ⊢
      rw [hW1] at HB0 ⊢
      clear hW1
      have g3 := HB0.out.box.2.1 3 _ rfl
      go_upto_region 7 with (at_builtin; go_loud (refine wpList_appK kPl _ (by rfl) (.const (.slice none 0 0)) (.tmp 17) 30 (by rfl) pz Tryd.underlying30 hpz pz0 pz1 pz2 (10 + 3 * k) T (.slice none 0 0) [] (by rfl) (OwnK.empty _ _ _) o1.1 o1.2.1 o1.2.2 ed.out (by rfl) (HQ.out.2.1.2.1.below HB0.out.cs.old.below).2.1 (HQ.out.2.1.2.1.below HB0.out.cs.old.below).2.2.1 (HQ.out.2.1.2.1.below HB0.out.cs.old.below).1 (by simp; omega) ?_; intro a1 c1 T1 w1 hown hg; have hown2 := hown; rw [List.nil_append, List.length_nil, Nat.zero_add] at hown2; have HX1 : Hid (Cb w T1 w1 (es.take k) s k B (evC v1 v2 v3 o1 i1 p1)) := HB0.out.app hg (by omega); have HO1 : Hid (OwnK kPl (10 + 3 * k) T1 w1 (.slice a1 ed.out.length c1) ed.out) := hown2; have HG1 : Hid (Goes (· = 10 + 3 * k) T W1 T1 w1) := hg; have y3 := HX1.out.box.2.1 3 _ rfl; have yf3 := HX1.out.froz 3; rw [show ([] : List Pl).length + ed.out.length = ed.out.length from Nat.zero_add _]; clear hown hown2 hg))
      obtain ⟨W2, hW2⟩ : ∃ W, w1.setCell ⟨B, 3, none⟩ (.slice a1 ed.out.length c1) = W := ⟨_, rfl⟩
      have HB1 : Hid (Cb w T1 W2 (es.take k) s k B (evC v1 v2 v3 (a1, ed.out.length, c1) i1 p1)) := by rw [← hW2]; exact HX1.out.set 3 _
      have HP11 : Hid (OwnK kPl (10 + 3 * k) T1 W2 (.slice a1 ed.out.length c1) ed.out) := by rw [← hW2]; exact own_set HO1.out HX1.out.tag (by omega) 3 _
      rw [hW2]
      clear hW2 g3 y3 yf3
      have g4 := HB1.out.box.2.1 4 _ rfl
      go_upto_region 8 with (at_builtin; go_loud (refine wpList_appK kPd _ (by rfl) (.const (.slice none 0 0)) (.tmp 21) 31 (by rfl) dz Tryd.underlying31 hdz dz0 dz1 dz2 (11 + 3 * k) T1 (.slice none 0 0) [] (by rfl) (OwnK.empty _ _ _) i1.1 i1.2.1 i1.2.2 ed.inn (by rfl) (HQ.out.2.1.2.2.1.below HB1.out.cs.old.below).2.1 (HQ.out.2.1.2.2.1.below HB1.out.cs.old.below).2.2.1 (HQ.out.2.1.2.2.1.below HB1.out.cs.old.below).1 (by simp; omega) ?_; intro a2 c2 T2 w2 hown hg; have hown2 := hown; rw [List.nil_append, List.length_nil, Nat.zero_add] at hown2; have HX2 : Hid (Cb w T2 w2 (es.take k) s k B (evC v1 v2 v3 (a1, ed.out.length, c1) i1 p1)) := HB1.out.app hg (by omega); have HO2 : Hid (OwnK kPd (11 + 3 * k) T2 w2 (.slice a2 ed.inn.length c2) ed.inn) := hown2; have HG2 : Hid (Goes (· = 11 + 3 * k) T1 W2 T2 w2) := hg; have y4 := HX2.out.box.2.1 4 _ rfl; have yf4 := HX2.out.froz 4; rw [show ([] : List Pd).length + ed.inn.length = ed.inn.length from Nat.zero_add _]; clear hown hown2 hg))
      obtain ⟨W3, hW3⟩ : ∃ W, w2.setCell ⟨B, 4, none⟩ (.slice a2 ed.inn.length c2) = W := ⟨_, rfl⟩
      have HB2 : Hid (Cb w T2 W3 (es.take k) s k B (evC v1 v2 v3 (a1, ed.out.length, c1) (a2, ed.inn.length, c2) p1)) := by rw [← hW3]; exact HX2.out.set 4 _
      have HP22 : Hid (OwnK kPd (11 + 3 * k) T2 W3 (.slice a2 ed.inn.length c2) ed.inn) := by rw [← hW3]; exact own_set HO2.out HX2.out.tag (by omega) 4 _
      have HP21 : Hid (OwnK kPl (10 + 3 * k) T2 W3 (.slice a1 ed.out.length c1) ed.out) := by rw [← hW3]; exact own_set (HP11.out.goes HG2.out (by omega)) HX2.out.tag (by omega) 4 _
      rw [hW3]
      clear hW3 g4 y4 yf4
      have g5 := HB2.out.box.2.1 5 _ rfl
      go_upto_region 9 with (at_builtin; go_loud (refine wpList_appK kT _ (by rfl) (.const (.slice none 0 0)) (.tmp 25) 32 (by rfl) tz Tryd.underlying32 htz tz0 tz1 tz2 (12 + 3 * k) T2 (.slice none 0 0) [] (by rfl) (OwnK.empty _ _ _) p1.1 p1.2.1 p1.2.2 ed.ptr (by rfl) (HQ.out.2.1.2.2.2.below HB2.out.cs.old.below).2.1 (HQ.out.2.1.2.2.2.below HB2.out.cs.old.below).2.2.1 (HQ.out.2.1.2.2.2.below HB2.out.cs.old.below).1 (by simp; omega) ?_; intro a3 c3 T3 w3 hown hg; have hown2 := hown; rw [List.nil_append, List.length_nil, Nat.zero_add] at hown2; have HX3 : Hid (Cb w T3 w3 (es.take k) s k B (evC v1 v2 v3 (a1, ed.out.length, c1) (a2, ed.inn.length, c2) p1)) := HB2.out.app hg (by omega); have HO3 : Hid (OwnK kT (12 + 3 * k) T3 w3 (.slice a3 ed.ptr.length c3) ed.ptr) := hown2; have HG3 : Hid (Goes (· = 12 + 3 * k) T2 W3 T3 w3) := hg; have y5 := HX3.out.box.2.1 5 _ rfl; have yf5 := HX3.out.froz 5; rw [show ([] : List ByteArray).length + ed.ptr.length = ed.ptr.length from Nat.zero_add _]; clear hown hown2 hg))
      obtain ⟨W4, hW4⟩ : ∃ W, w3.setCell ⟨B, 5, none⟩ (.slice a3 ed.ptr.length c3) = W := ⟨_, rfl⟩
      have HB3 : Hid (Cb w T3 W4 (es.take k) s k B (evC v1 v2 v3 (a1, ed.out.length, c1) (a2, ed.inn.length, c2) (a3, ed.ptr.length, c3))) := by rw [← hW4]; exact HX3.out.set 5 _
      have HP33 : Hid (OwnK kT (12 + 3 * k) T3 W4 (.slice a3 ed.ptr.length c3) ed.ptr) := by rw [← hW4]; exact own_set HO3.out HX3.out.tag (by omega) 5 _
      have HP31 : Hid (OwnK kPl (10 + 3 * k) T3 W4 (.slice a1 ed.out.length c1) ed.out) := by rw [← hW4]; exact own_set (HP21.out.goes HG3.out (by omega)) HX3.out.tag (by omega) 5 _
      have HP32 : Hid (OwnK kPd (11 + 3 * k) T3 W4 (.slice a2 ed.inn.length c2) ed.inn) := by rw [← hW4]; exact own_set (HP22.out.goes HG3.out (by omega)) HX3.out.tag (by omega) 5 _
      rw [hW4]
      clear hW4 g5 y5 yf5
      have z0 : W4.cell? ⟨B, 0, none⟩ = some (.int .u64 (v1 : Int)) := HB3.out.box.2.1 0 _ rfl
      have z1 : W4.cell? ⟨B, 1, none⟩ = some (.int .u64 (v2 : Int)) := HB3.out.box.2.1 1 _ rfl
      have z2 : W4.cell? ⟨B, 2, none⟩ = some (.int .u64 (v3 : Int)) := HB3.out.box.2.1 2 _ rfl
      have z3 : W4.cell? ⟨B, 3, none⟩ = some (.slice a1 ed.out.length c1) := HB3.out.box.2.1 3 _ rfl
      have z4 : W4.cell? ⟨B, 4, none⟩ = some (.slice a2 ed.inn.length c2) := HB3.out.box.2.1 4 _ rfl
      have z5 : W4.cell? ⟨B, 5, none⟩ = some (.slice a3 ed.ptr.length c3) := HB3.out.box.2.1 5 _ rfl
      have hBlt := HB3.out.box.1
      obtain ⟨vs, hv1, hv2, hv3⟩ := HB3.out.cs.own
      have HV : Hid (OwnK kE 1 T3 W4 (svV s) vs ∧ vs.length = (es.take k).length ∧ ∀ (j : Nat) v e, vs[j]? = some v → (es.take k)[j]? = some e → EdO T3 W4 j v e) := ⟨hv1, hv2, hv3⟩
      have HNE : Hid (EdO T3 W4 (es.take k).length (v1, v2, v3, (a1, ed.out.length, c1), (a2, ed.inn.length, c2), (a3, ed.ptr.length, c3)) ed) := by
        rw [HQ.out.2.2]
        exact ⟨HQ.out.2.1.1, HP31.out, HP32.out, HP33.out⟩
      have hvl : vs.length = k := by rw [hv2]; exact HQ.out.2.2
      clear hv1 hv2 hv3
      go_wp2_with (at_builtin; go_loud (refine wpList_appK kE _ (by rfl) (.tmp 28) (.tmp 30) 22 (by rfl) ez Tryd.underlying22 hez ez0 ez1 ez2 1 T3 (.slice s.1 s.2.1 s.2.2) vs (by rfl) (HV.out.1.below ((Below.refl _ _).alloc (Nat.le_refl _) _)) (some ⟨W4.heap.size, 0, none⟩) 1 1 [(v1, v2, v3, (a1, ed.out.length, c1), (a2, ed.inn.length, c2), (a3, ed.ptr.length, c3))] (by rfl) rfl (by simp) (isK_new kE W4 (v1, v2, v3, (a1, ed.out.length, c1), (a2, ed.inn.length, c2), (a3, ed.ptr.length, c3)) _) (by rw [hvl]; simp; omega) ?_; intro a4 c4 T4 w4 hown4 hg4; have HL : Hid (Cs w T4 w4 (es.take k ++ [ed]) (a4, vs.length + 1, c4)) := (HB3.out.cs.below ((Below.refl _ _).alloc (Nat.le_refl _) _)).snoc vs HV.out.2.1 (fun j v e hv he => (HV.out.2.2 j v e hv he).goes (Goes.below (t := fun _ => False) ((Below.refl _ _).alloc (Nat.le_refl _) _)) (fun s hs => hs.elim)) hg4 (v1, v2, v3, (a1, ed.out.length, c1), (a2, ed.inn.length, c2), (a3, ed.ptr.length, c3)) ed (HNE.out.goes (Goes.below (t := fun _ => False) ((Below.refl _ _).alloc (Nat.le_refl _) _)) (fun s hs => hs.elim)) (a4, vs.length + 1, c4) hown4; clear hown4 hg4))
      go_roundw
      case rel =>
        refine ⟨k + 1, T4, (a4, vs.length + 1, c4), by omega, by rw [hvl], by go_num, ?_⟩
        have e : es.take (k + 1) = es.take k ++ [ed] := by rw [List.take_add_one, HQ.out.1]; rfl
        rw [e]
        exact HL.out
      case measure => simp [intOf]; omega
    · obtain rfl : k = n := by omega
      have q1 : ¬ (k : Int) < (k : Int) := by omega
      go_wp2
      go_ret
      have := HK.out
      rw [List.take_of_length_le (by rw [HW.out.2.2]; exact Nat.le_refl _)] at this
      exact ⟨T, s.1, s.2.1, s.2.2, rfl, this⟩
end Mnf
end Go.Proofs.YtjbnnhephagdmaaDoor
namespace Go.Proofs.YtjbnnhephagdmaaDoor
namespace Mnf
open Go.RowKit CMath Byt Cod Crw Irw Laws
set_option linter.unusedVariables false
set_option linter.unusedSimpArgs false
set_option maxRecDepth 20000
/-- one cell of a list of things, written anew -/
theorem cells_set {α : Type} (K : Knd α) (l : List α) : ∀ (m j : Nat) (x : α) (u : Value), m < l.length → j < K.size → (∀ y, l[m]? = some y → K.cs x = (K.cs y).set j u) → K.cells (l.set m x) = (K.cells l).set (m * K.size + j) u := by
  induction l with
  | nil => intro m j x u hm; simp at hm
  | cons y l ih =>
    intro m j x u hm hj hx
    cases m with
    | zero =>
      have h := hx y rfl
      simp only [List.set_cons_zero, Knd.cells, h]
      rw [List.set_append_left _ _ (by rw [K.len]; omega)]
      congr 2
      omega
    | succ m =>
      have h := ih m j x u (by simpa using hm) hj (fun z hz => hx z (by simpa using hz))
      simp only [List.set_cons_succ, Knd.cells, h]
      have hle : (K.cs y).length ≤ (m + 1) * K.size + j := by rw [K.len, Nat.succ_mul]; omega
      rw [List.set_append_right _ _ hle]
      congr 2
      rw [K.len, Nat.succ_mul]
      omega
theorem cells_take {α : Type} (K : Knd α) (l : List α) (m : Nat) (hm : m ≤ l.length) : K.cells (l.take m) = (K.cells l).take (m * K.size) := by
  have h : K.cells l = K.cells (l.take m) ++ K.cells (l.drop m) := by rw [← K.cells_append, List.take_append_drop]
  have hl : (K.cells (l.take m)).length = m * K.size := by rw [K.cells_length, List.length_take, Nat.min_eq_left hm]
  rw [h, ← hl, List.take_left]
theorem ownK_set {α : Type} {K : Knd α} {t : Nat} {T : Nat → Nat} {w : World} {g n c : Nat} {l : List α} (h : OwnK K t T w (.slice (some ⟨g, 0, none⟩) n c) l) (hn : n = l.length) {m j : Nat} {x : α} {u : Value} (hm : m < l.length) (hj : j < K.size) (hx : ∀ y, l[m]? = some y → K.cs x = (K.cs y).set j u) : OwnK K t T (w.setCell ⟨g, m * K.size + j, none⟩ u) (.slice (some ⟨g, 0, none⟩) n c) (l.set m x) := by
  subst hn
  have h2 := h.1.stored (m * K.size + j) u
  refine ⟨?_, h.2⟩
  rw [List.length_set, cells_set K l m j x u hm hj hx]
  exact h2.1
theorem ownK_cut {α : Type} {K : Knd α} {t : Nat} {T : Nat → Nat} {w : World} {g n c : Nat} {l : List α} (h : OwnK K t T w (.slice (some ⟨g, 0, none⟩) n c) l) {m : Nat} (hm : m ≤ l.length) : OwnK K t T w (.slice (some ⟨g, 0, none⟩) m c) (l.take m) := by
  refine ⟨?_, fun b hb => h.2 b hb⟩
  obtain ⟨h1, h2⟩ := h.1
  have hlt : (l.take m).length = m := by rw [List.length_take, Nat.min_eq_left hm]
  rcases h2 with ⟨h2, _⟩ | ⟨g', cap, cur, hv, hb, hh, hc, hmx, hr, ht⟩
  · cases h2
  · cases hv
    refine ⟨by rw [K.cells_length], .inr ⟨g, c, cur, by rw [hlt], hb, hh, by rw [hlt]; omega, hmx, hr, ?_⟩⟩
    rw [hlt, cells_take K l m hm, ← ht, List.take_take]
    congr 1
    exact (Nat.min_eq_left (Nat.mul_le_mul_right _ hm)).symm
/-- the copies while they are brought to where they may be -/
structure Rs (w : World) (T : Nat → Nat) (wr : World) (es : List Ed) (s : Sv) (vs : List Ev) : Prop where
  old : Old w T wr
  own : OwnK kE 1 T wr (svV s) vs
  len : vs.length = es.length
  eds : ∀ (j : Nat) v e, vs[j]? = some v → es[j]? = some e → EdO T wr j v e
theorem Cs.rs {w wr : World} {T : Nat → Nat} {es : List Ed} {s : Sv} (h : Cs w T wr es s) : ∃ vs, Rs w T wr es s vs := by
  obtain ⟨vs, h1, h2, h3⟩ := h.own
  exact ⟨vs, h.old, h1, h2, h3⟩
/-- one edit is turned, the others stay -/
theorem Rs.turn {w wr w' : World} {T T' : Nat → Nat} {es : List Ed} {s : Sv} {vs : List Ev} {t i : Nat} {e' : Ed} {v : Ev} (h : Rs w T wr es s vs) (hg : Goes (· = t) T wr T' w') (hi : i < es.length) (ht : 10 + 3 * i ≤ t ∧ t < 13 + 3 * i) (hv : vs[i]? = some v) (he : EdO T' w' i v e') : Rs w T' w' (es.set i e') s vs := by
  refine ⟨h.old.goes hg (by omega), h.own.goes hg (by omega), by rw [List.length_set]; exact h.len, fun j u e hu hj => ?_⟩
  by_cases hij : i = j
  · subst hij
    rw [List.getElem?_set_self hi] at hj
    cases hj
    rw [hv] at hu
    cases hu
    exact he
  · rw [List.getElem?_set_ne hij] at hj
    exact (h.eds j u e hu hj).goes hg (fun s hs => by omega)
/-- a place's level is written -/
theorem Rs.out {w wr : World} {T : Nat → Nat} {es : List Ed} {s : Sv} {vs : List Ev} {i m g n c a b d : Nat} {si sp : Sv} {e : Ed} {y : Int} {p : Pl} (h : Rs w T wr es s vs) (hv : vs[i]? = some (a, b, d, (some ⟨g, 0, none⟩, n, c), si, sp)) (he : es[i]? = some e) (hp : e.out[m]? = some p) : Rs w T (wr.setCell ⟨g, m * 2, none⟩ (.int .i64 y)) (es.set i { e with out := e.out.set m (y, p.2) }) s vs := by
  obtain ⟨k1, k2, k3, k4⟩ := h.eds i _ e hv he
  have hm := (List.getElem?_eq_some_iff.1 hp).1
  have hn : n = e.out.length := (OwnK.sk k2).1
  have hT : T g = 10 + 3 * i := k2.2 g rfl
  have hg := Goes.setCell (t := (· = 10 + 3 * i)) (T := T) (w := wr) (p := g) (j := m * 2) (v := .int .i64 y) hT
  refine h.turn hg (List.getElem?_eq_some_iff.1 he).1 ⟨by omega, by omega⟩ hv ⟨k1, ?_, k3.goes hg (by omega), k4.goes hg (by omega)⟩
  exact ownK_set (K := kPl) (j := 0) (x := (y, p.2)) k2 hn hm (by decide) (fun q hq => by rw [hp] at hq; cases hq; rfl)
/-- a pointer's text is written -/
theorem Rs.ptr {w wr : World} {T : Nat → Nat} {es : List Ed} {s : Sv} {vs : List Ev} {i m g n c a b d : Nat} {so si : Sv} {e : Ed} {x : ByteArray} (h : Rs w T wr es s vs) (hv : vs[i]? = some (a, b, d, so, si, (some ⟨g, 0, none⟩, n, c))) (he : es[i]? = some e) (hm : m < e.ptr.length) : Rs w T (wr.setCell ⟨g, m, none⟩ (.string x)) (es.set i { e with ptr := e.ptr.set m x }) s vs := by
  obtain ⟨k1, k2, k3, k4⟩ := h.eds i _ e hv he
  have hn : n = e.ptr.length := (OwnK.sk k4).1
  have hT : T g = 12 + 3 * i := k4.2 g rfl
  have hg := Goes.setCell (t := (· = 12 + 3 * i)) (T := T) (w := wr) (p := g) (j := m) (v := .string x) hT
  refine h.turn hg (List.getElem?_eq_some_iff.1 he).1 ⟨by omega, by omega⟩ hv ⟨k1, k2.goes hg (by omega), k3.goes hg (by omega), ?_⟩
  have q := ownK_set (K := kT) (j := 0) (x := x) (u := .string x) k4 hn hm (by decide) (fun q hq => rfl)
  have e1 : m * kT.size + 0 = m := by show m * 1 + 0 = m; omega
  rw [e1] at q
  exact q
/-- a table's part is written: the j-th cell -/
theorem Rs.inn {w wr : World} {T : Nat → Nat} {es : List Ed} {s : Sv} {vs : List Ev} {i m j g n c a b d : Nat} {so sp : Sv} {e : Ed} {x y : Pd} {u : Value} (h : Rs w T wr es s vs) (hv : vs[i]? = some (a, b, d, so, (some ⟨g, 0, none⟩, n, c), sp)) (he : es[i]? = some e) (hy : e.inn[m]? = some y) (hj : j < 7) (hx : pdC x = (pdC y).set j u) : Rs w T (wr.setCell ⟨g, m * 7 + j, none⟩ u) (es.set i { e with inn := e.inn.set m x }) s vs := by
  obtain ⟨k1, k2, k3, k4⟩ := h.eds i _ e hv he
  have hm := (List.getElem?_eq_some_iff.1 hy).1
  have hn : n = e.inn.length := (OwnK.sk k3).1
  have hT : T g = 11 + 3 * i := k3.2 g rfl
  have hg := Goes.setCell (t := (· = 11 + 3 * i)) (T := T) (w := wr) (p := g) (j := m * 7 + j) (v := u) hT
  refine h.turn hg (List.getElem?_eq_some_iff.1 he).1 ⟨by omega, by omega⟩ hv ⟨k1, k2.goes hg (by omega), ?_, k4.goes hg (by omega)⟩
  exact ownK_set (K := kPd) (j := j) (x := x) k3 hn hm hj (fun q hq => by rw [hy] at hq; cases hq; exact hx)
end Mnf
end Go.Proofs.YtjbnnhephagdmaaDoor
