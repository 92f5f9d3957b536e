import Derived.Test.YtpefacgdkgediaaDoorSta
import Derived.Test.YtpefacgdkgediaaDoorRfr
namespace Go.Proofs.YtpefacgdkgediaaDoor
namespace Sta
open Go.RowKit CMath Byt Cod Laws Rom
set_option linter.unusedVariables false
set_option maxRecDepth 20000

/-- What stands between two calls of a law over two lent lists and two kept copies. -/
structure St2 (w W : World) (R g1 c1 n1 g2 c2 n2 : Nat) (a1 : Option Addr) (k1 : Nat) (a2 : Option Addr) (k2 : Nat) (v0 v1 : Value) (x1 x2 y1 y2 : List Nat) : Prop where
  bel : Below w.heap.size w W
  rm : Rm W R w.heap.size v0 v1 [(g1, n1, c1), (g2, n2, c2)]
  in1 : BRow W g1 0 x1
  in2 : BRow W g2 0 x2
  byte1 : ∀ x ∈ x1, x < 256
  byte2 : ∀ x ∈ x2, x < 256
  len1 : n1 = x1.length
  len2 : n2 = x2.length
  kept1 : New 5 w.heap.size W a1 k1 y1
  kept2 : New 5 w.heap.size W a2 k2 y2
  ne : g1 ≠ g2
  ap11 : (Value.slice a1 y1.length k1).ownBlock ≠ some g1
  ap12 : (Value.slice a1 y1.length k1).ownBlock ≠ some g2
  ap21 : (Value.slice a2 y2.length k2).ownBlock ≠ some g1
  ap22 : (Value.slice a2 y2.length k2).ownBlock ≠ some g2

section
variable {w W W' : World} {R g1 c1 n1 g2 c2 n2 k1 k2 : Nat} {a1 a2 : Option Addr} {v0 v1 : Value} {x1 x2 y1 y2 : List Nat}
theorem St2.below (h : St2 w W R g1 c1 n1 g2 c2 n2 a1 k1 a2 k2 v0 v1 x1 x2 y1 y2) (hb : Below W.heap.size W W') : St2 w W' R g1 c1 n1 g2 c2 n2 a1 k1 a2 k2 v0 v1 x1 x2 y1 y2 :=
  ⟨h.bel.trans (hb.mono h.bel.size), h.rm.below hb, h.in1.below hb h.in1.1, h.in2.below hb h.in2.1, h.byte1, h.byte2, h.len1, h.len2, h.kept1.below hb, h.kept2.below hb, h.ne, h.ap11, h.ap12, h.ap21, h.ap22⟩
theorem St2.isB1 (h : St2 w W R g1 c1 n1 g2 c2 n2 a1 k1 a2 k2 v0 v1 x1 x2 y1 y2) : IsB W (some ⟨g1, 0, none⟩) x1 := IsB.some h.in1 h.byte1
theorem St2.isB2 (h : St2 w W R g1 c1 n1 g2 c2 n2 a1 k1 a2 k2 v0 v1 x1 x2 y1 y2) : IsB W (some ⟨g2, 0, none⟩) x2 := IsB.some h.in2 h.byte2
/-- Another block is written, one that was not there when the state stood before. -/
theorem St2.out {Wp : World} (h : St2 w W R g1 c1 n1 g2 c2 n2 a1 k1 a2 k2 v0 v1 x1 x2 y1 y2) (hp : St2 w Wp R g1 c1 n1 g2 c2 n2 a1 k1 a2 k2 v0 v1 x1 x2 y1 y2) {g i : Nat} (hg : Wp.heap.size ≤ g) (u : Value) :
    St2 w (W.setCell ⟨g, i, none⟩ u) R g1 c1 n1 g2 c2 n2 a1 k1 a2 k2 v0 v1 x1 x2 y1 y2 := by
  have K := Keep.set W g i u
  have s := hp.bel.size
  have hR := hp.rm.lt
  have h1 := hp.in1.1
  have h2 := hp.in2.1
  refine ⟨h.bel.setCell (by show w.heap.size ≤ g; omega) _, h.rm.keep K (by simp; omega) (fun x hx => ?_) (fun x hx => ?_) (fun x hx => ?_), h.in1.keep (K.block g1 h.in1.1 (by simp; omega)) K.size, h.in2.keep (K.block g2 h.in2.1 (by simp; omega)) K.size, h.byte1, h.byte2, h.len1, h.len2,
    New.keep h.kept1 (fun x hx => ?_), New.keep h.kept2 (fun x hx => ?_), h.ne, h.ap11, h.ap12, h.ap21, h.ap22⟩
  · have := (hp.rm.o0.lt x hx).2; simp; omega
  · have := (hp.rm.o1.lt x hx).2; simp; omega
  · simp at hx
    rcases hx with rfl | rfl
    · simp; omega
    · simp; omega
  · have := (hp.kept1.row.lt x hx).2
    exact K.block x (h.kept1.row.lt x hx).2 (by simp; omega)
  · have := (hp.kept2.row.lt x hx).2
    exact K.block x (h.kept2.row.lt x hx).2 (by simp; omega)
theorem mix_byte_set {F : Nat → Nat → Nat} {l : List Nat} {k y : Nat} (h : ∀ x ∈ mix F l k, x < 256) (hy : l[k]? = some y) (hb : F k y < 256) : ∀ x ∈ mix F l (k + 1), x < 256 := by
  intro x hx
  obtain ⟨i, hi⟩ := List.getElem?_of_mem hx
  rw [mix_get] at hi
  by_cases he : i = k
  · subst he
    rw [hy] at hi
    simp at hi
    omega
  · refine h x (List.mem_of_getElem? (i := i) ?_)
    rw [mix_get]
    have e : (i < k + 1) ↔ (i < k) := by omega
    simp only [e] at hi
    exact hi
theorem St2.set2 {F : Nat → Nat → Nat} {k y : Nat} (h : St2 w W R g1 c1 n1 g2 c2 n2 a1 k1 a2 k2 v0 v1 x1 (mix F x2 k) y1 y2) (hy : x2[k]? = some y) (hb : F k y < 256) (z : Int) (hz : z = ((F k y : Nat) : Int)) :
    St2 w (W.setCell ⟨g2, k, none⟩ (.int .u8 z)) R g1 c1 n1 g2 c2 n2 a1 k1 a2 k2 v0 v1 x1 (mix F x2 (k + 1)) y1 y2 := by
  obtain ⟨hbg, hgR, _⟩ := h.rm.lent (g2, n2, c2) (by simp)
  have hlen := h.len2
  rw [mix_length] at hlen
  have hk : k < x2.length := (List.getElem?_eq_some_iff.1 hy).1
  have K := Keep.set W g2 k (.int .u8 z)
  refine ⟨h.bel.setCell hbg _, h.rm.set _ ⟨(g2, n2, c2), by simp, rfl⟩ (fun x hx hx2 => ?_), h.in1.keep (K.block g1 h.in1.1 (by simp; exact h.ne)) K.size, mix_set h.in2 hy z hz, h.byte1, mix_byte_set h.byte2 hy hb, h.len1, by rw [mix_length]; exact hlen,
    New.keep h.kept1 (fun x hx => K.block x (h.kept1.row.lt x hx).2 (by simp; rintro rfl; exact h.ap12 hx)), New.keep h.kept2 (fun x hx => K.block x (h.kept2.row.lt x hx).2 (by simp; rintro rfl; exact h.ap22 hx)), h.ne, h.ap11, h.ap12, h.ap21, h.ap22⟩
  simp at hx
  rcases hx with rfl | rfl
  · exact absurd hx2 h.ne
  · show k < n2; omega
theorem St2.set1 {F : Nat → Nat → Nat} {k y : Nat} (h : St2 w W R g1 c1 n1 g2 c2 n2 a1 k1 a2 k2 v0 v1 (mix F x1 k) x2 y1 y2) (hy : x1[k]? = some y) (hb : F k y < 256) (z : Int) (hz : z = ((F k y : Nat) : Int)) :
    St2 w (W.setCell ⟨g1, k, none⟩ (.int .u8 z)) R g1 c1 n1 g2 c2 n2 a1 k1 a2 k2 v0 v1 (mix F x1 (k + 1)) x2 y1 y2 := by
  obtain ⟨hbg, hgR, _⟩ := h.rm.lent (g1, n1, c1) (by simp)
  have hlen := h.len1
  rw [mix_length] at hlen
  have hk : k < x1.length := (List.getElem?_eq_some_iff.1 hy).1
  have K := Keep.set W g1 k (.int .u8 z)
  refine ⟨h.bel.setCell hbg _, h.rm.set _ ⟨(g1, n1, c1), by simp, rfl⟩ (fun x hx hx2 => ?_), mix_set h.in1 hy z hz, h.in2.keep (K.block g2 h.in2.1 (by simp; exact h.ne.symm)) K.size, mix_byte_set h.byte1 hy hb, h.byte2, by rw [mix_length]; exact hlen, h.len2,
    New.keep h.kept1 (fun x hx => K.block x (h.kept1.row.lt x hx).2 (by simp; rintro rfl; exact h.ap11 hx)), New.keep h.kept2 (fun x hx => K.block x (h.kept2.row.lt x hx).2 (by simp; rintro rfl; exact h.ap21 hx)), h.ne, h.ap11, h.ap12, h.ap21, h.ap22⟩
  simp at hx
  rcases hx with rfl | rfl
  · show k < n1; omega
  · exact absurd hx2 h.ne.symm
end
/-- Two lists of a new room. -/
theorem St2.first {w w2 w3 w4 : World} {a1 a2 : Option Addr} {k1 k2 g1 c1 g2 c2 : Nat} {v0 v1 u0 u1 : Value} {x1 x2 : List Nat} (hb : Below w.heap.size w w2) (h1 : New 5 w.heap.size w2 a1 k1 x1) (h2 : New 5 w.heap.size w2 a2 k2 x2)
    (hrow1 : BRow w3 g1 0 x1) (hg1 : (w2.alloc roomZ).heap.size ≤ g1) (hkeep1 : Keep (w2.heap.size :: ((Value.slice none 0 0).ownBlock.toList ++ (Value.slice none 0 0).ownBlock.toList)) (w2.alloc roomZ) w3)
    (hrm1 : Rm w3 w2.heap.size w.heap.size v0 v1 ([] ++ [(g1, x1.length, c1)])) (hv0 : ∀ x, v0.ownBlock = some x → (Value.slice none 0 0).ownBlock = some x ∨ (w2.alloc roomZ).heap.size ≤ x) (hv1 : ∀ x, v1.ownBlock = some x → (Value.slice none 0 0).ownBlock = some x ∨ (w2.alloc roomZ).heap.size ≤ x)
    (hrm : Rm w4 w2.heap.size w.heap.size u0 u1 ([] ++ [(g1, x1.length, c1)] ++ [(g2, x2.length, c2)])) (hrow2 : BRow w4 g2 0 x2) (hg2 : w3.heap.size ≤ g2) (hkeep2 : Keep (w2.heap.size :: (v0.ownBlock.toList ++ v1.ownBlock.toList)) w3 w4) :
    St2 w w4 w2.heap.size g1 c1 x1.length g2 c2 x2.length a1 k1 a2 k2 u0 u1 x1 x2 x1 x2 := by
  have s1 := hb.size
  simp at hg1 hv0 hv1
  have K1 : Keep [w2.heap.size] w2 w3 := (Keep.alloc _ w2 roomZ).trans (hkeep1.mono (fun x hx => by simpa [Value.ownBlock] using hx))
  have sz1 := K1.size
  have l0 : ∀ x, x < w2.heap.size → x ∉ w2.heap.size :: (v0.ownBlock.toList ++ v1.ownBlock.toList) := by
    intro x hx
    simp only [List.mem_cons, List.mem_append, Option.mem_toList]
    rintro (h | h | h)
    · omega
    · have := hv0 x h; simp [Value.ownBlock] at this; omega
    · have := hv1 x h; simp [Value.ownBlock] at this; omega
  have K : ∀ i, i < w2.heap.size → w4.heap[i]? = w2.heap[i]? := fun i hi => (hkeep2.block i (by omega) (l0 i hi)).trans (K1.block i hi (by simp; omega))
  have hl : (g1, x1.length, c1) ∈ [] ++ [(g1, x1.length, c1)] := by simp
  obtain ⟨_, q2, q3, q4, _⟩ := hrm1.lent _ hl
  have n1 : g1 ∉ w2.heap.size :: (v0.ownBlock.toList ++ v1.ownBlock.toList) := by
    simp only [List.mem_cons, List.mem_append, Option.mem_toList]
    rintro (h | h | h)
    · exact q2 h
    · exact q3 h
    · exact q4 h
  refine ⟨⟨hkeep2.os.trans (K1.os.trans hb.os), hkeep2.tape.trans (K1.tape.trans hb.tape), hkeep2.output.trans (K1.output.trans hb.output), Nat.le_trans s1 (Nat.le_trans sz1 hkeep2.size), fun i hi => (K i (by omega)).trans (hb.block i hi)⟩, hrm, hrow1.keep (hkeep2.block g1 hrow1.1 n1) hkeep2.size, hrow2, h1.byte, h2.byte, rfl, rfl,
    New.keep h1 (fun x hx => K x (h1.row.lt x hx).2), New.keep h2 (fun x hx => K x (h2.row.lt x hx).2), by have := hrow1.1; omega, fun e => ?_, fun e => ?_, fun e => ?_, fun e => ?_⟩
  · have := (h1.row.lt _ e).2; omega
  · have := (h1.row.lt _ e).2; omega
  · have := (h2.row.lt _ e).2; omega
  · have := (h2.row.lt _ e).2; omega

theorem BRow.set {w : World} {g i : Nat} {l : List Nat} (h : BRow w g 0 l) (hi : i < l.length) (v : Nat) (z : Int) (hz : z = (v : Int)) : BRow (w.setCell ⟨g, i, none⟩ (.int .u8 z)) g 0 (l.set i v) := by
  subst hz
  refine ⟨by simpa using h.1, fun j x hx => ?_⟩
  by_cases hj : j = i
  · subst hj
    rw [List.getElem?_set_self hi] at hx
    simp at hx
    subst hx
    have := h.2 j _ (List.getElem?_eq_getElem hi)
    rw [Nat.zero_add] at this ⊢
    exact World.cell?_setCell_same _ _ _ this
  · rw [List.getElem?_set_ne (Ne.symm hj)] at hx
    rw [World.cell?_setCell_other _ _ _ _ (fun e => by simp only [Addr.mk.injEq] at e; omega)]
    exact h.2 j x hx
theorem byte_set {l : List Nat} (h : ∀ x ∈ l, x < 256) (i v : Nat) (hv : v < 256) : ∀ x ∈ l.set i v, x < 256 := by
  intro x hx
  rcases List.mem_or_eq_of_mem_set hx with hx | rfl
  · exact h x hx
  · exact hv
theorem New.at {T base : Nat} {w : World} {a : Option Addr} {c : Nat} {l : List Nat} (h : New T base w a c l) (hl : 0 < l.length) : ∃ g, a = some ⟨g, 0, none⟩ ∧ base ≤ g ∧ BRow w g 0 l ∧ ∀ j, w.frozen? ⟨g, j, none⟩ = false := by
  rcases h.row.2 with ⟨_, h0⟩ | ⟨g, cap, cur, hv, hg, hh, _⟩
  · omega
  · cases hv
    exact ⟨g, rfl, hg, row_of_own h.row rfl, fun j => Lib.frozen_of_heap hh _⟩

end Sta
namespace Cod
open Go.RowKit CMath Byt
set_option linter.unusedVariables false
set_option maxRecDepth 20000
set_option maxHeartbeats 1000000 in
theorem frameOf_any (a b : Option Addr) (ca cb n m : Nat) (l : List Nat) (w : World) (ha : IsB w a l) (hb : IsB w b l) (ht : Tab w) (hca : l.length ≤ ca) (hca2 : ca ≤ 9223372036854775807) (hcb : l.length ≤ cb) (hcb2 : cb ≤ 9223372036854775807) (hn : n = l.length) (hm : m = l.length) :
    Calls Tryd.prog 15 #[.slice a n ca, .slice b m cb] w fun e w' => e = .returned (.bool true) ∧ Below w.heap.size w w' := by
  have c1 := unframe_any a ca n l w ha ht hca hca2 hn
  have c2 : ∀ w1, Below w.heap.size w w1 → _ := fun w1 hb1 => refUnframe_any b cb m l w1 (hb.below hb1) hcb hcb2 hm
  unfold unfV at c1 c2
  obtain ⟨s, k, f, hr⟩ : ∃ s k f, unframe l = (s, k, f) := ⟨_, _, _, rfl⟩
  have hsl : s.length ≤ 9223372036854775807 := by
    have h1 : s = (unframe l).1 := by rw [hr]
    have h2 : (unframe l).1.length ≤ l.length := by
      unfold unframe
      split
      · simp
      · split
        · simp
        · split
          · simp
          · split
            · simp
            · simp; omega
    rw [h1]; omega
  rw [hr] at c1 c2
  simp only [] at c1 c2
  have C1 : Hid (Calls Tryd.prog 22 #[.slice a n ca] w fun e w' => ∃ a' c', e = .returned (.tuple #[.slice a' s.length c', .int .i64 k, .int .i64 f]) ∧ New 5 w.heap.size w' a' c' s ∧ Below w.heap.size w w') := c1
  have C2 : Hid (∀ w1, Below w.heap.size w w1 → Calls Tryd.prog 43 #[.slice b m cb] w1 fun e w' => ∃ a' c', e = .returned (.tuple #[.slice a' s.length c', .int .i64 k, .int .i64 f]) ∧ New 5 w1.heap.size w' a' c' s ∧ Below w1.heap.size w1 w') := c2
  clear c1 c2 hca hca2 hn hm hcb hcb2 hr ha hb ht
  go_enter Tryd.func15, Tryd.ntmps15
  go_wp2_with fail
  refine C1.out.mono ?_
  rintro e w1 ⟨a1, c1, rfl, hn1, hb1⟩
  have H1 : Hid (New 5 w.heap.size w1 a1 c1 s) := hn1
  have HB1 : Hid (Below w.heap.size w w1) := hb1
  clear hn1 hb1
  go_wp2_with fail
  refine (C2.out w1 HB1.out).mono ?_
  rintro e w2 ⟨a2, c2, rfl, hn2, hb2⟩
  have H2 : Hid (New 5 w1.heap.size w2 a2 c2 s) := hn2
  have H12 : Hid (New 5 w.heap.size w2 a1 c1 s) := H1.out.below hb2
  have HB2 : Hid (Below w.heap.size w w2) := HB1.out.trans (hb2.mono HB1.out.size)
  clear hn2 hb2
  go_wp2_with fail
  refine (same_any a1 a2 c1 c2 _ _ s w2 H12.out.isB H2.out.isB hsl rfl rfl).mono ?_
  rintro e w3 ⟨rfl, d3, rfl⟩
  go_wp2_with fail
  go_ret
  exact ⟨by simp, below_drewN HB2.out _⟩
end Cod
end Go.Proofs.YtpefacgdkgediaaDoor
