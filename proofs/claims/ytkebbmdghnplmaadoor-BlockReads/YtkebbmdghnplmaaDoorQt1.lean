import Derived.Test.YtkebbmdghnplmaaDoorQc6
import Derived.Test.YtkebbmdghnplmaaDoorQb1
namespace Go.Proofs.YtkebbmdghnplmaaDoor
namespace Qt
open Go.RowKit CMath Byt Laws Irw Crw Cod
set_option linter.unusedVariables false
set_option maxRecDepth 100000
set_option linter.unusedSimpArgs false
abbrev Sv := Option Addr × Nat × Nat
/-- lists of bytes -/
def kD : Knd Sv := ⟨22, 1, 24, .slice none 0 0, fun x => [.slice x.1 x.2.1 x.2.2], fun _ => rfl, fun x u hu => by simp at hu; subst hu; rfl, by omega, rfl, by omega⟩
/-- blocks that were opened, with the entries that the document found -/
def kSh : Knd (Nat × Sv) := ⟨48, 2, 32, .agg #[.pointer none, .slice none 0 0], fun x => [.pointer (some ⟨x.1, 3, none⟩), .slice x.2.1 x.2.2.1 x.2.2.2], fun _ => rfl, fun x u hu => by simp at hu; rcases hu with rfl | rfl <;> rfl, by omega, rfl, by omega⟩
theorem infoSh : (Tryd.prog.info? 48).map (fun i => (i.zero, i.size, i.bytes)) = some (some kSh.zero, 2, 32) := by kernel_rfl
def IsD (w : World) (a : Option Addr) (rs : List (List Nat)) : Prop :=
  ∃ vs : List Sv, vs.length = rs.length ∧ IsK kD w a vs ∧ ∀ (i : Nat) v r, vs[i]? = some v → rs[i]? = some r → v.2.1 = r.length ∧ IsB w v.1 r ∧ (v.1 = none → v.2.2 = 0) ∧ r.length ≤ v.2.2 ∧ v.2.2 ≤ 9223372036854775807
theorem IsD.below {w w' : World} {a : Option Addr} {rs : List (List Nat)} (h : IsD w a rs) (hb : Below w.heap.size w w') : IsD w' a rs := by
  obtain ⟨vs, h1, h2, h3⟩ := h
  refine ⟨vs, h1, h2.below hb, fun i v r hv hw => ?_⟩
  obtain ⟨a1, a2, a3⟩ := h3 i v r hv hw
  exact ⟨a1, a2.below hb, a3⟩
theorem IsD.at_ {w : World} {a : Option Addr} {rs : List (List Nat)} (h : IsD w a rs) {k : Nat} (hk : k < rs.length) : ∃ b off a1 c1 r, a = some ⟨b, off, none⟩ ∧ rs[k]? = some r ∧ b < w.heap.size ∧ w.cell? ⟨b, off + k, none⟩ = some (.slice a1 r.length c1) ∧ IsB w a1 r ∧ (a1 = none → c1 = 0) ∧ r.length ≤ c1 ∧ c1 ≤ 9223372036854775807 := by
  obtain ⟨vs, h1, h2, h3⟩ := h
  obtain ⟨b, off, e, hr⟩ := h2.at_ (by omega)
  have hv : vs[k]? = some (vs[k]'(by omega)) := List.getElem?_eq_getElem (by omega)
  have hw : rs[k]? = some rs[k] := List.getElem?_eq_getElem hk
  obtain ⟨a1, a2, a3, a4, a5⟩ := h3 k _ _ hv hw
  have hc := hr.2 k _ hv 0 _ rfl
  have he : off + k * kD.size + 0 = off + k := by show off + k * 1 + 0 = _; omega
  rw [he, a1] at hc
  exact ⟨b, off, _, _, _, e, hw, hr.1, hc, a2, a3, a4, a5⟩
/-- a count as it lies -/
def Ct (C : Nat) (w : World) (x : Int) : Prop := C < w.heap.size ∧ w.cell? ⟨C, 0, none⟩ = some (.int .i64 x) ∧ w.frozen? ⟨C, 0, none⟩ = false ∧ x ≤ 131072
theorem Ct.set {C : Nat} {w : World} {x : Int} (h : Ct C w x) (y : Int) (hy : y ≤ 131072) : Ct C (w.setCell ⟨C, 0, none⟩ (.int .i64 y)) y := by
  obtain ⟨h1, h2, h3, h4⟩ := h
  exact ⟨by simpa using h1, World.cell?_setCell_same _ _ _ h2, by rw [World.frozen?_setCell]; exact h3, hy⟩
theorem many_any (w : World) :
    Calls Tryd.prog 10 #[.int .i64 131072] w fun r w' => r = .returned (.pointer (some ⟨w.heap.size, 0, none⟩)) ∧ Ct w.heap.size w' 131072 ∧ Below w.heap.size w w' := by
  go_enter Tryd.func10, Tryd.ntmps10
  go_wp2
  go_ret
  exact ⟨rfl, ⟨by simp, by rw [World.cell?_alloc_at _ _ _ _ rfl]; rfl, World.frozen?_alloc_at _ _ _ _ rfl, by omega⟩, (Below.refl _ _).alloc (Nat.le_refl _) _⟩
theorem ok_x (C : Nat) (w : World) (x : Int) (b : Bool) (h2 : w.cell? ⟨C, 0, none⟩ = some (.int .i64 x)) (hb : decide (0 ≤ x) = b) :
    Calls Tryd.prog 12 #[.pointer (some ⟨C, 0, none⟩)] w fun r w' => r = .returned (.bool b) ∧ w' = w := by
  go_enter Tryd.func12, Tryd.ntmps12
  go_wp2
  go_ret
  refine ⟨?_, rfl⟩
  rw [← hb]
  rfl
theorem add_c (C : Nat) (w0 w : World) (x : Int) (n : Nat) (y : Int) (hy : y = n) (hn : n ≤ 9223372036854775807) (h : Ct C w x) (hC : w0.heap.size ≤ C) (hb : Below w0.heap.size w0 w) :
    Calls Tryd.prog 32 #[.pointer (some ⟨C, 0, none⟩), .int .i64 y] w fun r w' => (∃ v, r = .returned v) ∧ ∃ z, Ct C w' z ∧ (0 ≤ z → 0 ≤ x ∧ z = x - n) ∧ Below w0.heap.size w0 w' := by
  subst hy
  have HC : Hid (Ct C w x ∧ Below w0.heap.size w0 w) := ⟨h, hb⟩
  clear hb
  obtain ⟨h1, h2, h3, h4⟩ := h
  by_cases hx : 0 ≤ x
  · go_enter Tryd.func32, Tryd.ntmps32
    go_wp2
    go_ret
    exact ⟨⟨_, rfl⟩, x - n, HC.out.1.set _ (by omega), fun _ => ⟨hx, rfl⟩, HC.out.2.setCell (p := ⟨C, 0, none⟩) hC _⟩
  · go_enter Tryd.func32, Tryd.ntmps32
    go_wp2
    go_ret
    exact ⟨⟨_, rfl⟩, x, HC.out.1, fun h => by omega, HC.out.2⟩
set_option maxHeartbeats 1000000 in
theorem add_min (C : Nat) (w0 w : World) (x : Int) (h : Ct C w x) (hx : 0 ≤ x) (hC : w0.heap.size ≤ C) (hb : Below w0.heap.size w0 w) :
    Calls Tryd.prog 32 #[.pointer (some ⟨C, 0, none⟩), .int .i64 (-9223372036854775808)] w fun r w' => (∃ v, r = .returned v) ∧ ∃ z, Ct C w' z ∧ z < 0 ∧ Below w0.heap.size w0 w' := by
  have HC : Hid (Ct C w x ∧ Below w0.heap.size w0 w) := ⟨h, hb⟩
  clear hb
  obtain ⟨h1, h2, h3, h4⟩ := h
  have e : IntKind.i64.wrap (x - -9223372036854775808) = x - 9223372036854775808 := by rw [IntKind.wrap_i64]; omega
  have e2 : IntKind.i64.wrap (x + 9223372036854775808) = x - 9223372036854775808 := by rw [IntKind.wrap_i64]; omega
  go_enter Tryd.func32, Tryd.ntmps32
  go_wp2
  go_ret
  exact ⟨⟨_, rfl⟩, x - 9223372036854775808, HC.out.1.set _ (by omega), by omega, HC.out.2.setCell (p := ⟨C, 0, none⟩) hC _⟩
def bulkD (r : List Nat) : Nat := 1 + r.length
theorem sum_take {α : Type} {f : α → Nat} {l : List α} {k : Nat} {x : α} (h : l[k]? = some x) : ((l.take (k + 1)).map f).sum = ((l.take k).map f).sum + f x := by
  rw [List.take_add_one, h]
  simp
set_option maxHeartbeats 1000000 in
theorem chunks_c (C : Nat) (w0 w : World) (x : Int) (a : Option Addr) (cap n : Nat) (l : List (List Nat)) (hn : l.length = n) (hmx : (n : Int) ≤ 9223372036854775807) (h : Ct C w x) (hC : w0.heap.size ≤ C) (hb : Below w0.heap.size w0 w) (hw : IsD w0 a l) :
    Calls Tryd.prog 11 #[.pointer (some ⟨C, 0, none⟩), .slice a n cap] w fun r w' => (∃ v, r = .returned v) ∧ ∃ z, Ct C w' z ∧ (0 ≤ z → 0 ≤ x ∧ z = x - (l.map bulkD).sum) ∧ Below w0.heap.size w0 w' := by
  have HC : Hid (Ct C w x ∧ Below w0.heap.size w0 w) := ⟨h, hb⟩
  have HW : Hid (IsD w0 a l) := hw
  have HN : Hid (l.length = n) := hn
  clear h hw hn hb
  go_enter Tryd.func11, Tryd.ntmps11
  go_wp2
  go_loopw [4] (fun i wr => ∃ (k : Nat) (z : Int), k ≤ n ∧ i = .int .i64 (k : Int) ∧ Hid (Ct C wr z ∧ (0 ≤ z → 0 ≤ x ∧ z = x - ((l.take k).map bulkD).sum) ∧ Below w0.heap.size w0 wr)) (fun i _ => n - (intOf i).toNat)
  case atStart => exact ⟨0, x, Nat.zero_le _, rfl, HC.out.1, fun h => ⟨h, by simp⟩, HC.out.2⟩
  case round =>
    obtain ⟨k, z, hk, rfl, HK⟩ := hrel
    rename World => wr
    by_cases hlt : k < n
    · have q1 : (k : Int) < (n : Int) := by omega
      have x2 := HK.out.1.2.1
      by_cases hx0 : 0 ≤ z
      · have hkl : k < l.length := by rw [HN.out]; exact hlt
        obtain ⟨b, off, a1, c1, r1, rfl, hx, hbl, c0, hi1, hn1, hl1, hm1⟩ := (HW.out.below HK.out.2.2).at_ hkl
        have HBK : Hid (((l.take (k + 1)).map bulkD).sum = ((l.take k).map bulkD).sum + bulkD r1) := sum_take hx
        obtain ⟨L, hL⟩ : ∃ L, r1.length = L := ⟨_, rfl⟩
        have HL : Hid (bulkD r1 = 1 + L) := by show 1 + r1.length = _; rw [hL]
        rw [hL] at c0 hl1
        have hLm : L ≤ 9223372036854775807 := by omega
        clear hx hkl hi1 hn1 hm1 hl1 hL
        by_cases hmm : L = 9223372036854775807
        · have e : wrap64 (1 + (L : Int)) = -9223372036854775808 := by unfold wrap64; omega
          have e2 : IntKind.i64.wrap (1 + (L : Int)) = -9223372036854775808 := by rw [IntKind.wrap_i64]; omega
          have hm9 : 9223372036854775807 ≤ L := by omega
          clear hmm
          have HAM : Hid (∀ y, y = (-9223372036854775808 : Int) → Calls Tryd.prog 32 #[.pointer (some ⟨C, 0, none⟩), .int .i64 y] wr fun r w' => (∃ v, r = .returned v) ∧ ∃ z, Ct C w' z ∧ z < 0 ∧ Below w0.heap.size w0 w') := fun y hy => by rw [hy]; exact add_min C w0 _ z HK.out.1 hx0 hC HK.out.2.2
          go_wp2_with (first | (go_at_call 12; refine (ok_x C _ z true x2 (decide_eq_true hx0)).mono ?_; rintro r w3 ⟨rfl, rfl⟩) | (go_at_call 32; refine (HAM.out _ (by first | exact e2 | exact e | (unfold wrap64; omega) | omega)).mono ?_; rintro r w2 ⟨⟨v2, rfl⟩, z2, hc2, hz2, hk2⟩; have HF : Hid (Ct C w2 z2 ∧ z2 < 0 ∧ Below w0.heap.size w0 w2) := ⟨hc2, hz2, hk2⟩; clear hc2 hz2 hk2))
          go_roundw
          case rel => exact ⟨k + 1, z2, by omega, by go_num, HF.out.1, fun h => absurd HF.out.2.1 (by omega), HF.out.2.2⟩
          case measure => simp [intOf]; omega
        · have hLm2 : (L : Int) < 9223372036854775807 := by omega
          go_wp2_with (first | (go_at_call 12; refine (ok_x C _ z true x2 (decide_eq_true hx0)).mono ?_; rintro r w3 ⟨rfl, rfl⟩) | (go_at_call 32; refine (add_c C w0 _ z (1 + L) _ (by omega) (by omega) HK.out.1 hC HK.out.2.2).mono ?_; rintro r w2 ⟨⟨v2, rfl⟩, z2, hc2, hz2, hk2⟩; have HF : Hid (Ct C w2 z2 ∧ (0 ≤ z2 → 0 ≤ z ∧ z2 = z - (1 + L : Nat)) ∧ Below w0.heap.size w0 w2) := ⟨hc2, hz2, hk2⟩; clear hc2 hz2 hk2))
          go_roundw
          case rel =>
            refine ⟨k + 1, z2, by omega, by go_num, HF.out.1, fun h => ?_, HF.out.2.2⟩
            have h1 := HF.out.2.1 h
            have h3 := HK.out.2.1 h1.1
            rw [HBK.out, HL.out]
            omega
          case measure => simp [intOf]; omega
      · go_wp2_with (go_at_call 12; refine (ok_x C _ z false x2 (decide_eq_false hx0)).mono ?_; rintro r w3 ⟨rfl, rfl⟩)
        go_end0
        exact ⟨⟨_, rfl⟩, z, HK.out.1, fun h => absurd h (by omega), HK.out.2.2⟩
    · obtain rfl : k = n := by omega
      go_wp2
      go_end0
      refine ⟨⟨_, rfl⟩, z, HK.out.1, fun h => ?_, HK.out.2.2⟩
      have := HK.out.2.1 h
      rw [List.take_of_length_le (by rw [HN.out]; exact Nat.le_refl _)] at this
      exact this
end Qt
end Go.Proofs.YtkebbmdghnplmaaDoor
