import Derived.Test.YtebfokjgeknciabGreatDoorProg
import Derived.Test.YtebfokjgeknciabGreatDoorJM
import Derived.Test.YtebfokjgeknciabGreatDoorYA
import Derived.WalkKit
import Derived.WalkSpells
import Derived.WalkLawsBesides
import Derived.Deep.RegionHeld3
import Derived.Deep.DrawnRows
namespace Go.Proofs.YtebfokjgeknciabGreatDoor
namespace BookI
open Go.RowKit Laws Irw
set_option linter.unusedVariables false
attribute [local go_sem ↓] Go.wp_at_zero Go.wp_at_succ

/-- The book's fields. -/
def Fld (w : World) (K : Nat) (f : Nat → Value) : Prop := K < w.heap.size ∧ ∀ j, j < 175 → w.cell? ⟨K, j, none⟩ = some (f j) ∧ w.frozen? ⟨K, j, none⟩ = false
theorem Fld.below {w w' : World} {K : Nat} {f : Nat → Value} (h : Fld w K f) (hb : Below w.heap.size w w') : Fld w' K f := by
  obtain ⟨hc, hf⟩ := bcell hb
  refine ⟨Nat.lt_of_lt_of_le h.1 hb.size, fun j hj => ?_⟩
  rw [hc _ _ h.1, hf _ _ h.1]
  exact h.2 j hj
/-- What the fields of the kinds that are not in use hold. -/
def f0 (j : Nat) : Value := if j < 2 then .bool false else if j < 4 then .int .i64 0 else if (j - 4) % 9 = 8 then .int .i64 0 else .slice none 0 0

/-- The lists that the book holds are as it told. -/
structure Held (w : World) (K : Nat) (f : Nat → Value) (o x : List (Item × Item)) : Prop where
  fld : Fld w K f
  rest : ∀ j, 4 ≤ j → j < 175 → ¬ (13 ≤ j ∧ j < 22) → f j = f0 j
  now : f 0 = .bool false
  bad : f 1 = .bool false
  out : Spine w (f 13) (o.map fun p => vI p.1)
  told : Spine w (f 14) (o.map fun p => vI p.2)
  waits : Spine w (f 15) (x.map fun p => vI p.1)
  note : Spine w (f 16) (x.map fun p => vI p.2)
  outs : Pairs w o
  waiting : Pairs w x
  lo : o.length ≤ 100000
  lx : x.length ≤ 100000

theorem Held.below {w w' : World} {K : Nat} {f : Nat → Value} {o x : List (Item × Item)} (h : Held w K f o x) (hb : Below w.heap.size w w') : Held w' K f o x :=
  ⟨h.fld.below hb, h.rest, h.now, h.bad, own_below h.out hb, own_below h.told hb, own_below h.waits hb, own_below h.note hb, h.outs.below hb, h.waiting.below hb, h.lo, h.lx⟩

theorem keep4 {K j1 j2 g1 g2 i : Nat} {a b c d : Value} {w W w' : World} (hb : Below W.heap.size W w')
    (h : W.cell? ⟨K, j1, none⟩ = some a ∧ W.cell? ⟨g1, i, none⟩ = some b ∧ W.cell? ⟨K, j2, none⟩ = some c ∧ W.cell? ⟨g2, i, none⟩ = some d ∧ K < W.heap.size ∧ g1 < W.heap.size ∧ g2 < W.heap.size ∧ Below w.heap.size w W) :
    w'.cell? ⟨K, j1, none⟩ = some a ∧ w'.cell? ⟨g1, i, none⟩ = some b ∧ w'.cell? ⟨K, j2, none⟩ = some c ∧ w'.cell? ⟨g2, i, none⟩ = some d ∧ K < w'.heap.size ∧ g1 < w'.heap.size ∧ g2 < w'.heap.size ∧ Below w.heap.size w w' := by
  obtain ⟨c0, c1, c2, c3, z0, z1, z2, hB⟩ := h
  obtain ⟨hc, hf⟩ := bcell hb
  have hs := hb.size
  exact ⟨(hc _ _ z0).trans c0, (hc _ _ z1).trans c1, (hc _ _ z0).trans c2, (hc _ _ z2).trans c3, by omega, by omega, by omega, hB.trans (hb.mono hB.size)⟩
theorem start4 {K j1 j2 g1 g2 i : Nat} {a b c d : Value} {w W : World}
    (h : W.cell? ⟨K, j1, none⟩ = some a ∧ W.cell? ⟨g1, i, none⟩ = some b ∧ W.cell? ⟨K, j2, none⟩ = some c ∧ W.cell? ⟨g2, i, none⟩ = some d ∧ K < W.heap.size ∧ g1 < W.heap.size ∧ g2 < W.heap.size ∧ Below w.heap.size w W) :
    W.drew.cell? ⟨K, j1, none⟩ = some a ∧ W.drew.cell? ⟨g1, i, none⟩ = some b ∧ W.drew.cell? ⟨K, j2, none⟩ = some c ∧ W.drew.cell? ⟨g2, i, none⟩ = some d ∧ K < W.drew.heap.size ∧ g1 < W.drew.heap.size ∧ g2 < W.drew.heap.size ∧ Below w.heap.size w W.drew := by
  obtain ⟨c0, c1, c2, c3, z0, z1, z2, hB⟩ := h
  exact ⟨c0, c1, c2, c3, z0, z1, z2, hB.drew⟩
theorem last4 {K j1 j2 g1 g2 i : Nat} {a b c d : Value} {w W : World}
    (h : W.cell? ⟨K, j1, none⟩ = some a ∧ W.cell? ⟨g1, i, none⟩ = some b ∧ W.cell? ⟨K, j2, none⟩ = some c ∧ W.cell? ⟨g2, i, none⟩ = some d ∧ K < W.heap.size ∧ g1 < W.heap.size ∧ g2 < W.heap.size ∧ Below w.heap.size w W) : Below w.heap.size w W := h.2.2.2.2.2.2.2

/-- What one look at pair i reads. -/
theorem look {w wr : World} {K j1 j2 : Nat} {f : Nat → Value} {l : List (Item × Item)} (hf : Fld wr K f) (h1 : Spine wr (f j1) (l.map fun p => vI p.1)) (h2 : Spine wr (f j2) (l.map fun p => vI p.2)) (hb : Below w.heap.size w wr) (hj1 : j1 < 175) (hj2 : j2 < 175) (i : Nat) (p : Item × Item) (hp : l[i]? = some p) :
    ∃ g1 c1 g2 c2, f j1 = .slice (some ⟨g1, 0, none⟩) l.length c1 ∧ f j2 = .slice (some ⟨g2, 0, none⟩) l.length c2 ∧
      (wr.cell? ⟨K, j1, none⟩ = some (.slice (some ⟨g1, 0, none⟩) l.length c1) ∧ wr.cell? ⟨g1, i, none⟩ = some (vI p.1) ∧ wr.cell? ⟨K, j2, none⟩ = some (.slice (some ⟨g2, 0, none⟩) l.length c2) ∧ wr.cell? ⟨g2, i, none⟩ = some (vI p.2) ∧ K < wr.heap.size ∧ g1 < wr.heap.size ∧ g2 < wr.heap.size ∧ Below w.heap.size w wr) := by
  have hne : l ≠ [] := by intro e; rw [e] at hp; simp at hp
  obtain ⟨g1, c1, e1, z1, r1⟩ := h1.shape (by simpa using hne)
  obtain ⟨g2, c2, e2, z2, r2⟩ := h2.shape (by simpa using hne)
  rw [List.length_map] at e1 e2
  refine ⟨g1, c1, g2, c2, e1, e2, ?_, r1 i _ (by rw [List.getElem?_map, hp]; rfl), ?_, r2 i _ (by rw [List.getElem?_map, hp]; rfl), hf.1, z1, z2, hb⟩
  · rw [← e1]; exact (hf.2 j1 hj1).1
  · rw [← e2]; exact (hf.2 j2 hj2).1

set_option maxRecDepth 100000 in
set_option maxHeartbeats 4000000 in
theorem holdInts_any (K : Nat) (f : Nat → Value) (o x : List (Item × Item)) (w : World) (h : Held w K f o x) :
    Calls Tryz.prog 35 #[.pointer (some ⟨K, 0, none⟩)] w fun e w' => e = .returned (.bool true) ∧ Below w.heap.size w w' := by
  have HH : Hid (Held w K f o x) := h
  have lo := h.lo
  have lx := h.lx
  obtain ⟨ao, co, eo⟩ := h.out.len
  obtain ⟨ax, cx, ex⟩ := h.waits.len
  rw [List.length_map] at eo ex
  have HO : Hid (f 13 = .slice ao o.length co) := eo
  have HX : Hid (f 15 = .slice ax x.length cx) := ex
  clear h eo ex
  go_enter Tryz.func35, Tryz.ntmps35
  go_wp2
  go_loopw [3] (fun i wr => ∃ k : Nat, k ≤ o.length ∧ i = .int .i64 k ∧ Below w.heap.size w wr) (fun i _ => o.length - (intOf i).toNat)
  case atStart => exact ⟨0, Nat.zero_le _, rfl, Below.refl _ _⟩
  case round =>
    rename World => wo
    obtain ⟨k, hk, rfl, hbe⟩ := hrel
    have hH := HH.out.below hbe
    have c40 : wo.cell? ⟨K, 13, none⟩ = some (.slice ao o.length co) := by rw [← HO.out]; exact (hH.fld.2 13 (by omega)).1
    have HBE : Hid (Below w.heap.size w wo) := hbe
    by_cases hlt : k < o.length
    · obtain ⟨p, hp⟩ : ∃ p, o[k]? = some p := ⟨_, List.getElem?_eq_getElem hlt⟩
      obtain ⟨g1, c1, g2, c2, e1, e2, hL⟩ := look hH.fld hH.out hH.told hbe (by omega) (by omega) k p hp
      obtain ⟨i1, i2, i3, i4, i5, i6⟩ := hH.outs p (List.mem_of_getElem? hp)
      obtain ⟨ad1, cc1, ev1, ea1, _⟩ := i5.form
      obtain ⟨ad2, cc2, ev2, ea2, _⟩ := i6.form
      rw [ev1, ev2] at hL
      have HE1 : Hid (p.1.2.2 ≠ [] → ad1 = some ⟨p.1.1, 0, none⟩) := ea1
      have HE2 : Hid (p.1.2.2 ≠ [] → ad2 = some ⟨p.2.1, 0, none⟩) := by rw [i3]; exact ea2
      clear ev1 ev2 ea1 ea2 i5 i6
      rw [HO.out] at e1
      cases e1
      have R1 : Hid (IRow wo p.1.1 0 p.1.2.2) := i1
      have R2 : Hid (IRow wo p.2.1 0 p.1.2.2) := by rw [i3]; exact i2
      rw [← i3] at hL
      have HL : Hid (_ ∧ _) := hL
      have q1 : (k : Int) < (o.length : Int) := by omega
      have q0 : (0 : Int) ≤ (k : Int) := by omega
      clear hH hbe hp e2 i1 i2 i3 hL
      go_wp2
      go_region_held3 (fun w' => w'.cell? ⟨K, 13, none⟩ = some (.slice (some ⟨g1, 0, none⟩) o.length co) ∧ w'.cell? ⟨g1, k, none⟩ = some (.slice ad1 p.1.2.2.length cc1) ∧ w'.cell? ⟨K, 14, none⟩ = some (.slice (some ⟨g2, 0, none⟩) o.length c2) ∧ w'.cell? ⟨g2, k, none⟩ = some (.slice ad2 p.1.2.2.length cc2) ∧ K < w'.heap.size ∧ g1 < w'.heap.size ∧ g2 < w'.heap.size ∧ Below w.heap.size w w') (first | exact keep4 (by assumption) (by assumption) | exact start4 HL.out)
        (first
          | (go_at_call 66; refine (sameK_any _ _ _ _ p.1.1 p.2.1 _ p.1.2.2 _ (R1.out.below ((Below.refl wo.heap.size wo).drew) R1.out.1) (R2.out.below ((Below.refl wo.heap.size wo).drew) R2.out.1) HE1.out HE2.out rfl i4).mono ?_; rintro e w' ⟨rfl, hb⟩))
      have HB3 : Hid (Below w.heap.size w w') := last4 (by assumption)
      go_wp2
      go_roundw
      case rel => exact ⟨k + 1, by omega, by go_num, HB3.out⟩
      case measure => simp [intOf]; omega
    · clear hH hbe
      go_wp2
      go_loopw [4] (fun i wr => ∃ k : Nat, k ≤ x.length ∧ i = .int .i64 k ∧ Below w.heap.size w wr) (fun i _ => x.length - (intOf i).toNat)
      case atStart => exact ⟨0, Nat.zero_le _, rfl, HBE.out⟩
      case round =>
        clear c40 hlt HBE
        rename World => wi
        obtain ⟨k, hk, rfl, hbe⟩ := hrel
        have hH := HH.out.below hbe
        have c42 : wi.cell? ⟨K, 15, none⟩ = some (.slice ax x.length cx) := by rw [← HX.out]; exact (hH.fld.2 15 (by omega)).1
        have HBE : Hid (Below w.heap.size w wi) := hbe
        by_cases hlt : k < x.length
        · obtain ⟨p, hp⟩ : ∃ p, x[k]? = some p := ⟨_, List.getElem?_eq_getElem hlt⟩
          obtain ⟨g1, c1, g2, c2, e1, e2, hL⟩ := look hH.fld hH.waits hH.note hbe (by omega) (by omega) k p hp
          obtain ⟨i1, i2, i3, i4, i5, i6⟩ := hH.waiting p (List.mem_of_getElem? hp)
          obtain ⟨ad1, cc1, ev1, ea1, _⟩ := i5.form
          obtain ⟨ad2, cc2, ev2, ea2, _⟩ := i6.form
          rw [ev1, ev2] at hL
          have HE1 : Hid (p.1.2.2 ≠ [] → ad1 = some ⟨p.1.1, 0, none⟩) := ea1
          have HE2 : Hid (p.1.2.2 ≠ [] → ad2 = some ⟨p.2.1, 0, none⟩) := by rw [i3]; exact ea2
          clear ev1 ev2 ea1 ea2 i5 i6
          rw [HX.out] at e1
          cases e1
          have R1 : Hid (IRow wi p.1.1 0 p.1.2.2) := i1
          have R2 : Hid (IRow wi p.2.1 0 p.1.2.2) := by rw [i3]; exact i2
          rw [← i3] at hL
          have HL : Hid (_ ∧ _) := hL
          have q1 : (k : Int) < (x.length : Int) := by omega
          have q0 : (0 : Int) ≤ (k : Int) := by omega
          clear hH hbe hp e2 i1 i2 i3 hL
          go_wp2
          go_region_held3 (fun w' => w'.cell? ⟨K, 15, none⟩ = some (.slice (some ⟨g1, 0, none⟩) x.length cx) ∧ w'.cell? ⟨g1, k, none⟩ = some (.slice ad1 p.1.2.2.length cc1) ∧ w'.cell? ⟨K, 16, none⟩ = some (.slice (some ⟨g2, 0, none⟩) x.length c2) ∧ w'.cell? ⟨g2, k, none⟩ = some (.slice ad2 p.1.2.2.length cc2) ∧ K < w'.heap.size ∧ g1 < w'.heap.size ∧ g2 < w'.heap.size ∧ Below w.heap.size w w') (first | exact keep4 (by assumption) (by assumption) | exact start4 HL.out)
            (first
              | (go_at_call 66; refine (sameK_any _ _ _ _ p.1.1 p.2.1 _ p.1.2.2 _ (R1.out.below ((Below.refl wi.heap.size wi).drew) R1.out.1) (R2.out.below ((Below.refl wi.heap.size wi).drew) R2.out.1) HE1.out HE2.out rfl i4).mono ?_; rintro e w' ⟨rfl, hb⟩))
          have HB3 : Hid (Below w.heap.size w w') := last4 (by assumption)
          go_wp2
          go_roundw
          case rel => exact ⟨k + 1, by omega, by go_num, HB3.out⟩
          case measure => simp [intOf]; omega
        · clear hH hbe
          go_wp2
          go_ret
          exact ⟨rfl, HBE.out⟩

set_option maxRecDepth 100000 in
set_option maxHeartbeats 400000 in
theorem holdBytes_nil (K : Nat) (w : World) (h : w.cell? ⟨K, 4, none⟩ = some (.slice none 0 0)) (h2 : w.cell? ⟨K, 6, none⟩ = some (.slice none 0 0)) :
    Calls Tryz.prog 34 #[.pointer (some ⟨K, 0, none⟩)] w fun e w' => e = .returned (.bool true) ∧ w' = w := by
  go_enter Tryz.func34, Tryz.ntmps34
  go_wp2
  refine wp_loop_rounds 1 ?_
  rw [rounds_succ]
  go_wp2
  refine wp_loop_rounds 1 ?_
  rw [rounds_succ]
  go_wp2
  go_ret
  exact ⟨rfl, rfl⟩

theorem nilat {w : World} {K : Nat} {f : Nat → Value} {o x : List (Item × Item)} (h : Held w K f o x) (j : Nat) (h4 : 4 ≤ j) (h175 : j < 175) (hn : ¬ (13 ≤ j ∧ j < 22)) (h8 : (j - 4) % 9 ≠ 8) : w.cell? ⟨K, j, none⟩ = some (.slice none 0 0) := by
  rw [(h.fld.2 j h175).1, h.rest j h4 h175 hn]
  unfold f0
  rw [if_neg (by omega), if_neg (by omega), if_neg h8]

set_option maxRecDepth 100000 in
set_option maxHeartbeats 4000000 in
theorem hold_any (K : Nat) (f : Nat → Value) (o x : List (Item × Item)) (w : World) (h : Held w K f o x) :
    Calls Tryz.prog 13 #[.pointer (some ⟨K, 0, none⟩)] w fun e w' => e = .returned (.bool true) ∧ Below w.heap.size w w' := by
  have HH : Hid (Held w K f o x) := h
  have b13 := nilat h 4 (by omega) (by omega) (by omega) (by decide)
  have b15 := nilat h 6 (by omega) (by omega) (by omega) (by decide)
  have a1 : w.cell? ⟨K, 1, none⟩ = some (.bool false) := by rw [(h.fld.2 1 (by omega)).1, h.bad]
  clear h
  go_enter Tryz.func13, Tryz.ntmps13
  go_wp2_with (first | (go_at_call 35; refine (holdInts_any K f o x _ HH.out).mono ?_; rintro e w1 ⟨rfl, hb1⟩; have h1 := HH.out.below hb1; have HB1 : Hid (Below w.heap.size w w1) := hb1;  have b22 := nilat h1 22 (by omega) (by omega) (by omega) (by decide); have b24 := nilat h1 24 (by omega) (by omega) (by omega) (by decide); have b31 := nilat h1 31 (by omega) (by omega) (by omega) (by decide); have b33 := nilat h1 33 (by omega) (by omega) (by omega) (by decide); have b40 := nilat h1 40 (by omega) (by omega) (by omega) (by decide); have b42 := nilat h1 42 (by omega) (by omega) (by omega) (by decide); have b49 := nilat h1 49 (by omega) (by omega) (by omega) (by decide); have b51 := nilat h1 51 (by omega) (by omega) (by omega) (by decide); have b58 := nilat h1 58 (by omega) (by omega) (by omega) (by decide); have b60 := nilat h1 60 (by omega) (by omega) (by omega) (by decide); have b67 := nilat h1 67 (by omega) (by omega) (by omega) (by decide); have b69 := nilat h1 69 (by omega) (by omega) (by omega) (by decide); have b76 := nilat h1 76 (by omega) (by omega) (by omega) (by decide); have b78 := nilat h1 78 (by omega) (by omega) (by omega) (by decide); have b85 := nilat h1 85 (by omega) (by omega) (by omega) (by decide); have b87 := nilat h1 87 (by omega) (by omega) (by omega) (by decide); have b94 := nilat h1 94 (by omega) (by omega) (by omega) (by decide); have b96 := nilat h1 96 (by omega) (by omega) (by omega) (by decide); have b103 := nilat h1 103 (by omega) (by omega) (by omega) (by decide); have b105 := nilat h1 105 (by omega) (by omega) (by omega) (by decide); have b112 := nilat h1 112 (by omega) (by omega) (by omega) (by decide); have b114 := nilat h1 114 (by omega) (by omega) (by omega) (by decide); have b121 := nilat h1 121 (by omega) (by omega) (by omega) (by decide); have b123 := nilat h1 123 (by omega) (by omega) (by omega) (by decide); have b130 := nilat h1 130 (by omega) (by omega) (by omega) (by decide); have b132 := nilat h1 132 (by omega) (by omega) (by omega) (by decide); have b139 := nilat h1 139 (by omega) (by omega) (by omega) (by decide); have b141 := nilat h1 141 (by omega) (by omega) (by omega) (by decide); have b148 := nilat h1 148 (by omega) (by omega) (by omega) (by decide); have b150 := nilat h1 150 (by omega) (by omega) (by omega) (by decide); have b157 := nilat h1 157 (by omega) (by omega) (by omega) (by decide); have b159 := nilat h1 159 (by omega) (by omega) (by omega) (by decide); have b166 := nilat h1 166 (by omega) (by omega) (by omega) (by decide); have b168 := nilat h1 168 (by omega) (by omega) (by omega) (by decide); clear h1 hb1 a1) | (go_at_call 34; refine (holdBytes_nil K _ b13 b15).mono ?_; rintro e w' ⟨rfl, hw⟩; have hw2 := hw.symm; clear hw; subst hw2) | (go_at_call 36; refine (BookB.holdNums_nil K _ b22 b24).mono ?_; rintro e w' ⟨rfl, hw⟩; have hw2 := hw.symm; clear hw; subst hw2) | (go_at_call 37; refine (BookB.holdTexts_nil K _ b31 b33).mono ?_; rintro e w' ⟨rfl, hw⟩; have hw2 := hw.symm; clear hw; subst hw2) | (go_at_call 38; refine (BookB.holdEntries_nil K _ b40 b42).mono ?_; rintro e w' ⟨rfl, hw⟩; have hw2 := hw.symm; clear hw; subst hw2) | (go_at_call 39; refine (BookB.holdPairs_nil K _ b49 b51).mono ?_; rintro e w' ⟨rfl, hw⟩; have hw2 := hw.symm; clear hw; subst hw2) | (go_at_call 40; refine (BookB.holdWrites_nil K _ b58 b60).mono ?_; rintro e w' ⟨rfl, hw⟩; have hw2 := hw.symm; clear hw; subst hw2) | (go_at_call 41; refine (BookB.holdTables_nil K _ b67 b69).mono ?_; rintro e w' ⟨rfl, hw⟩; have hw2 := hw.symm; clear hw; subst hw2) | (go_at_call 42; refine (BookB.holdPlaces_nil K _ b76 b78).mono ?_; rintro e w' ⟨rfl, hw⟩; have hw2 := hw.symm; clear hw; subst hw2) | (go_at_call 43; refine (BookB.holdPlaceds_nil K _ b85 b87).mono ?_; rintro e w' ⟨rfl, hw⟩; have hw2 := hw.symm; clear hw; subst hw2) | (go_at_call 44; refine (BookB.holdFaults_nil K _ b94 b96).mono ?_; rintro e w' ⟨rfl, hw⟩; have hw2 := hw.symm; clear hw; subst hw2) | (go_at_call 45; refine (BookB.holdChunks_nil K _ b103 b105).mono ?_; rintro e w' ⟨rfl, hw⟩; have hw2 := hw.symm; clear hw; subst hw2) | (go_at_call 46; refine (BookB.holdGroups_nil K _ b112 b114).mono ?_; rintro e w' ⟨rfl, hw⟩; have hw2 := hw.symm; clear hw; subst hw2) | (go_at_call 47; refine (BookB.holdRuns_nil K _ b121 b123).mono ?_; rintro e w' ⟨rfl, hw⟩; have hw2 := hw.symm; clear hw; subst hw2) | (go_at_call 48; refine (BookB.holdLevels_nil K _ b130 b132).mono ?_; rintro e w' ⟨rfl, hw⟩; have hw2 := hw.symm; clear hw; subst hw2) | (go_at_call 49; refine (BookB.holdFiles_nil K _ b139 b141).mono ?_; rintro e w' ⟨rfl, hw⟩; have hw2 := hw.symm; clear hw; subst hw2) | (go_at_call 50; refine (BookB.holdJobs_nil K _ b148 b150).mono ?_; rintro e w' ⟨rfl, hw⟩; have hw2 := hw.symm; clear hw; subst hw2) | (go_at_call 51; refine (BookB.holdEdits_nil K _ b157 b159).mono ?_; rintro e w' ⟨rfl, hw⟩; have hw2 := hw.symm; clear hw; subst hw2) | (go_at_call 52; refine (BookB.holdSteps_nil K _ b166 b168).mono ?_; rintro e w' ⟨rfl, hw⟩; have hw2 := hw.symm; clear hw; subst hw2))
  go_ret
  exact ⟨rfl, HB1.out⟩

end BookI
end Go.Proofs.YtebfokjgeknciabGreatDoor
