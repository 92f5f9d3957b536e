import Derived.Test.YtaejjpbpnedblaaGreatUs5
namespace Go.Proofs.YtaejjpbpnedblaaGreat
namespace Us
open Go.RowKit Go.Sort
set_option linter.unusedVariables false
set_option linter.unusedSimpArgs false
set_option maxRecDepth 20000
def hV : Hint → Int
  | .unknown => 0
  | .increasing => 1
  | .decreasing => 2
def hN (s : Nat) : Hint := if s = 0 then .increasing else if s = 12 then .decreasing else .unknown
theorem med_lt {d : Array Int} {a b c s n : Nat} (ha : a < n) (hb : b < n) (hc : c < n) : (median ltInt d a b c s).1 < n := by
  rcases median_mem ltInt d a b c s with h | h | h <;> rw [h] <;> assumption
theorem med_le (d : Array Int) (a b c s : Nat) : (median ltInt d a b c s).2 ≤ s + 3 := median_count ltInt d a b c s
/-- the answer of choosePivot, the world behind it -/
def CpIs (w : World) (blk off : Nat) (d : Array Int) (a b : Nat) (e : Ending) (w' : World) : Prop :=
  e = .returned (.tuple #[.int .i64 ((choosePivot ltInt d a b).1 : Nat), .int .i64 (hV (choosePivot ltInt d a b).2)]) ∧ At w blk off d w'
theorem Sw.first {w : World} {blk off : Nat} {d : Array Int} (h : Row w blk off d) (t : TypeId) : Sw w blk off d w.heap.size 0 (w.alloc (Obj.cells #[.int .i64 0] t)) := by
  have e : (w.alloc (Obj.cells #[.int .i64 0] t)).heap[w.heap.size]? = some (Obj.cells #[.int .i64 0] t) := by
    show (w.heap.push (Obj.cells #[.int .i64 0] t))[w.heap.size]? = _
    exact Array.getElem?_push_size
  refine ⟨(At.start h).alloc _, ?_, ?_, Nat.le_refl _⟩
  · unfold World.cell?; rw [e]; rfl
  · unfold World.frozen?; rw [e]; rfl
set_option maxHeartbeats 2000000 in
theorem choose_any (blk off n cap a b : Nat) (d : Array Int) (w : World) (h : Row w blk off d) (hn : d.size = n) (hab : a + 12 < b) (hb : b ≤ n) :
    Calls Tryz.prog 129 #[.slice (some ⟨blk, off, none⟩) n cap, .int .i64 a, .int .i64 b] w fun e w' => CpIs w blk off d a b e w' := by
  have hsm := h.small
  rw [hn] at hsm
  have HSw : Hid (Sw w blk off d w.heap.size 0 (w.alloc (Obj.cells #[.int .i64 0] 3))) := Sw.first h _
  have H0 : Hid (Row w blk off d ∧ d.size = n) := ⟨h, hn⟩
  obtain ⟨l, hl⟩ : ∃ l : Nat, b = a + l := ⟨b - a, by omega⟩
  obtain ⟨q, hq⟩ : ∃ q : Nat, q = l / 4 := ⟨_, rfl⟩
  have q2 : (l : Int) / 4 = (q : Int) := by omega
  have hl12 : 12 < l := by omega
  have HB : Hid (b = a + l ∧ q = l / 4) := ⟨hl, hq⟩
  have hq4 : 4 * q ≤ l := by omega
  have hq3 : 3 ≤ q := by omega
  have hal : a + l ≤ n := by omega
  have q1 : (b : Int) - (a : Int) = (l : Int) := by omega
  have hbn : (b : Int) ≤ (n : Int) := by omega
  clear h hn hl hq hab hb
  go_enter Tryz.func129, Tryz.ntmps129
  go_upto_region 3 with (fail)
  obtain ⟨W0, hW0⟩ : ∃ W, w.alloc (Obj.cells #[.int .i64 0] 3) = W := ⟨_, rfl⟩
  obtain ⟨sb, hsb⟩ : ∃ b, w.heap.size = b := ⟨_, rfl⟩
  rw [hW0, hsb] at HSw
  rw [hW0, hsb]
  clear hW0 hsb
  (try rw [q1])
  clear q1
  go_upto_region 6 with (fail)
  obtain ⟨i, hi⟩ : ∃ i : Nat, i = a + q := ⟨_, rfl⟩
  obtain ⟨j, hj⟩ : ∃ j : Nat, j = a + q * 2 := ⟨_, rfl⟩
  obtain ⟨k, hk⟩ : ∃ k : Nat, k = a + q * 3 := ⟨_, rfl⟩
  rw [show (a : Int) + (q : Int) * 3 = (k : Int) by omega, show (a : Int) + (q : Int) * 2 = (j : Int) by omega, show (a : Int) + (q : Int) = (i : Int) by omega]
  have hi1 : 1 ≤ i ∧ i + 1 < n := by omega
  have hj1 : 1 ≤ j ∧ j + 1 < n := by omega
  have hk1 : 1 ≤ k ∧ k + 1 < n := by omega
  have rp0 : (rawPivot ltInt d a b = if l ≥ 50 then median ltInt d (medianAdjacent ltInt d i 0).1 (medianAdjacent ltInt d j (medianAdjacent ltInt d i 0).2).1 (medianAdjacent ltInt d k (medianAdjacent ltInt d j (medianAdjacent ltInt d i 0).2).2).1 (medianAdjacent ltInt d k (medianAdjacent ltInt d j (medianAdjacent ltInt d i 0).2).2).2 else median ltInt d i j k 0) := by
    obtain ⟨e1, e2⟩ := HB.out
    have e3 : b - a = l := by omega
    unfold rawPivot
    rw [e3, if_pos (show l ≥ 8 by omega), ← e2, show a + q * 1 = i by omega, ← hj, ← hk]
  have RP : Hid (rawPivot ltInt d a b = if l ≥ 50 then median ltInt d (medianAdjacent ltInt d i 0).1 (medianAdjacent ltInt d j (medianAdjacent ltInt d i 0).2).1 (medianAdjacent ltInt d k (medianAdjacent ltInt d j (medianAdjacent ltInt d i 0).2).2).1 (medianAdjacent ltInt d k (medianAdjacent ltInt d j (medianAdjacent ltInt d i 0).2).2).2 else median ltInt d i j k 0) := rp0
  clear hi hj hk q2 hq4 hq3 hal hbn HB rp0
  by_cases h50 : 50 ≤ l
  · have y5 : (50 : Int) ≤ (l : Int) := by omega
    have y8 : (8 : Int) ≤ (l : Int) := by omega
    have hrp := RP.out
    rw [if_pos h50] at hrp
    obtain ⟨i1, s1, e1⟩ : ∃ x y, medianAdjacent ltInt d i 0 = (x, y) := ⟨_, _, rfl⟩
    rw [e1] at hrp
    obtain ⟨j1, s2, e2⟩ : ∃ x y, medianAdjacent ltInt d j s1 = (x, y) := ⟨_, _, rfl⟩
    simp only [e2] at hrp
    obtain ⟨k1, s3, e3⟩ : ∃ x y, medianAdjacent ltInt d k s2 = (x, y) := ⟨_, _, rfl⟩
    simp only [e3] at hrp
    obtain ⟨p4, s4, e4⟩ : ∃ x y, median ltInt d i1 j1 k1 s3 = (x, y) := ⟨_, _, rfl⟩
    rw [e4] at hrp
    have g1 := med_lt (d := d) (s := 0) (show i - 1 < n by omega) (show i < n by omega) hi1.2
    have g2 := med_lt (d := d) (s := s1) (show j - 1 < n by omega) (show j < n by omega) hj1.2
    have g3 := med_lt (d := d) (s := s2) (show k - 1 < n by omega) (show k < n by omega) hk1.2
    have t1 := med_le d (i - 1) i (i + 1) 0
    have t2 := med_le d (j - 1) j (j + 1) s1
    have t3 := med_le d (k - 1) k (k + 1) s2
    have t4 := med_le d i1 j1 k1 s3
    rw [show median ltInt d (i - 1) i (i + 1) 0 = (i1, s1) from e1] at g1 t1
    rw [show median ltInt d (j - 1) j (j + 1) s1 = (j1, s2) from e2] at g2 t2
    rw [show median ltInt d (k - 1) k (k + 1) s2 = (k1, s3) from e3] at g3 t3
    rw [e4] at t4
    simp only at g1 g2 g3 t1 t2 t3 t4
    have ANS : Hid (∀ W', At w blk off d W' → ∀ x, hintOf s4 = x → CpIs w blk off d a b (.returned (.tuple #[.int .i64 (p4 : Nat), .int .i64 (hV x)])) W') := by
      rintro W' hw x rfl
      unfold CpIs
      rw [choosePivot_eq, hrp]
      exact ⟨rfl, hw⟩
    have C1 : Hid (∀ W, Sw w blk off d sb 0 W → Calls Tryz.prog 152 #[.slice (some ⟨blk, off, none⟩) n cap, .int .i64 i, .pointer (some ⟨sb, 0, none⟩)] W fun e w' => e = .returned (.int .i64 (i1 : Nat)) ∧ Sw w blk off d sb s1 w') := fun W hw => by
      have := medianAdj_any w blk off n cap i sb 0 d W H0.out.1 H0.out.2 hw hi1.1 hi1.2 (by omega)
      rwa [e1] at this
    have C2 : Hid (∀ W, Sw w blk off d sb s1 W → Calls Tryz.prog 152 #[.slice (some ⟨blk, off, none⟩) n cap, .int .i64 j, .pointer (some ⟨sb, 0, none⟩)] W fun e w' => e = .returned (.int .i64 (j1 : Nat)) ∧ Sw w blk off d sb s2 w') := fun W hw => by
      have := medianAdj_any w blk off n cap j sb s1 d W H0.out.1 H0.out.2 hw hj1.1 hj1.2 (by omega)
      rwa [e2] at this
    have C3 : Hid (∀ W, Sw w blk off d sb s2 W → Calls Tryz.prog 152 #[.slice (some ⟨blk, off, none⟩) n cap, .int .i64 k, .pointer (some ⟨sb, 0, none⟩)] W fun e w' => e = .returned (.int .i64 (k1 : Nat)) ∧ Sw w blk off d sb s3 w') := fun W hw => by
      have := medianAdj_any w blk off n cap k sb s2 d W H0.out.1 H0.out.2 hw hk1.1 hk1.2 (by omega)
      rwa [e3] at this
    have C4 : Hid (∀ W, Sw w blk off d sb s3 W → Calls Tryz.prog 153 #[.slice (some ⟨blk, off, none⟩) n cap, .int .i64 i1, .int .i64 j1, .int .i64 k1, .pointer (some ⟨sb, 0, none⟩)] W fun e w' => e = .returned (.int .i64 (p4 : Nat)) ∧ Sw w blk off d sb s4 w') := fun W hw => by
      have := median_any w blk off n cap i1 j1 k1 sb s3 d W H0.out.1 H0.out.2 hw g1 g2 g3 (by omega)
      rwa [e4] at this
    clear hrp e1 e2 e3 e4 g1 g2 g3 t1 t2 t3 RP
    go_upto_region 9 with (go_at_call 152; go_loud (refine (C1.out _ HSw.out).mono ?_; rintro e W1 ⟨rfl, hs1⟩; have HS1 : Hid (Sw w blk off d sb s1 W1) := hs1; clear hs1))
    go_upto_region 10 with (go_at_call 152; go_loud (refine (C2.out _ HS1.out).mono ?_; rintro e W2 ⟨rfl, hs2⟩; have HS2 : Hid (Sw w blk off d sb s2 W2) := hs2; clear hs2))
    go_upto_region 11 with (go_at_call 152; go_loud (refine (C3.out _ HS2.out).mono ?_; rintro e W3 ⟨rfl, hs3⟩; have HS3 : Hid (Sw w blk off d sb s3 W3) := hs3; clear hs3))
    go_upto_region 12 with (go_at_call 153; go_loud (refine (C4.out _ HS3.out).mono ?_; rintro e W4 ⟨rfl, hs4⟩; have HS4 : Hid (Sw w blk off d sb s4 W4) := hs4; clear hs4))
    clear C1 C2 C3 C4 HS1 HS2 HS3 HSw y5 y8 t4 h50
    have c9 := HS4.out.cell
    have AT : Hid (At w blk off d W4) := HS4.out.at_
    clear HS4
    by_cases z0 : s4 = 0
    · subst z0
      have c9 : W4.cell? ⟨sb, 0, none⟩ = some (.int .i64 0) := c9
      go_wp2
      go_ret2
      exact ANS.out _ AT.out .increasing rfl
    · have y0 : ¬ (s4 : Int) = 0 := by omega
      by_cases z1 : s4 = 12
      · subst z1
        have c9 : W4.cell? ⟨sb, 0, none⟩ = some (.int .i64 12) := c9
        clear z0 y0
        go_wp2
        go_ret2
        exact ANS.out _ AT.out .decreasing rfl
      · have y1 : ¬ (s4 : Int) = 12 := by omega
        have hh : hintOf s4 = .unknown := by unfold hintOf; rw [if_neg z0, if_neg z1]
        have HH : Hid (hintOf s4 = .unknown) := hh
        clear hh
        go_wp2
        go_ret2
        exact ANS.out _ AT.out .unknown HH.out
  · have y5 : ¬ (50 : Int) ≤ (l : Int) := by omega
    have y8 : (8 : Int) ≤ (l : Int) := by omega
    have hrp := RP.out
    rw [if_neg h50] at hrp
    obtain ⟨p4, s4, e4⟩ : ∃ x y, median ltInt d i j k 0 = (x, y) := ⟨_, _, rfl⟩
    rw [e4] at hrp
    have ANS : Hid (∀ W', At w blk off d W' → ∀ x, hintOf s4 = x → CpIs w blk off d a b (.returned (.tuple #[.int .i64 (p4 : Nat), .int .i64 (hV x)])) W') := by
      rintro W' hw x rfl
      unfold CpIs
      rw [choosePivot_eq, hrp]
      exact ⟨rfl, hw⟩
    have C4 : Hid (∀ W, Sw w blk off d sb 0 W → Calls Tryz.prog 153 #[.slice (some ⟨blk, off, none⟩) n cap, .int .i64 i, .int .i64 j, .int .i64 k, .pointer (some ⟨sb, 0, none⟩)] W fun e w' => e = .returned (.int .i64 (p4 : Nat)) ∧ Sw w blk off d sb s4 w') := fun W hw => by
      have := median_any w blk off n cap i j k sb 0 d W H0.out.1 H0.out.2 hw (by omega) (by omega) (by omega) (by omega)
      rwa [e4] at this
    clear hrp e4 RP
    go_upto_region 12 with (go_at_call 153; go_loud (refine (C4.out _ HSw.out).mono ?_; rintro e W4 ⟨rfl, hs4⟩; have HS4 : Hid (Sw w blk off d sb s4 W4) := hs4; clear hs4))
    clear C4 HSw y5 y8 h50
    have c9 := HS4.out.cell
    have AT : Hid (At w blk off d W4) := HS4.out.at_
    clear HS4
    by_cases z0 : s4 = 0
    · subst z0
      have c9 : W4.cell? ⟨sb, 0, none⟩ = some (.int .i64 0) := c9
      go_wp2
      go_ret2
      exact ANS.out _ AT.out .increasing rfl
    · have y0 : ¬ (s4 : Int) = 0 := by omega
      by_cases z1 : s4 = 12
      · subst z1
        have c9 : W4.cell? ⟨sb, 0, none⟩ = some (.int .i64 12) := c9
        clear z0 y0
        go_wp2
        go_ret2
        exact ANS.out _ AT.out .decreasing rfl
      · have y1 : ¬ (s4 : Int) = 12 := by omega
        have hh : hintOf s4 = .unknown := by unfold hintOf; rw [if_neg z0, if_neg z1]
        have HH : Hid (hintOf s4 = .unknown) := hh
        clear hh
        go_wp2
        go_ret2
        exact ANS.out _ AT.out .unknown HH.out
end Us
end Go.Proofs.YtaejjpbpnedblaaGreat
