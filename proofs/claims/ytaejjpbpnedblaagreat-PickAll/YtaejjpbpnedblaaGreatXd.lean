import Derived.Test.YtaejjpbpnedblaaGreatXb
namespace Go.Proofs.YtaejjpbpnedblaaGreat
namespace Vr
open Go.Shelf Go.RowKit Go.Lib Go.Sort Go.Maps Go.ChangeMaps Go.MapKept Laws Irw Crw
set_option linter.unusedVariables false
set_option linter.unusedSimpArgs false
set_option maxRecDepth 20000
def cmpz (x y : Int) : Int := if x < y then -1 else if x > y then 1 else 0
theorem isNaN_any (x : Int) (w : World) : Calls Tryz.prog 103 #[.int .i64 x] w fun e w' => e = .returned (.bool false) ∧ w' = w := by
  go_enter Tryz.func103, Tryz.ntmps103
  go_wp2
  go_ret
  exact ⟨by simp, rfl⟩
theorem compare_any (x y : Int) (w : World) : Calls Tryz.prog 80 #[.int .i64 x, .int .i64 y] w fun e w' => e = .returned (.int .i64 (cmpz x y)) ∧ w' = w := by
  have HN := hidV (fun x W => isNaN_any x W)
  by_cases h : x < y
  · have e : cmpz x y = -1 := if_pos h
    rw [e]
    go_enter Tryz.func80, Tryz.ntmps80
    go_wp2_with (go_at_call 103; go_loud (refine (HN.out _ _).mono ?_; rintro e w99 ⟨rfl, hw99⟩; have hw98 := hw99.symm; clear hw99; subst hw98))
    go_ret
    exact ⟨rfl, rfl⟩
  · by_cases h2 : x > y
    · have e : cmpz x y = 1 := by unfold cmpz; rw [if_neg h, if_pos h2]
      rw [e]
      go_enter Tryz.func80, Tryz.ntmps80
      go_wp2_with (go_at_call 103; go_loud (refine (HN.out _ _).mono ?_; rintro e w99 ⟨rfl, hw99⟩; have hw98 := hw99.symm; clear hw99; subst hw98))
      go_ret
      exact ⟨rfl, rfl⟩
    · have e : cmpz x y = 0 := by unfold cmpz; rw [if_neg h, if_neg h2]
      rw [e]
      go_enter Tryz.func80, Tryz.ntmps80
      go_wp2_with (go_at_call 103; go_loud (refine (HN.out _ _).mono ?_; rintro e w99 ⟨rfl, hw99⟩; have hw98 := hw99.symm; clear hw99; subst hw98))
      go_ret
      exact ⟨rfl, rfl⟩
set_option maxHeartbeats 1000000 in
theorem due1_any (Bx sb so n cap i j : Nat) (x y : Int) (w : World) (hc : w.cell? ⟨Bx, 0, none⟩ = some (.slice (some ⟨sb, so, none⟩) n cap)) (hi : i < n) (hj : j < n) (hx : w.cell? ⟨sb, so + i, none⟩ = some (.int .i64 x)) (hy : w.cell? ⟨sb, so + j, none⟩ = some (.int .i64 y)) :
    Calls Tryz.prog 79 #[.int .i64 (i : Int), .int .i64 (j : Int), .pointer (some ⟨Bx, 0, none⟩)] w fun e w' => e = .returned (.int .i64 (cmpz y x)) ∧ ∃ q, w' = w.drewN q := by
  have q1 : (i : Int) < (n : Int) := by omega
  have q2 : (j : Int) < (n : Int) := by omega
  have q3 : (0 : Int) ≤ (i : Int) := by omega
  have q4 : (0 : Int) ≤ (j : Int) := by omega
  have HC := hidV (fun W => compare_any y x W)
  generalize cmpz y x = r at *
  go_enter Tryz.func79, Tryz.ntmps79
  go_wp2
  go_quiet ((go_at_call 80; exact Calls.quiet_of_same (HC.out _)))
  go_wp2
  go_ret
  exact ⟨rfl, _, rfl⟩
def st3 : Nat → List Value
  | 1 => [.int .i64 0, .int .i64 1, .int .i64 2]
  | 2 => [.int .i64 1, .int .i64 0, .int .i64 2]
  | _ => [.int .i64 1, .int .i64 2, .int .i64 0]
/-- the chapter's scores as they lie -/
structure Sc3 (w : World) (Bx sb so cap : Nat) : Prop where
  c : w.cell? ⟨Bx, 0, none⟩ = some (.slice (some ⟨sb, so, none⟩) 3 cap)
  x0 : w.cell? ⟨sb, so + 0, none⟩ = some (.int .i64 1000)
  x1 : w.cell? ⟨sb, so + 1, none⟩ = some (.int .i64 1220)
  x2 : w.cell? ⟨sb, so + 2, none⟩ = some (.int .i64 1098)
theorem Sc3.below {w w' : World} {Bx sb so cap : Nat} (h : Sc3 w Bx sb so cap) (hb : RowKit.Below w.heap.size w w') : Sc3 w' Bx sb so cap :=
  ⟨(hb.cell (p := ⟨Bx, 0, none⟩) (World.block_lt_of_cell? w _ h.c)).trans h.c, (hb.cell (p := ⟨sb, so + 0, none⟩) (World.block_lt_of_cell? w _ h.x0)).trans h.x0, (hb.cell (p := ⟨sb, so + 1, none⟩) (World.block_lt_of_cell? w _ h.x1)).trans h.x1, (hb.cell (p := ⟨sb, so + 2, none⟩) (World.block_lt_of_cell? w _ h.x2)).trans h.x2⟩
theorem Zb.drew {w : World} {B : Nat} {vs : List Value} (h : Zb w B vs) (n : Nat) : Zb (w.drewN n) B vs := h.below (bl_dn (Below.refl _ _) n)
set_option maxHeartbeats 2000000 in
theorem isort_ex (w1 W : World) (g cap Bx sb so sc : Nat) (hs : Sc3 w1 Bx sb so sc) (hz : Zb W g (st3 1)) (hb : RowKit.Below w1.heap.size w1 W) (hg : w1.heap.size ≤ g) :
    Calls Tryz.prog 138 #[.slice (some ⟨g, 0, none⟩) 3 cap, .int .i64 0, .int .i64 3, .func (.func 79) #[] #[.pointer (some ⟨Bx, 0, none⟩)]] W fun e w' => e = .returned (.tuple #[]) ∧ Zb w' g (st3 3) ∧ RowKit.Below w1.heap.size w1 w' := by
  have HS := hidV hs
  have HZ := hidV (And.intro hz hb)
  clear hs hz hb
  go_enter Tryz.func138, Tryz.ntmps138
  go_wp2
  go_loopw [8] (fun i wr => ∃ k : Nat, (k = 1 ∨ k = 2 ∨ k = 3) ∧ i = .int .i64 (k : Int) ∧ Hid (Zb wr g (st3 k) ∧ RowKit.Below w1.heap.size w1 wr)) (fun i _ => 3 - (intOf i).toNat)
  case atStart => exact ⟨1, .inl rfl, rfl, HZ.out⟩
  case round =>
    obtain ⟨k, hk, rfl, HR⟩ := hrel
    rcases hk with rfl | rfl | rfl
    · go_wp2
      go_loopw [9] (fun j wr => ∃ m : Nat, m ≤ 1 ∧ j = .int .i64 (m : Int) ∧ Hid (Zb wr g (st3 (2 - m)) ∧ RowKit.Below w1.heap.size w1 wr)) (fun j _ => (intOf j).toNat)
      case atStart => exact ⟨1, Nat.le_refl _, rfl, HR⟩
      case round =>
        obtain ⟨m, hm, rfl, HR2⟩ := hrel
        have : m = 0 ∨ m = 1 := by omega
        rcases this with rfl | rfl
        · go_wp2
          go_quiet (fail)
          go_wp2
          go_roundw
          case rel => exact ⟨2, .inr (.inl rfl), by go_num, HR2.out.1.drew _, bl_dn HR2.out.2 _⟩
          case measure => simp [intOf]
        · have c0 := HR2.out.1.2.1 0 _ rfl
          have c1 := HR2.out.1.2.1 1 _ rfl
          have f0 := HR2.out.1.2.2 0
          have f1 := HR2.out.1.2.2 1
          have w0 : IntKind.i64.wrap 0 = 0 := rfl
          have HC : Hid (∀ d, Calls Tryz.prog 79 #[.int .i64 1, .int .i64 0, .pointer (some ⟨Bx, 0, none⟩)] (wr.drewN d) fun e w' => e = .returned (.int .i64 (-1)) ∧ ∃ q, w' = (wr.drewN d).drewN q) := fun d => by
            have h := HS.out.below (bl_dn HR2.out.2 d)
            exact due1_any Bx sb so 3 sc 1 0 1220 1000 _ h.c (by omega) (by omega) h.x1 h.x0
          have HE : Hid (∀ d, Zb (((wr.drewN d).setCell ⟨g, 1, none⟩ (.int .i64 0)).setCell ⟨g, 0, none⟩ (.int .i64 1)) g (st3 2) ∧ RowKit.Below w1.heap.size w1 (((wr.drewN d).setCell ⟨g, 1, none⟩ (.int .i64 0)).setCell ⟨g, 0, none⟩ (.int .i64 1))) := fun d =>
            ⟨((HR2.out.1.drew d).set 1 _).set 0 _, ((bl_dn HR2.out.2 d).setCell (p := ⟨g, 1, none⟩) hg _).setCell (p := ⟨g, 0, none⟩) hg _⟩
          go_wp2
          go_quiet ((go_at_call 79; exact Calls.quiet_of (HC.out _)))
          go_wp2
          go_region
          go_wp2
          go_roundw
          case rel => exact ⟨0, by omega, rfl, HE.out _⟩
          case measure => simp [intOf]
    · go_wp2
      go_loopw [9] (fun j wr => ∃ m : Nat, (m = 1 ∨ m = 2) ∧ j = .int .i64 (m : Int) ∧ Hid (Zb wr g (st3 (4 - m)) ∧ RowKit.Below w1.heap.size w1 wr)) (fun j _ => (intOf j).toNat)
      case atStart => exact ⟨2, .inr rfl, rfl, HR⟩
      case round =>
        obtain ⟨m, hm, rfl, HR2⟩ := hrel
        rcases hm with rfl | rfl
        · have c0 := HR2.out.1.2.1 0 _ rfl
          have c1 := HR2.out.1.2.1 1 _ rfl
          have w0 : IntKind.i64.wrap 0 = 0 := rfl
          have HC : Hid (∀ d, Calls Tryz.prog 79 #[.int .i64 2, .int .i64 1, .pointer (some ⟨Bx, 0, none⟩)] (wr.drewN d) fun e w' => e = .returned (.int .i64 1) ∧ ∃ q, w' = (wr.drewN d).drewN q) := fun d => by
            have h := HS.out.below (bl_dn HR2.out.2 d)
            exact due1_any Bx sb so 3 sc 2 1 1098 1220 _ h.c (by omega) (by omega) h.x2 h.x1
          go_wp2
          go_quiet ((go_at_call 79; exact Calls.quiet_of (HC.out _)))
          go_wp2
          go_roundw
          case rel => exact ⟨3, .inr (.inr rfl), by go_num, HR2.out.1.drew _, bl_dn HR2.out.2 _⟩
          case measure => simp [intOf]
        · have c1 := HR2.out.1.2.1 1 _ rfl
          have c2 := HR2.out.1.2.1 2 _ rfl
          have f1 := HR2.out.1.2.2 1
          have f2 := HR2.out.1.2.2 2
          have w0 : IntKind.i64.wrap 1 = 1 := rfl
          have HC : Hid (∀ d, Calls Tryz.prog 79 #[.int .i64 2, .int .i64 0, .pointer (some ⟨Bx, 0, none⟩)] (wr.drewN d) fun e w' => e = .returned (.int .i64 (-1)) ∧ ∃ q, w' = (wr.drewN d).drewN q) := fun d => by
            have h := HS.out.below (bl_dn HR2.out.2 d)
            exact due1_any Bx sb so 3 sc 2 0 1098 1000 _ h.c (by omega) (by omega) h.x2 h.x0
          have HE : Hid (∀ d, Zb (((wr.drewN d).setCell ⟨g, 2, none⟩ (.int .i64 0)).setCell ⟨g, 1, none⟩ (.int .i64 2)) g (st3 3) ∧ RowKit.Below w1.heap.size w1 (((wr.drewN d).setCell ⟨g, 2, none⟩ (.int .i64 0)).setCell ⟨g, 1, none⟩ (.int .i64 2))) := fun d =>
            ⟨((HR2.out.1.drew d).set 2 _).set 1 _, ((bl_dn HR2.out.2 d).setCell (p := ⟨g, 2, none⟩) hg _).setCell (p := ⟨g, 1, none⟩) hg _⟩
          go_wp2
          go_quiet ((go_at_call 79; exact Calls.quiet_of (HC.out _)))
          go_wp2
          go_region
          go_wp2
          go_roundw
          case rel => exact ⟨1, .inl rfl, rfl, HE.out _⟩
          case measure => simp [intOf]
    · go_wp2
      go_end0
      exact ⟨rfl, HR.out⟩
set_option maxHeartbeats 1000000 in
theorem stable_ex (w1 W : World) (g cap Bx sb so sc : Nat) (hs : Sc3 w1 Bx sb so sc) (hz : Zb W g (st3 1)) (hb : RowKit.Below w1.heap.size w1 W) (hg : w1.heap.size ≤ g) :
    Calls Tryz.prog 121 #[.slice (some ⟨g, 0, none⟩) 3 cap, .int .i64 3, .func (.func 79) #[] #[.pointer (some ⟨Bx, 0, none⟩)]] W fun e w' => e = .returned (.tuple #[]) ∧ Zb w' g (st3 3) ∧ RowKit.Below w1.heap.size w1 w' := by
  have HC := hidV (isort_ex w1 W g cap Bx sb so sc hs hz hb hg)
  clear hs hz hb
  go_enter Tryz.func121, Tryz.ntmps121
  go_wp2
  go_loopw [7, 8] (fun a j wr => a = .int .i64 0 ∧ j = .int .i64 20 ∧ wr = W) (fun _ _ _ => 0)
  case atStart => exact ⟨rfl, rfl, rfl⟩
  case round =>
    obtain ⟨rfl, rfl, rfl⟩ := hrel
    go_wp2_with (go_at_call 138; go_loud (refine HC.out.mono ?_; rintro e w2 ⟨rfl, hh⟩; have HH := hidV hh; clear hh))
    go_loopw [6] (fun j wr => j = .int .i64 20 ∧ wr = w2) (fun _ _ => 0)
    case atStart => exact ⟨rfl, rfl⟩
    case round =>
      obtain ⟨rfl, rfl⟩ := hrel
      go_wp2
      go_end0
      exact ⟨rfl, HH.out⟩
theorem sortStable_ex (w1 W : World) (g cap Bx sb so sc : Nat) (hs : Sc3 w1 Bx sb so sc) (hz : Zb W g (st3 1)) (hb : RowKit.Below w1.heap.size w1 W) (hg : w1.heap.size ≤ g) :
    Calls Tryz.prog 101 #[.slice (some ⟨g, 0, none⟩) 3 cap, .func (.func 79) #[] #[.pointer (some ⟨Bx, 0, none⟩)]] W fun e w' => e = .returned (.tuple #[]) ∧ Zb w' g (st3 3) ∧ RowKit.Below w1.heap.size w1 w' := by
  have HC := hidV (stable_ex w1 W g cap Bx sb so sc hs hz hb hg)
  clear hs hz hb
  go_enter Tryz.func101, Tryz.ntmps101
  go_wp2_with (go_at_call 121; go_loud (refine HC.out.mono ?_; rintro e w2 ⟨rfl, hh⟩; have HH := hidV hh; clear hh))
  go_end0
  exact ⟨rfl, HH.out⟩
/-- a fresh row of three -/
theorem own3 {base : Nat} {w : World} {v : Value} {xs : List Value} {n : Nat} {e : TypeId} (h : w.ownsRow base e 1 v n xs) (hn : 0 < n) : ∃ g cap, v = .slice (some ⟨g, 0, none⟩) n cap ∧ base ≤ g ∧ n ≤ cap ∧ Zb w g xs := by
  rcases h.2 with ⟨_, h2⟩ | ⟨g, cap, cur, hv, hb, hh, hc, hmx, hs, ht⟩
  · omega
  · refine ⟨g, cap, hv, hb, hc, (Array.getElem?_eq_some_iff.1 hh).1, fun j v hv => ?_, fun j => ?_⟩
    · rw [show w.cell? ⟨g, j, none⟩ = cur[j]? by simp [World.cell?, hh], ← Array.getElem?_toList]
      rw [← ht] at hv
      have hj := (List.getElem?_eq_some_iff.1 hv).1
      rw [List.getElem?_take_of_lt (by simp at hj; omega)] at hv
      exact hv
    · simp [World.frozen?, hh]
set_option maxHeartbeats 1000000 in
theorem sorted_ex (w : World) (Bs b off lc Bx sb so sc : Nat) (hs : Sc3 w Bx sb so sc) (hBs : Bs < w.heap.size) (hb : b < w.heap.size) (hc : w.cell? ⟨Bs, 0, none⟩ = some (.slice (some ⟨b, off, none⟩) 3 lc)) (hcs : ∀ j, j < 3 → w.cell? ⟨b, off + j, none⟩ = some (.int .i64 ([0, 1, 2][j]?.getD 0))) :
    Calls Tryz.prog 77 #[.func (.func 102) #[] #[.pointer (some ⟨Bs, 0, none⟩)], .func (.func 79) #[] #[.pointer (some ⟨Bx, 0, none⟩)]] w fun e w' => ∃ g cap, e = .returned (.slice (some ⟨g, 0, none⟩) 3 cap) ∧ 3 ≤ cap ∧ w.heap.size ≤ g ∧ Zb w' g (st3 3) ∧ RowKit.Below w.heap.size w w' := by
  have HK : Hid (Calls Tryz.prog 100 #[.func (.func 102) #[] #[.pointer (some ⟨Bs, 0, none⟩)]] w fun e w' => ∃ g cap, e = .returned (.slice (some ⟨g, 0, none⟩) 3 cap) ∧ 3 ≤ cap ∧ w.heap.size ≤ g ∧ Zb w' g (st3 1) ∧ RowKit.Below w.heap.size w w') :=
    (collectI Bs b off lc [0, 1, 2] (by simp) w hBs hb hc hcs).mono fun e w' ⟨v, he, ho, hb⟩ => by
      obtain ⟨g, cap, rfl, hg, hcap, hz⟩ := own3 ho (by simp)
      exact ⟨g, cap, he, hcap, hg, hz, hb⟩
  have HS := hidV hs
  clear hs hc hcs
  go_enter Tryz.func77, Tryz.ntmps77
  go_wp2_with (first
    | (go_at_call 100; go_loud (refine HK.out.mono ?_; rintro e w2 ⟨g, cap, rfl, hcap, hg, hz2, hb2⟩; have HB2 := hidV (And.intro hz2 hb2); clear hz2 hb2))
    | (go_at_call 101; go_loud (refine (sortStable_ex w w2 g cap Bx sb so sc HS.out HB2.out.1 HB2.out.2 hg).mono ?_; rintro e w3 ⟨rfl, hh⟩; have HH := hidV hh; clear hh)))
  go_ret
  exact ⟨g, cap, rfl, hcap, hg, HH.out⟩
end Vr
end Go.Proofs.YtaejjpbpnedblaaGreat
namespace Go.Proofs.YtaejjpbpnedblaaGreat
namespace Vr
open Go.Shelf Go.RowKit Go.Lib Go.Sort Go.Maps Go.ChangeMaps Go.MapKept Laws Irw Crw
set_option linter.unusedVariables false
set_option linter.unusedSimpArgs false
set_option maxRecDepth 20000
/-- the scores' own cells -/
def S3 (w : World) (sb so : Nat) : Prop := w.cell? ⟨sb, so + 0, none⟩ = some (.int .i64 1000) ∧ w.cell? ⟨sb, so + 1, none⟩ = some (.int .i64 1220) ∧ w.cell? ⟨sb, so + 2, none⟩ = some (.int .i64 1098)
theorem S3.below {w w' : World} {sb so : Nat} (h : S3 w sb so) (hb : RowKit.Below w.heap.size w w') : S3 w' sb so :=
  ⟨(hb.cell (p := ⟨sb, so + 0, none⟩) (World.block_lt_of_cell? w _ h.1)).trans h.1, (hb.cell (p := ⟨sb, so + 1, none⟩) (World.block_lt_of_cell? w _ h.2.1)).trans h.2.1, (hb.cell (p := ⟨sb, so + 2, none⟩) (World.block_lt_of_cell? w _ h.2.2)).trans h.2.2⟩
theorem S3.at {w : World} {sb so : Nat} (h : S3 w sb so) (k : Nat) (hk : k < 3) : ∃ x : Int, w.cell? ⟨sb, so + k, none⟩ = some (.int .i64 x) ∧ 1000 ≤ x := by
  have : k = 0 ∨ k = 1 ∨ k = 2 := by omega
  rcases this with rfl | rfl | rfl
  · exact ⟨_, h.1, by omega⟩
  · exact ⟨_, h.2.1, by omega⟩
  · exact ⟨_, h.2.2, by omega⟩
def z3 : List Int := [0, 1, 2]
theorem z3_take (k : Nat) (hk : k < 3) : z3.take (k + 1) = z3.take k ++ [(k : Int)] := by
  have : k = 0 ∨ k = 1 ∨ k = 2 := by omega
  rcases this with rfl | rfl | rfl <;> rfl
set_option maxHeartbeats 2000000 in
theorem due_ex (w : World) (sb so sc : Nat) (hs : S3 w sb so) :
    Calls Tryz.prog 55 #[.slice (some ⟨sb, so, none⟩) 3 sc] w fun e w' => ∃ g cap, e = .returned (.slice (some ⟨g, 0, none⟩) 3 cap) ∧ 3 ≤ cap ∧ Zb w' g (st3 3) ∧ RowKit.Below w.heap.size w w' := by
  obtain ⟨iz, hi, hz0, hz1, hz2⟩ := info_parts infoI
  have HB0 : Hid (RowKit.Below w.heap.size w (w.alloc (Obj.cells #[.slice (some ⟨sb, so, none⟩) 3 sc] 35)) ∧ Zb (w.alloc (Obj.cells #[.slice (some ⟨sb, so, none⟩) 3 sc] 35)) w.heap.size [.slice (some ⟨sb, so, none⟩) 3 sc]) := ⟨(Below.refl _ _).alloc (Nat.le_refl _) _, Zb.new w #[.slice (some ⟨sb, so, none⟩) 3 sc] 35⟩
  have HS := hidV hs
  clear hs
  go_enter Tryz.func55, Tryz.ntmps55
  go_wp2
  generalize hW1 : w.alloc (Obj.cells #[.slice (some ⟨sb, so, none⟩) 3 sc] 35) = w1 at *
  clear hW1
  go_loopw [3, 8] (fun o i wr => ∃ (k : Nat) (s : Sv) (T : Nat → Nat), k ≤ 3 ∧ o = .slice s.1 s.2.1 s.2.2 ∧ i = .int .i64 (k : Int) ∧ Hid (Old w1 T wr ∧ OwnK kI 1 T wr (svV s) (z3.take k))) (fun _ i _ => 3 - (intOf i).toNat)
  case atStart => exact ⟨0, nS, fun _ => 0, by omega, rfl, rfl, Old.first w1, OwnK.empty _ _ _⟩
  case round =>
    obtain ⟨k, ⟨ra, rn, rc⟩, T, hk, rfl, rfl, HX⟩ := hrel
    simp only at *
    by_cases hlt : k < 3
    · have q1 : (k : Int) < 3 := by omega
      obtain ⟨x, hx, hx1⟩ := (HS.out.below (HB0.out.1.trans (HX.out.1.below.mono HB0.out.1.size))).at k hlt
      have q2 : x ≥ 1000 := hx1
      have hsl : (z3.take k).length = k := by rw [List.length_take]; show min k 3 = k; omega
      have HF : Hid (z3.take (k + 1) = z3.take k ++ [(k : Int)]) := z3_take k hlt
      go_wp2_with ((at_builtin; go_loud (refine wpList_appK kI _ (by rfl) (.tmp 15) (.tmp 17) 35 (by rfl) iz Tryz.underlying35 hi hz0 hz1 hz2 1 T (.slice ra rn rc) (z3.take k) (by rfl) (HX.out.2.below ((Below.refl _ _).alloc (Nat.le_refl _) _)) (some ⟨wr.heap.size, 0, none⟩) 1 1 [(k : Int)] (by rfl) rfl (by simp) (isK_int _ _) (by simp; omega) ?_; intro a' c' T' w3 ho3 hg3; have HY : Hid (OwnK kI 1 T' w3 (.slice a' ((z3.take k).length + 1) c') (z3.take k ++ [(k : Int)]) ∧ Goes (· = 1) T wr T' w3) := ⟨ho3, (Goes.below (t := (· = 1)) ((Below.refl _ _).alloc (Nat.le_refl _) _)).trans hg3⟩; clear ho3 hg3; simp only [List.length_singleton])))
      go_roundw
      case rel =>
        refine ⟨k + 1, (a', k + 1, c'), T', by omega, rfl, by go_num, HX.out.1.goes HY.out.2 (by decide), ?_⟩
        have h3 := HY.out.1
        rw [hsl] at h3
        rw [HF.out]
        exact h3
      case measure => simp [intOf]; omega
    · have hk3 : k = 3 := by omega
      subst hk3
      obtain ⟨g, cap, hv, hbg, hcap, hzg⟩ := own3 HX.out.2.1 (by decide)
      cases hv
      have HZ := hidV hzg
      have HBW : Hid (RowKit.Below w.heap.size w wr ∧ RowKit.Below w1.heap.size w1 wr) := ⟨HB0.out.1.trans (HX.out.1.below.mono HB0.out.1.size), HX.out.1.below⟩
      have HC : Hid (Calls Tryz.prog 77 #[.func (.func 102) #[] #[.pointer (some ⟨wr.heap.size, 0, none⟩)], .func (.func 79) #[] #[.pointer (some ⟨w.heap.size, 0, none⟩)]] (wr.alloc (.cells #[.slice (some ⟨g, 0, none⟩) 3 rc] 35)) fun e w' => ∃ g cap, e = .returned (.slice (some ⟨g, 0, none⟩) 3 cap) ∧ 3 ≤ cap ∧ Zb w' g (st3 3) ∧ RowKit.Below w.heap.size w w') := by
        have hb9 : RowKit.Below wr.heap.size wr (wr.alloc (.cells #[.slice (some ⟨g, 0, none⟩) 3 rc] 35)) := (Below.refl _ _).alloc (Nat.le_refl _) _
        have hsc : Sc3 (wr.alloc (.cells #[.slice (some ⟨g, 0, none⟩) 3 rc] 35)) w.heap.size sb so sc := by
          have h1 := HS.out.below (HBW.out.1.trans (hb9.mono HBW.out.1.size))
          have h2 := ((HB0.out.2.below HBW.out.2).below hb9).2.1 0 _ rfl
          exact ⟨h2, h1.1, h1.2.1, h1.2.2⟩
        refine (sorted_ex _ wr.heap.size g 0 rc w.heap.size sb so sc hsc (by simp) (by have := HZ.out.1; simp; omega) ((Zb.new wr #[.slice (some ⟨g, 0, none⟩) 3 rc] 35).2.1 0 _ rfl) (fun j hj => ?_)).mono ?_
        · have h := (HZ.out.below hb9).2.1 j
          have : j = 0 ∨ j = 1 ∨ j = 2 := by omega
          rcases this with rfl | rfl | rfl
          · exact h _ rfl
          · exact h _ rfl
          · exact h _ rfl
        · rintro e w' ⟨g', cap', he, hc', hg', hz', hb'⟩
          have hb8 := HBW.out.1.trans (hb9.mono HBW.out.1.size)
          exact ⟨g', cap', he, hc', hz', hb8.trans (hb'.mono hb8.size)⟩
      clear HX hzg
      go_wp2_with (first
        | (go_at_call 78; go_loud (refine (valuesI _ _ _ _).mono ?_; rintro e w8 ⟨rfl, rfl⟩))
        | (go_at_call 77; go_loud (refine HC.out.mono ?_; rintro e w9 ⟨g9, cap9, rfl, hc9, hh9⟩; have HH := hidV hh9; clear hh9)))
      go_ret
      exact ⟨g9, cap9, rfl, hc9, HH.out⟩
end Vr
end Go.Proofs.YtaejjpbpnedblaaGreat
