import Derived.Test.YtecgecolghgjoaaZt
namespace Go.Proofs.Ytecgecolghgjoaa
namespace Vr
open Go.Shelf Go.RowKit Go.Lib Go.Sort Go.Maps Go.ChangeMaps Go.MapKept Laws Irw Crw
set_option linter.unusedVariables false
set_option linter.unusedSimpArgs false
set_option maxRecDepth 20000
/-- what stands in the example: the set, the pointers' block, three tables -/
structure Kx (w : World) (T : Nat → Nat) (W : World) (sb vb mb pb b1 b2 : Nat) (V : Lv) (P : List Pn) : Prop where
  set : PAt T W sb vb mb V P
  old : Old w T W
  pts : Ls kT W (some ⟨pb, 0, none⟩, 3, 3) kpts
  tp : T pb = 0
  lp : pb < W.heap.size
  z1 : Zb W b1 (tbC kt1)
  z2 : Zb W b2 (tbC kt2)
  t1 : T b1 = 0
  t2 : T b2 = 0
theorem Kx.below {w W W' : World} {T : Nat → Nat} {sb vb mb pb b1 b2 : Nat} {V : Lv} {P : List Pn} (h : Kx w T W sb vb mb pb b1 b2 V P) (hb : RowKit.Below W.heap.size W W') : Kx w T W' sb vb mb pb b1 b2 V P :=
  ⟨h.set.below hb, h.old.goes (Goes.below (t := fun _ => False) hb) (fun z => z), h.pts.below hb, h.tp, Nat.lt_of_lt_of_le h.lp hb.size, h.z1.below hb, h.z2.below hb, h.t1, h.t2⟩
theorem Kx.goes {p : Nat → Prop} {w W W' : World} {T T' : Nat → Nat} {sb vb vb' mb pb b1 b2 : Nat} {V V' : Lv} {P P' : List Pn} (h : Kx w T W sb vb mb pb b1 b2 V P) (hg : Goes p T W T' W') (h0 : ¬ p 0) (hs : PAt T' W' sb vb' mb V' P') : Kx w T' W' sb vb' mb pb b1 b2 V' P' := by
  have hi := (isk_of h.pts h.tp h.lp).goes hg h0
  exact ⟨hs, h.old.goes hg h0, hi.ls, (hg.tag pb h.lp (by rw [h.tp]; exact h0)).trans h.tp, Nat.lt_of_lt_of_le h.lp hg.size, h.z1.goes hg (by rw [h.t1]; exact h0), h.z2.goes hg (by rw [h.t2]; exact h0), (hg.tag b1 h.z1.1 (by rw [h.t1]; exact h0)).trans h.t1, (hg.tag b2 h.z2.1 (by rw [h.t2]; exact h0)).trans h.t2⟩
theorem keep4 {w W W' : World} {S : World → Prop} (h : ∀ W, RowKit.Below w.heap.size w W → RowKit.Below w.heap.size w W ∧ S W) (k : RowKit.Below w.heap.size w W ∧ S W) (hb : RowKit.Below W.heap.size W W') : RowKit.Below w.heap.size w W' ∧ S W' := h W' (k.1.trans (hb.mono k.1.size))
set_option maxHeartbeats 8000000 in
theorem known_any (w : World) : Calls Try.prog 5 #[] w fun e w' => e = .returned (.bool true) ∧ RowKit.Below w.heap.size w w' := by
  have CN : Hid (Calls Try.prog 6 #[.int .i64 3] w fun e w' => NwIs w 3 e w') := new2_any 3 3 w (by decide) (by decide) (by decide)
  go_enter Try.func5, Try.ntmps5
  go_upto_region 4 with (go_at_call 6; go_loud (refine CN.out.mono ?_; rintro e w1 ⟨sb, vb, mb, rfl, hs, hold⟩; have H1 : Hid (∃ T, PAt T w1 sb vb mb kV0 [] ∧ Old w T w1) := ⟨_, hs.pins, hold⟩; clear hs hold))
  obtain ⟨T, HT⟩ := H1.out
  have H2 : Hid (PAt T w1 sb vb mb kV0 [] ∧ Old w T w1) := HT
  clear H1 HT CN
  go_upto_region 5 with fail
  obtain ⟨A, hA⟩ : ∃ A, w1.alloc (Obj.cells #[.string ⟨#[]⟩, .string ⟨#[]⟩, .string ⟨#[]⟩] 9) = A := ⟨_, rfl⟩
  obtain ⟨pb, hpb⟩ : ∃ b, w1.heap.size = b := ⟨_, rfl⟩
  have HA : Hid (RowKit.Below w1.heap.size w1 A ∧ Ls kT A (some ⟨pb, 0, none⟩, 3, 3) kpts ∧ T pb = 0 ∧ pb < A.heap.size) := by
    rw [← hA, ← hpb]
    exact ⟨(Below.refl _ _).alloc (Nat.le_refl _) _, ls_alloc kT w1 kpts _ _ 3 rfl rfl, H2.out.2.zero _ (.inr (Nat.le_refl _)), by simp⟩
  rw [hA, hpb]
  clear hA hpb
  go_upto_region 8 with fail
  obtain ⟨B, hB⟩ : ∃ B, ((A.alloc (Obj.cells #[.int .u64 1, .int .i64 0, .int .i64 0, .int .i64 0, .string ⟨#[97]⟩, .string ⟨#[99]⟩] 47)).alloc (Obj.cells #[.int .u64 2, .int .i64 0, .int .i64 0, .int .i64 0, .string ⟨#[98]⟩, .string ⟨#[100]⟩] 47)).alloc (Obj.cells #[.int .u64 3, .int .i64 0, .int .i64 0, .int .i64 0, .string ⟨#[97]⟩, .string ⟨#[98]⟩] 47) = B := ⟨_, rfl⟩
  obtain ⟨b1, hb1⟩ : ∃ b, A.heap.size = b := ⟨_, rfl⟩
  obtain ⟨b2, hb2⟩ : ∃ b, b1 + 1 = b := ⟨_, rfl⟩
  obtain ⟨b3, hb3⟩ : ∃ b, b2 + 1 = b := ⟨_, rfl⟩
  have HB : Hid (Kx w T B sb vb mb pb b1 b2 kV0 [] ∧ Zb B b3 [.int .u64 3, .int .i64 0, .int .i64 0, .int .i64 0, .string ⟨#[97]⟩, .string ⟨#[98]⟩]) := by
    have y1 : RowKit.Below A.heap.size A B := by rw [← hB]; exact (((Below.refl _ _).alloc (Nat.le_refl _) _).alloc (by simp) _).alloc (by simp; omega) _
    have y2 := HA.out.1.trans (y1.mono HA.out.1.size)
    have y3 : w1.heap.size ≤ A.heap.size := HA.out.1.size
    refine ⟨⟨H2.out.1.below y2, H2.out.2.goes (Goes.below (t := fun _ => False) y2) (fun z => z), HA.out.2.1.below y1, HA.out.2.2.1, Nat.lt_of_lt_of_le HA.out.2.2.2 y1.size, ?_, ?_, H2.out.2.zero _ (.inr (by omega)), H2.out.2.zero _ (.inr (by omega))⟩, ?_⟩
    · rw [← hB, ← hb1]
      exact (Zb.new A #[.int .u64 1, .int .i64 0, .int .i64 0, .int .i64 0, .string ⟨#[97]⟩, .string ⟨#[99]⟩] 47).below (((Below.refl _ _).alloc (Nat.le_refl _) _).alloc (by simp) _)
    · show Zb B b2 [.int .u64 2, .int .i64 0, .int .i64 0, .int .i64 0, .string ⟨#[98]⟩, .string ⟨#[100]⟩]
      rw [← hB, ← hb2, ← hb1]
      have := (Zb.new (A.alloc (Obj.cells #[.int .u64 1, .int .i64 0, .int .i64 0, .int .i64 0, .string ⟨#[97]⟩, .string ⟨#[99]⟩] 47)) #[.int .u64 2, .int .i64 0, .int .i64 0, .int .i64 0, .string ⟨#[98]⟩, .string ⟨#[100]⟩] 47).below ((Below.refl _ _).alloc (Nat.le_refl _) (Obj.cells #[.int .u64 3, .int .i64 0, .int .i64 0, .int .i64 0, .string ⟨#[97]⟩, .string ⟨#[98]⟩] 47))
      simpa using this
    · rw [← hB, ← hb3, ← hb2, ← hb1]
      have := Zb.new ((A.alloc (Obj.cells #[.int .u64 1, .int .i64 0, .int .i64 0, .int .i64 0, .string ⟨#[97]⟩, .string ⟨#[99]⟩] 47)).alloc (Obj.cells #[.int .u64 2, .int .i64 0, .int .i64 0, .int .i64 0, .string ⟨#[98]⟩, .string ⟨#[100]⟩] 47)) #[.int .u64 3, .int .i64 0, .int .i64 0, .int .i64 0, .string ⟨#[97]⟩, .string ⟨#[98]⟩] 47
      simpa using this
  rw [hB, hb1, hb2, hb3]
  clear hB hb1 hb2 hb3 HA H2
  have q1 : Zb B b1 [.int .u64 1, .int .i64 0, .int .i64 0, .int .i64 0, .string ⟨#[97]⟩, .string ⟨#[99]⟩] := HB.out.1.z1
  have q2 : Zb B b2 [.int .u64 2, .int .i64 0, .int .i64 0, .int .i64 0, .string ⟨#[98]⟩, .string ⟨#[100]⟩] := HB.out.1.z2
  have q3 := HB.out.2
  have z10 := q1.2.1 0 _ rfl
  have z11 := q1.2.1 1 _ rfl
  have z12 := q1.2.1 2 _ rfl
  have z13 := q1.2.1 3 _ rfl
  have z14 := q1.2.1 4 _ rfl
  have z15 := q1.2.1 5 _ rfl
  have z20 := q2.2.1 0 _ rfl
  have z21 := q2.2.1 1 _ rfl
  have z22 := q2.2.1 2 _ rfl
  have z23 := q2.2.1 3 _ rfl
  have z24 := q2.2.1 4 _ rfl
  have z25 := q2.2.1 5 _ rfl
  have z30 := q3.2.1 0 _ rfl
  have z31 := q3.2.1 1 _ rfl
  have z32 := q3.2.1 2 _ rfl
  have z33 := q3.2.1 3 _ rfl
  have z34 := q3.2.1 4 _ rfl
  have z35 := q3.2.1 5 _ rfl
  clear q1 q2 q3
  go_upto_region 9 with (go_at_call 9; go_loud (refine (kap1 (w := w) (HB.out.1.below ((Below.refl _ _).alloc (Nat.le_refl _) _)).set (HB.out.1.below ((Below.refl _ _).alloc (Nat.le_refl _) _)).old (ls_alloc kPi B kl1 _ _ 3 rfl rfl) (HB.out.1.below ((Below.refl _ _).alloc (Nat.le_refl _) _)).pts HB.out.1.tp (HB.out.1.below ((Below.refl _ _).alloc (Nat.le_refl _) _)).lp).mono ?_; rintro e w3 ⟨nb, a3, c3, T3, rfl, hP3, ho3, hg3⟩; have H3 : Hid (Kx w T3 w3 sb nb mb pb b1 b2 kV1 []) := (HB.out.1.below ((Below.refl _ _).alloc (Nat.le_refl _) _)).goes hg3 (by decide) hP3; clear hP3 ho3 hg3))
  clear z10 z11 z12 z13 z14 z15 z20 z21 z22 z23 z24 z25 z30 z31 z32 z33 z34 z35 HB
  have CP : Hid (Calls Try.prog 12 #[.pointer (some ⟨sb, 0, none⟩)] w3 fun e w' => PnIs T3 w3 sb nb mb kV1 [] e w') := pin_any H3.out.set (by simp) (fun p hp => by cases hp)
  go_upto_region 10 with (go_at_call 12; go_loud (refine CP.out.mono ?_; rintro e w4 ⟨rfl, T4, hP4, hg4⟩; have H4 : Hid (Kx w T4 w4 sb nb mb pb b1 b2 kV1 [⟨nb, 1, kV1⟩]) := H3.out.goes hg4 (by decide) hP4; clear hP4 hg4))
  clear CP H3
  have HST : Hid (∀ W, RowKit.Below w4.heap.size w4 W → RowKit.Below w4.heap.size w4 W ∧ W.cell? ⟨b1, 0, none⟩ = some (.int .u64 1) ∧ W.cell? ⟨b1, 1, none⟩ = some (.int .i64 0) ∧ W.cell? ⟨b1, 2, none⟩ = some (.int .i64 0) ∧ W.cell? ⟨b1, 3, none⟩ = some (.int .i64 0) ∧ W.cell? ⟨b1, 4, none⟩ = some (.string ⟨#[97]⟩) ∧ W.cell? ⟨b1, 5, none⟩ = some (.string ⟨#[99]⟩) ∧ W.cell? ⟨b2, 0, none⟩ = some (.int .u64 2) ∧ W.cell? ⟨b2, 1, none⟩ = some (.int .i64 0) ∧ W.cell? ⟨b2, 2, none⟩ = some (.int .i64 0) ∧ W.cell? ⟨b2, 3, none⟩ = some (.int .i64 0) ∧ W.cell? ⟨b2, 4, none⟩ = some (.string ⟨#[98]⟩) ∧ W.cell? ⟨b2, 5, none⟩ = some (.string ⟨#[100]⟩)) := fun W hW => by
    have q1 : Zb w4 b1 [.int .u64 1, .int .i64 0, .int .i64 0, .int .i64 0, .string ⟨#[97]⟩, .string ⟨#[99]⟩] := H4.out.z1
    have q2 : Zb w4 b2 [.int .u64 2, .int .i64 0, .int .i64 0, .int .i64 0, .string ⟨#[98]⟩, .string ⟨#[100]⟩] := H4.out.z2
    exact ⟨hW, (q1.below hW).2.1 0 _ rfl, (q1.below hW).2.1 1 _ rfl, (q1.below hW).2.1 2 _ rfl, (q1.below hW).2.1 3 _ rfl, (q1.below hW).2.1 4 _ rfl, (q1.below hW).2.1 5 _ rfl, (q2.below hW).2.1 0 _ rfl, (q2.below hW).2.1 1 _ rfl, (q2.below hW).2.1 2 _ rfl, (q2.below hW).2.1 3 _ rfl, (q2.below hW).2.1 4 _ rfl, (q2.below hW).2.1 5 _ rfl⟩
  have CNM : Hid (∀ x W, Calls Try.prog 10 #[.int .i64 x] W fun e w' => e = .returned (.int .i64 x) ∧ w' = W) := fun x W => num13_any x W
  have CH : Hid (∀ W, RowKit.Below w4.heap.size w4 W → Calls Try.prog 18 #[.pointer (some ⟨nb, 0, none⟩), .int .i64 0, .string ⟨#[98]⟩] W fun e w' => ∃ a c, e = .returned (.slice a 2 c) ∧ Hid (Ls kTb w' (a, 2, c) [kt2, kt1]) ∧ RowKit.Below W.heap.size W w') := fun W hW => by
    have := holds_any nb kV1 0 ⟨#[98]⟩ W ((H4.out.set.ver.at_).below hW)
    rw [kholds] at this
    refine this.mono ?_
    rintro e w' ⟨⟨s1, s2, s3⟩, T9, rfl, ho, hold⟩
    have hs := (OwnK.sk ho).1
    change s2 = 2 at hs
    subst hs
    exact ⟨s1, s3, rfl, Ls.own ho, hold.below⟩
  have CS : Hid (∀ W a c b cb, Ls kTb W (a, 2, c) [kt2, kt1] → Ls kTb W (b, 2, cb) [kt2, kt1] → Calls Try.prog 17 #[.slice a 2 c, .slice b 2 cb] W fun e w' => e = .returned (.bool true) ∧ RowKit.Below W.heap.size W w') := fun W a c b cb h1 h2 =>
    (sameTables_true a b c cb 2 [kt2, kt1] W h1 h2 rfl (by omega)).mono fun e w' hp => ⟨hp.1, by obtain ⟨n, hn⟩ := hp.2; rw [hn]; exact bl_dn (Below.refl _ _) n⟩
  have CSA : Hid (∀ W a c, Ls kTb W (a, 2, c) [kt2, kt1] → Calls Try.prog 17 #[.slice a 2 c, .slice (some ⟨W.heap.size, 0, none⟩) 2 2] (W.alloc (Obj.cells #[.int .u64 2, .int .i64 0, .int .i64 0, .int .i64 0, .string ⟨#[98]⟩, .string ⟨#[100]⟩, .int .u64 1, .int .i64 0, .int .i64 0, .int .i64 0, .string ⟨#[97]⟩, .string ⟨#[99]⟩] 47)) fun e w' => e = .returned (.bool true) ∧ RowKit.Below (W.alloc (Obj.cells #[.int .u64 2, .int .i64 0, .int .i64 0, .int .i64 0, .string ⟨#[98]⟩, .string ⟨#[100]⟩, .int .u64 1, .int .i64 0, .int .i64 0, .int .i64 0, .string ⟨#[97]⟩, .string ⟨#[99]⟩] 47)).heap.size (W.alloc (Obj.cells #[.int .u64 2, .int .i64 0, .int .i64 0, .int .i64 0, .string ⟨#[98]⟩, .string ⟨#[100]⟩, .int .u64 1, .int .i64 0, .int .i64 0, .int .i64 0, .string ⟨#[97]⟩, .string ⟨#[99]⟩] 47)) w') := fun W a c h1 => CS.out _ a c _ 2 (h1.below ((Below.refl _ _).alloc (Nat.le_refl _) _)) (ls_alloc kTb W [kt2, kt1] 47 #[.int .u64 2, .int .i64 0, .int .i64 0, .int .i64 0, .string ⟨#[98]⟩, .string ⟨#[100]⟩, .int .u64 1, .int .i64 0, .int .i64 0, .int .i64 0, .string ⟨#[97]⟩, .string ⟨#[99]⟩] 2 rfl rfl)
  have CSB : Hid (∀ W0 W a c, Ls kTb W (a, 2, c) [kt2, kt1] → RowKit.Below (World.alloc W0 (Obj.cells #[.int .u64 2, .int .i64 0, .int .i64 0, .int .i64 0, .string ⟨#[98]⟩, .string ⟨#[100]⟩, .int .u64 1, .int .i64 0, .int .i64 0, .int .i64 0, .string ⟨#[97]⟩, .string ⟨#[99]⟩] 47)).heap.size (World.alloc W0 (Obj.cells #[.int .u64 2, .int .i64 0, .int .i64 0, .int .i64 0, .string ⟨#[98]⟩, .string ⟨#[100]⟩, .int .u64 1, .int .i64 0, .int .i64 0, .int .i64 0, .string ⟨#[97]⟩, .string ⟨#[99]⟩] 47)) W → Calls Try.prog 17 #[.slice a 2 c, .slice (some ⟨W0.heap.size, 0, none⟩) 2 2] W fun e w' => e = .returned (.bool true) ∧ RowKit.Below W.heap.size W w') := fun W0 W a c h1 hb => CS.out _ a c _ 2 h1 ((ls_alloc kTb W0 [kt2, kt1] 47 #[.int .u64 2, .int .i64 0, .int .i64 0, .int .i64 0, .string ⟨#[98]⟩, .string ⟨#[100]⟩, .int .u64 1, .int .i64 0, .int .i64 0, .int .i64 0, .string ⟨#[97]⟩, .string ⟨#[99]⟩] 2 rfl rfl).below hb)
  clear CS
  go_cut [53] (fun s53 w' => s53 = .bool false ∧ Hid (RowKit.Below w4.heap.size w4 w'))
  case first =>
    go_region_held3 (fun W => RowKit.Below w4.heap.size w4 W ∧ W.cell? ⟨b1, 0, none⟩ = some (.int .u64 1) ∧ W.cell? ⟨b1, 1, none⟩ = some (.int .i64 0) ∧ W.cell? ⟨b1, 2, none⟩ = some (.int .i64 0) ∧ W.cell? ⟨b1, 3, none⟩ = some (.int .i64 0) ∧ W.cell? ⟨b1, 4, none⟩ = some (.string ⟨#[97]⟩) ∧ W.cell? ⟨b1, 5, none⟩ = some (.string ⟨#[99]⟩) ∧ W.cell? ⟨b2, 0, none⟩ = some (.int .u64 2) ∧ W.cell? ⟨b2, 1, none⟩ = some (.int .i64 0) ∧ W.cell? ⟨b2, 2, none⟩ = some (.int .i64 0) ∧ W.cell? ⟨b2, 3, none⟩ = some (.int .i64 0) ∧ W.cell? ⟨b2, 4, none⟩ = some (.string ⟨#[98]⟩) ∧ W.cell? ⟨b2, 5, none⟩ = some (.string ⟨#[100]⟩)) (first | assumption | exact HST.out _ (Below.refl _ _).drew | exact keep4 HST.out (by assumption) (by assumption) | exact keep4 HST.out (by assumption) ((Below.refl _ _).alloc (Nat.le_refl _) _))
      (first
        | (go_at_call 10; refine (CNM.out _ _).mono ?_; rintro e w' ⟨rfl, hw⟩; have hw2 := hw.symm; clear hw; subst hw2)
        | (go_at_call 18; refine (CH.out _ (And.left (by assumption))).mono ?_; rintro e w7 ⟨a7, c7, rfl, HI7, hb7⟩)
        | (go_at_call_of 17 w7; refine (CSA.out _ _ _ HI7.out).mono ?_; rintro e w8 ⟨rfl, hb8⟩)
        | (go_at_call 17; refine (CSB.out w4 w7 _ _ HI7.out ⟨hb7.os, hb7.tape, hb7.output, hb7.size, hb7.block⟩).mono ?_; rintro e w8 ⟨rfl, hb8⟩))
    all_goals
      have HB8 : Hid (RowKit.Below w4.heap.size w4 w8) := by rename_i hz; exact hz.1
      go_wp2_with fail
      go_meet
      case rel => exact ⟨rfl, HB8.out⟩
  case rest =>
    obtain ⟨rfl, HB5⟩ := hcut
    rename World => w5
    have H5 : Hid (Kx w T4 w5 sb nb mb pb b1 b2 kV1 [⟨nb, 1, kV1⟩]) := H4.out.below HB5.out
    clear H4 HB5 CSA CSB CH HST
    go_upto_region 13 with fail
    obtain ⟨C, hC⟩ : ∃ C, w5.alloc (Obj.cells #[.int .u64 4, .int .i64 0, .int .i64 0, .int .i64 0, .string ⟨#[97]⟩, .string ⟨#[99]⟩] 47) = C := ⟨_, rfl⟩
    obtain ⟨b4, hb4⟩ : ∃ b, w5.heap.size = b := ⟨_, rfl⟩
    have HC : Hid (Kx w T4 C sb nb mb pb b1 b2 kV1 [⟨nb, 1, kV1⟩] ∧ Zb C b4 [.int .u64 4, .int .i64 0, .int .i64 0, .int .i64 0, .string ⟨#[97]⟩, .string ⟨#[99]⟩]) := by
      rw [← hC, ← hb4]
      exact ⟨H5.out.below ((Below.refl _ _).alloc (Nat.le_refl _) _), Zb.new _ _ _⟩
    rw [hC, hb4]
    clear hC hb4 H5
    have z0 := HC.out.2.2.1 0 _ rfl
    have z1 := HC.out.2.2.1 1 _ rfl
    have z2 := HC.out.2.2.1 2 _ rfl
    have z3 := HC.out.2.2.1 3 _ rfl
    have z4 := HC.out.2.2.1 4 _ rfl
    have z5 := HC.out.2.2.1 5 _ rfl
    have hb4 : b4 < C.heap.size := HC.out.2.1
    have hb5 : ¬ b4 = C.heap.size := by omega
    have CA : Hid (∀ cs1 t1 cs2 t2, cs1.toList = kPc.cells kO2 → cs2.toList = kPi.cells kl2 → Calls Try.prog 9 #[.pointer (some ⟨sb, 0, none⟩), .agg #[.int .u64 0, .int .u64 0, .int .u64 0, .slice (some ⟨C.heap.size, 0, none⟩) 2 2, .slice (some ⟨C.heap.size + 1, 0, none⟩) 1 1, .slice (some ⟨pb, 0, none⟩) 3 3]] ((C.alloc (Obj.cells cs1 t1)).alloc (Obj.cells cs2 t2)) fun e w' => ∃ (nb2 : Nat) (a : Option Addr) (c : Nat) (T' : Nat → Nat), e = .returned (.tuple #[.slice a 0 c, .int .i64 0]) ∧ PAt T' w' sb nb2 mb kV2 [⟨nb, 1, kV1⟩] ∧ Old w T' w' ∧ nb ≠ nb2) := by
      intro cs1 t1 cs2 t2 h1 h2
      have y1 : RowKit.Below C.heap.size C (C.alloc (Obj.cells cs1 t1)) := (Below.refl _ _).alloc (Nat.le_refl _) _
      have y2 : RowKit.Below (C.alloc (Obj.cells cs1 t1)).heap.size (C.alloc (Obj.cells cs1 t1)) ((C.alloc (Obj.cells cs1 t1)).alloc (Obj.cells cs2 t2)) := (Below.refl _ _).alloc (Nat.le_refl _) _
      have K := (HC.out.1.below y1).below y2
      have l2 := ls_alloc kPi (C.alloc (Obj.cells cs1 t1)) kl2 t2 cs2 1 h2 rfl
      rw [show (C.alloc (Obj.cells cs1 t1)).heap.size = C.heap.size + 1 by simp] at l2
      exact kap2 K.set K.old ((ls_alloc kPc C kO2 t1 cs1 2 h1 rfl).below y2) l2 K.pts K.tp K.lp
    go_upto_region 14 with (go_at_call 9; go_loud (refine (CA.out _ _ _ _ rfl rfl).mono ?_; rintro e w6 ⟨nb2, a6, c6, T6, rfl, hP6, ho6, hne6⟩; have H6 : Hid (PAt T6 w6 sb nb2 mb kV2 [⟨nb, 1, kV1⟩] ∧ Old w T6 w6 ∧ nb ≠ nb2) := ⟨hP6, ho6, hne6⟩; clear hP6 ho6 hne6))
    clear z0 z1 z2 z3 z4 z5 CA HC hb4 hb5
    have CU1 : Hid (Calls Try.prog 13 #[.pointer (some ⟨sb, 0, none⟩), .pointer (some ⟨nb, 0, none⟩)] w6 fun e w' => ∃ (a : Option Addr) (c : Nat) (T' : Nat → Nat), e = .returned (.slice a 2 c) ∧ PAt T' w' sb nb2 mb kV2 [] ∧ Old w T' w' ∧ Ls kU w' (a, 2, c) [1, 3] ∧ VT T' w' nb kV1) := by
      have hv := H6.out.1.pin ⟨nb, 1, kV1⟩ (by simp)
      refine (unpin_any (pv := some ⟨nb, 0, none⟩) H6.out.1 (kSz2 _ (fun p hp => by simp at hp; subst hp; rfl) (by simp)) (fun p hp => by simp at hp; subst hp; exact ⟨(by show (1 : Int) ≤ 1; decide), (by show (1 : Int) ≤ 1000000; decide)⟩) (.inr ⟨nb, rfl, hv.blk⟩)).mono ?_
      rintro e w' ⟨⟨s1, s2, s3⟩, T', rfl, hP, hO, hg⟩
      rw [kunp] at hP
      rw [kunr _ _ H6.out.2.2] at hO
      have hs := (OwnK.sk hO).1
      change s2 = 2 at hs
      subst hs
      exact ⟨s1, s3, T', rfl, hP, H6.out.2.1.goes hg (by decide), Ls.own hO, hv.goes hg (by decide)⟩
    have CM : Hid (∀ W a c, Ls kU W (a, 2, c) [1, 3] → Calls Try.prog 19 #[.slice a 2 c, .slice (some ⟨W.heap.size, 0, none⟩) 2 2] (W.alloc (Obj.cells #[.int .u64 1, .int .u64 3] 33)) fun e w' => e = .returned (.bool true) ∧ RowKit.Below W.heap.size W w') := fun W a c h1 =>
      (sameNums_true a (some ⟨W.heap.size, 0, none⟩) c 2 2 [1, 3] _ (h1.below ((Below.refl _ _).alloc (Nat.le_refl _) _)) (ls_alloc kU W [1, 3] 33 #[.int .u64 1, .int .u64 3] 2 rfl rfl) rfl (by omega)).mono fun e w' hp => ⟨hp.1, by obtain ⟨n, hn⟩ := hp.2; rw [hn]; exact bl_dn ((Below.refl _ _).alloc (Nat.le_refl _) _) n⟩
    have CU2 : Hid (∀ T' W, PAt T' W sb nb2 mb kV2 [] → Old w T' W → VT T' W nb kV1 → Calls Try.prog 13 #[.pointer (some ⟨sb, 0, none⟩), .pointer (some ⟨nb, 0, none⟩)] W fun e w' => (∃ a c, e = .returned (.slice a 0 c)) ∧ RowKit.Below w.heap.size w w') := fun T' W hP ho hv => by
      refine (unpin_any (pv := some ⟨nb, 0, none⟩) hP (kSz2 [] (fun p hp => by cases hp) (by simp)) (fun p hp => by cases hp) (.inr ⟨nb, rfl, hv.blk⟩)).mono ?_
      rintro e w' ⟨⟨s1, s2, s3⟩, T9, rfl, hP9, hO, hg⟩
      rw [(kun2 nb2 nb).2] at hO
      have hs := (OwnK.sk hO).1
      change s2 = 0 at hs
      subst hs
      exact ⟨⟨s1, s3, rfl⟩, (ho.goes hg (by decide)).below⟩
    go_wp2_with (first
      | (go_at_call 10; go_loud (refine (CNM.out _ _).mono ?_; rintro e w' ⟨rfl, hw⟩; have hw2 := hw.symm; clear hw; subst hw2))
      | (go_at_call 19; go_loud (refine (CM.out _ _ _ H7.out.2.2.1).mono ?_; rintro e w8 ⟨rfl, hb8⟩; have HB8 : Hid (RowKit.Below w7.heap.size w7 w8) := hb8; clear hb8))
      | (go_at_call 13; revert HB8; intro HB8; go_loud (refine (CU2.out T7 _ (H7.out.1.below HB8.out) (H7.out.2.1.goes (Goes.below (t := fun _ => False) HB8.out) (fun z => z)) (H7.out.2.2.2.goes (Goes.below (t := fun _ => False) HB8.out) (fun z => z))).mono ?_; rintro e w9 ⟨⟨a9, c9, rfl⟩, hb9⟩; have HB9 : Hid (RowKit.Below w.heap.size w w9) := hb9; clear hb9))
      | (go_at_call 13; go_loud (refine CU1.out.mono ?_; rintro e w7 ⟨a7, c7, T7, rfl, hP7, ho7, hl7, hv7⟩; have H7 : Hid (PAt T7 w7 sb nb2 mb kV2 [] ∧ Old w T7 w7 ∧ Ls kU w7 (a7, 2, c7) [1, 3] ∧ VT T7 w7 nb kV1) := ⟨hP7, ho7, hl7, hv7⟩; clear hP7 ho7 hl7 hv7)))
    go_ret
    exact ⟨rfl, HB9.out⟩
end Vr
end Go.Proofs.Ytecgecolghgjoaa
