import Derived.Test.YtebfokjgeknciabGreatDoorPq3
import Derived.Test.YtebfokjgeknciabGreatDoorPk3
import Derived.Test.YtebfokjgeknciabGreatDoorPcL
import Derived.Test.YtebfokjgeknciabGreatDoorPkO
namespace Go.Proofs.YtebfokjgeknciabGreatDoor
namespace Pcm
open Go.RowKit Laws Irw Lin
set_option linter.unusedVariables false
set_option linter.unusedSimpArgs false
set_option maxRecDepth 20000

/-- both buckets of a pair: tags t, t + 1, t + 2 and t + 3, t + 4 -/
structure Pq (t : Nat) (T : Nat → Nat) (w : World) (p q : Nat) (rate burst tok : Int) (l : List Int) : Prop where
  b : BkAt t T w p rate burst tok l
  r : RbAt (t + 3) T w q rate burst tok l
  nd : l.Nodup
def pqT (t x : Nat) : Prop := t ≤ x ∧ x ≤ t + 4
theorem Pq.goes {t : Nat} {u : Nat → Prop} {T T' : Nat → Nat} {w w' : World} {p q : Nat} {rate burst tok : Int} {l : List Int} (h : Pq t T w p q rate burst tok l) (hg : Goes u T w T' w') (hu : ∀ x, u x → ¬ pqT t x) : Pq t T' w' p q rate burst tok l :=
  ⟨h.b.goes hg (fun z => hu _ z ⟨by omega, by omega⟩) (fun z => hu _ z ⟨by omega, by omega⟩) (fun z => hu _ z ⟨by omega, by omega⟩), h.r.goes hg (fun z => hu _ z ⟨by omega, by omega⟩) (fun z => hu _ z ⟨by omega, by omega⟩), h.nd⟩
theorem Pq.below {t : Nat} {T : Nat → Nat} {w w' : World} {p q : Nat} {rate burst tok : Int} {l : List Int} (h : Pq t T w p q rate burst tok l) (hb : Below w.heap.size w w') : Pq t T w' p q rate burst tok l := ⟨h.b.below hb, h.r.below hb, h.nd⟩
theorem bk_pq {t x : Nat} (h : bkT t x) : pqT t x := by unfold bkT at h; unfold pqT; omega
theorem rb_pq {t x : Nat} (h : rbT (t + 3) x) : pqT t x := by unfold rbT at h; unfold pqT; omega
/-- both have stepped -/
theorem Pq.step {t : Nat} {T T1 T2 : Nat → Nat} {w w1 w2 : World} {p q : Nat} {rate burst tok tok' : Int} {l l' : List Int} (h : Pq t T w p q rate burst tok l) (hb : BkAt t T1 w1 p rate burst tok' l') (hg1 : Goes (bkT t) T w T1 w1) (hr : RbAt (t + 3) T2 w2 q rate burst tok' l') (hg2 : Goes (rbT (t + 3)) T1 w1 T2 w2) (hn : l'.Nodup) :
    Pq t T2 w2 p q rate burst tok' l' ∧ Goes (pqT t) T w T2 w2 :=
  ⟨⟨hb.goes hg2 (by unfold rbT; omega) (by unfold rbT; omega) (by unfold rbT; omega), hr, hn⟩, (hg1.mono fun x hx => bk_pq hx).trans (hg2.mono fun x hx => rb_pq hx)⟩
theorem nodup_mayL {tok : Int} {l : List Int} {who : Int} (h : l.Nodup) : (mayL tok l who).Nodup := by
  unfold mayL
  split
  · exact h
  · unfold joinL
    split
    · exact h
    · rename_i hx
      exact nodup_join h hx
theorem nodup_leave {l : List Int} {x : Int} (h : l.Nodup) : (leaveL l x).Nodup := by
  rw [← leaveF_eq h]
  exact h.sublist List.filter_sublist
theorem len_mayL (tok : Int) (l : List Int) (who : Int) : (mayL tok l who).length ≤ l.length + 1 := by
  unfold mayL
  split
  · omega
  · unfold joinL
    split
    · omega
    · simp
theorem len_leave (l : List Int) (x : Int) : (leaveL l x).length ≤ l.length := by
  unfold leaveL
  split
  · exact List.length_eraseIdx_le _ _
  · omega
/-- what a call of the script makes of the tokens and of the line -/
def stT (rate burst kd n tok : Int) : Int := if kd = 1 then tickV tok rate burst else if kd = 4 then takeV tok n else tok
def stL (kd who tok : Int) (l : List Int) : List Int := if kd = 3 then mayL tok l who else if kd = 4 ∨ kd = 5 then leaveL l who else l
def DoIs (t : Nat) (T : Nat → Nat) (w : World) (p q : Nat) (rate burst tok : Int) (l : List Int) (kd who n : Int) (e : Ending) (w' : World) : Prop :=
  e = .returned (.bool true) ∧ ∃ T', Pq t T' w' p q rate burst (stT rate burst kd n tok) (stL kd who tok l) ∧ Goes (pqT t) T w T' w'
set_option maxHeartbeats 4000000 in
theorem does_any (t : Nat) (T : Nat → Nat) (w : World) (p q : Nat) (rate burst tok : Int) (l : List Int) (kd who n : Int) (hn : R64 n) (h : Pq t T w p q rate burst tok l) (ht : 0 < t) (hT : T w.heap.size = 0) (hlen : l.length ≤ 1000000) :
    Calls Tryz.prog 8 #[.pointer (some ⟨p, 0, none⟩), .pointer (some ⟨q, 0, none⟩), .agg #[.int .i64 kd, .int .i64 who, .int .i64 n]] w fun e w' => DoIs t T w p q rate burst tok l kd who n e w' := by
  have hb0 : Below w.heap.size w (w.alloc (.cells #[.int .i64 kd, .int .i64 who, .int .i64 n] 56)) := (Below.refl _ _).alloc (Nat.le_refl _) _
  have HP : Hid (Pq t T (w.alloc (.cells #[.int .i64 kd, .int .i64 who, .int .i64 n] 56)) p q rate burst tok l) := h.below hb0
  have HG0 : Hid (Goes (pqT t) T w T (w.alloc (.cells #[.int .i64 kd, .int .i64 who, .int .i64 n] 56))) := Goes.below hb0
  have k0 : (w.alloc (.cells #[.int .i64 kd, .int .i64 who, .int .i64 n] 56)).cell? ⟨w.heap.size, 0, none⟩ = some (.int .i64 kd) := by simp [go_sem]
  have k1 : (w.alloc (.cells #[.int .i64 kd, .int .i64 who, .int .i64 n] 56)).cell? ⟨w.heap.size, 1, none⟩ = some (.int .i64 who) := by simp [go_sem]
  have k2 : (w.alloc (.cells #[.int .i64 kd, .int .i64 who, .int .i64 n] 56)).cell? ⟨w.heap.size, 2, none⟩ = some (.int .i64 n) := by simp [go_sem]
  have hbz : w.heap.size < (w.alloc (.cells #[.int .i64 kd, .int .i64 who, .int .i64 n] 56)).heap.size := by simp
  have HNR := hid hn
  have hLF : leaveF l who = leaveL l who := leaveF_eq h.nd
  have HLF := hid hLF
  have HND := hid h.nd
  -- the box stays while a bucket steps
  have HKB : Hid (∀ T1 w1, Goes (bkT t) T (w.alloc (.cells #[.int .i64 kd, .int .i64 who, .int .i64 n] 56)) T1 w1 → ∀ j, w1.cell? ⟨w.heap.size, j, none⟩ = (w.alloc (.cells #[.int .i64 kd, .int .i64 who, .int .i64 n] 56)).cell? ⟨w.heap.size, j, none⟩) := fun T1 w1 hg j => hg.cell hbz (by rw [hT]; unfold bkT; omega)
  clear h hb0 hLF hn
  by_cases e1 : kd = 1
  · subst e1
    go_enter Tryz.func8, Tryz.ntmps8
    go_wp2_with (first | (go_at_call 25; go_loud (refine (tick_any t T _ p rate burst tok l HP.out.b).mono ?_; rintro e w1 ⟨rfl, T1, hb1, hg1⟩; have H1 := hid (And.intro hb1 hg1); clear hb1 hg1)) | (go_at_call 26; go_loud (refine (rtick_any (t + 3) T1 w1 q rate burst tok l (HP.out.r.goes H1.out.2 (by unfold bkT; omega) (by unfold bkT; omega))).mono ?_; rintro e w2 ⟨rfl, T2, hr2, hg2⟩; have H2 := hid (HP.out.step H1.out.1 H1.out.2 hr2 hg2 HND.out); clear hr2 hg2)))
    go_ret
    exact ⟨rfl, T2, H2.out.1, HG0.out.trans H2.out.2⟩
  · have e1' : (kd == 1) = false := by simpa using e1
    by_cases e2 : kd = 2
    · subst e2
      have cN := HP.out.r.c2
      go_enter Tryz.func8, Tryz.ntmps8
      go_wp2
      generalize (w.alloc (.cells #[.int .i64 2, .int .i64 who, .int .i64 n] 56)) = W at *
      refine wp_region_held_drew (S := (fun V => V.cell? ⟨q, 2, none⟩ = some (.int .i64 tok) ∧ Below W.heap.size W V)) (by kernel_rfl) ?_ (fun hHeld => ?_)
      · exact ⟨cN, (Below.refl _ _).drew⟩
      refine wpAnyH_take (i := 0) (oi := { dst := some 17, op := Go.Op.move (Go.Operand.tmp 0), type := 26, pos := "law.go:113", after := #[], guard := none }) (v := ?_) rfl (by kernel_rfl) (by kernel_rfl) (by kernel_rfl) (fun _ _ _ h => h) (Or.inl ⟨by rfl, ?_⟩) hHeld ?_
      rotate_left
      · (intro wq hSw; (try dsimp only at hSw); go_simp; try (with_reducible rfl))
      try simp only [Act.put, List.setIfInBounds_toArray, List.set_cons_zero, List.set_cons_succ]
      refine wpAnyH_take (i := 2) (oi := { dst := some 19, op := Go.Op.move (Go.Operand.tmp 1), type := 29, pos := "law.go:113", after := #[], guard := none }) (v := ?_) rfl (by kernel_rfl) (by kernel_rfl) (by kernel_rfl) (fun _ _ _ h => h) (Or.inl ⟨by rfl, ?_⟩) hHeld ?_
      rotate_left
      · (intro wq hSw; (try dsimp only at hSw); go_simp; try (with_reducible rfl))
      try simp only [Act.put, List.setIfInBounds_toArray, List.set_cons_zero, List.set_cons_succ]
      refine wpAnyH_take (i := 3) (oi := { dst := some 20, op := Go.Op.nilCheck (Go.Operand.tmp 19), type := 0, pos := "law.go:113", after := #[{ on := 2, ground := Go.Ground.data }], guard := none }) (v := ?_) rfl (by kernel_rfl) (by kernel_rfl) (by kernel_rfl) (fun _ _ _ h => h) (Or.inl ⟨by rfl, ?_⟩) hHeld ?_
      rotate_left
      · (intro wq hSw; (try dsimp only at hSw); go_simp; try (with_reducible rfl))
      try simp only [Act.put, List.setIfInBounds_toArray, List.set_cons_zero, List.set_cons_succ]
      refine wpAnyH_take (i := 4) (oi := { dst := some 21, op := Go.Op.fieldAddr 60 (Go.Operand.tmp 20) 2, type := 0, pos := "law.go:113", after := #[{ on := 3, ground := Go.Ground.data }], guard := none }) (v := ?_) rfl (by kernel_rfl) (by kernel_rfl) (by kernel_rfl) (fun _ _ _ h => h) (Or.inl ⟨by rfl, ?_⟩) hHeld ?_
      rotate_left
      · (intro wq hSw; (try dsimp only at hSw); go_simp; try (with_reducible rfl))
      try simp only [Act.put, List.setIfInBounds_toArray, List.set_cons_zero, List.set_cons_succ]
      refine wpAnyH_take (i := 5) (oi := { dst := some 22, op := Go.Op.load 3 (Go.Operand.tmp 21), type := 3, pos := "law.go:113", after := #[{ on := 4, ground := Go.Ground.data }], guard := none }) (v := ?_) rfl (by kernel_rfl) (by kernel_rfl) (by kernel_rfl) (fun _ _ _ h => h) (Or.inl ⟨by rfl, ?_⟩) hHeld ?_
      rotate_left
      · (intro wq hSw; (try dsimp only at hSw); go_simp; try (with_reducible rfl))
      try simp only [Act.put, List.setIfInBounds_toArray, List.set_cons_zero, List.set_cons_succ]
      refine wpAnyH_ready (rs := [1]) (by kernel_rfl) (by simp) ?_
      refine AllReadyH.cons (o := { dst := some 18, op := Go.Op.call { callee := Go.Callee.value (Go.Operand.func 12), args := #[Go.Operand.tmp 17], argTypes := #[26] }, type := 3, pos := "law.go:113", after := #[{ on := 0, ground := Go.Ground.data }], guard := none }) rfl (fun K hK => ?_) AllReadyH.nil
      go_simp
      refine (tokens_any t T W.drew p rate burst tok l (HP.out.b.below (Below.refl _ _).drew)).mono ?_
      rintro e w9 ⟨rfl, hw9⟩
      have hw8 := hw9.symm
      clear hw9
      subst hw8
      try dsimp only
      refine hK.out _ _ ?_ (fun hHeld => ?_)
      · exact hHeld
      clear hK K
      try simp only [Act.put, List.setIfInBounds_toArray, List.set_cons_zero, List.set_cons_succ]
      refine wpAnyH_take (i := 6) (oi := { dst := some 23, op := Go.Op.binOp Go.BinOp.eql 3 (Go.Operand.tmp 18) (Go.Operand.tmp 22) 3, type := 4, pos := "law.go:113", after := #[{ on := 1, ground := Go.Ground.data }, { on := 5, ground := Go.Ground.data }], guard := none }) (v := ?_) rfl (by kernel_rfl) (by kernel_rfl) (by kernel_rfl) (fun _ _ _ h => h) (Or.inl ⟨by rfl, ?_⟩) hHeld ?_
      rotate_left
      · (intro wq hSw; (try dsimp only at hSw); go_simp; try (with_reducible rfl))
      try simp only [Act.put, List.setIfInBounds_toArray, List.set_cons_zero, List.set_cons_succ]
      refine wpAnyH_take (i := 7) (oi := { dst := some 6, op := Go.Op.assign (Go.Operand.tmp 23), type := 4, pos := "law.go:113", after := #[{ on := 6, ground := Go.Ground.data }, { on := 1, ground := Go.Ground.chain }, { on := 0, ground := Go.Ground.phase }, { on := 1, ground := Go.Ground.phase }, { on := 2, ground := Go.Ground.phase }, { on := 3, ground := Go.Ground.phase }, { on := 4, ground := Go.Ground.phase }, { on := 5, ground := Go.Ground.phase }, { on := 6, ground := Go.Ground.phase }], guard := none }) (v := ?_) rfl (by kernel_rfl) (by kernel_rfl) (by kernel_rfl) (fun _ _ _ h => h) (Or.inl ⟨by rfl, ?_⟩) hHeld ?_
      rotate_left
      · (intro wq hSw; (try dsimp only at hSw); go_simp; try (with_reducible rfl))
      try simp only [Act.put, List.setIfInBounds_toArray, List.set_cons_zero, List.set_cons_succ]
      refine wpAnyH_done (by kernel_rfl) ?_ _
      have HBZ := hid hHeld.2
      clear hHeld
      go_wp2
      go_ret
      exact ⟨rfl, T, HP.out.below HBZ.out, HG0.out.trans (Goes.below HBZ.out)⟩
    · have e2' : (kd == 2) = false := by simpa using e2
      by_cases e3 : kd = 3
      · subst e3
        go_enter Tryz.func8, Tryz.ntmps8
        go_wp2
        generalize (w.alloc (.cells #[.int .i64 3, .int .i64 who, .int .i64 n] 56)) = W at *
        refine wp_region_held_drew (S := (fun V => V.cell? ⟨w.heap.size, 1, none⟩ = some (.int .i64 who))) (by kernel_rfl) ?_ (fun hHeld => ?_)
        · exact k1
        refine wpAnyH_take (i := 0) (oi := { dst := some 26, op := Go.Op.move (Go.Operand.tmp 0), type := 26, pos := "law.go:115", after := #[], guard := none }) (v := ?_) rfl (by kernel_rfl) (by kernel_rfl) (by kernel_rfl) (fun _ _ _ h => h) (Or.inl ⟨by rfl, ?_⟩) hHeld ?_
        rotate_left
        · (intro wq hSw; (try dsimp only at hSw); go_simp; try (with_reducible rfl))
        try simp only [Act.put, List.setIfInBounds_toArray, List.set_cons_zero, List.set_cons_succ]
        refine wpAnyH_take (i := 1) (oi := { dst := some 27, op := Go.Op.fieldAddr 56 (Go.Operand.tmp 5) 1, type := 0, pos := "law.go:115", after := #[], guard := none }) (v := ?_) rfl (by kernel_rfl) (by kernel_rfl) (by kernel_rfl) (fun _ _ _ h => h) (Or.inl ⟨by rfl, ?_⟩) hHeld ?_
        rotate_left
        · (intro wq hSw; (try dsimp only at hSw); go_simp; try (with_reducible rfl))
        try simp only [Act.put, List.setIfInBounds_toArray, List.set_cons_zero, List.set_cons_succ]
        refine wpAnyH_take (i := 2) (oi := { dst := some 28, op := Go.Op.load 3 (Go.Operand.tmp 27), type := 3, pos := "law.go:115", after := #[{ on := 1, ground := Go.Ground.data }], guard := none }) (v := ?_) rfl (by kernel_rfl) (by kernel_rfl) (by kernel_rfl) (fun _ _ _ h => h) (Or.inl ⟨by rfl, ?_⟩) hHeld ?_
        rotate_left
        · (intro wq hSw; (try dsimp only at hSw); go_simp; try (with_reducible rfl))
        try simp only [Act.put, List.setIfInBounds_toArray, List.set_cons_zero, List.set_cons_succ]
        refine wpAnyH_take (i := 4) (oi := { dst := some 30, op := Go.Op.move (Go.Operand.tmp 1), type := 29, pos := "law.go:115", after := #[], guard := none }) (v := ?_) rfl (by kernel_rfl) (by kernel_rfl) (by kernel_rfl) (fun _ _ _ h => h) (Or.inl ⟨by rfl, ?_⟩) hHeld ?_
        rotate_left
        · (intro wq hSw; (try dsimp only at hSw); go_simp; try (with_reducible rfl))
        try simp only [Act.put, List.setIfInBounds_toArray, List.set_cons_zero, List.set_cons_succ]
        refine wpAnyH_take (i := 5) (oi := { dst := some 31, op := Go.Op.fieldAddr 56 (Go.Operand.tmp 5) 1, type := 0, pos := "law.go:115", after := #[], guard := none }) (v := ?_) rfl (by kernel_rfl) (by kernel_rfl) (by kernel_rfl) (fun _ _ _ h => h) (Or.inl ⟨by rfl, ?_⟩) hHeld ?_
        rotate_left
        · (intro wq hSw; (try dsimp only at hSw); go_simp; try (with_reducible rfl))
        try simp only [Act.put, List.setIfInBounds_toArray, List.set_cons_zero, List.set_cons_succ]
        refine wpAnyH_take (i := 6) (oi := { dst := some 32, op := Go.Op.load 3 (Go.Operand.tmp 31), type := 3, pos := "law.go:115", after := #[{ on := 5, ground := Go.Ground.data }], guard := none }) (v := ?_) rfl (by kernel_rfl) (by kernel_rfl) (by kernel_rfl) (fun _ _ _ h => h) (Or.inl ⟨by rfl, ?_⟩) hHeld ?_
        rotate_left
        · (intro wq hSw; (try dsimp only at hSw); go_simp; try (with_reducible rfl))
        try simp only [Act.put, List.setIfInBounds_toArray, List.set_cons_zero, List.set_cons_succ]
        refine wpAnyH_ready (rs := [3]) (by kernel_rfl) (by simp) ?_
        refine AllReadyH.cons (o := { dst := some 29, op := Go.Op.call { callee := Go.Callee.value (Go.Operand.func 20), args := #[Go.Operand.tmp 26, Go.Operand.tmp 28], argTypes := #[26, 3] }, type := 4, pos := "law.go:115", after := #[{ on := 0, ground := Go.Ground.data }, { on := 2, ground := Go.Ground.data }], guard := none }) rfl (fun K hK => ?_) AllReadyH.nil
        go_simp
        refine (may_any t T W.drew p rate burst tok l who (HP.out.b.below (Below.refl _ _).drew) (by omega)).mono ?_
        rintro e w1 ⟨rfl, T1, hb1, hg1⟩
        have H1 := hid (And.intro hb1 (And.intro ((Goes.below (T := T) (t := bkT t) (Below.refl _ _).drew).trans hg1) True.intro))
        clear hb1 hg1
        try dsimp only
        refine hK.out _ _ ?_ (fun hHeld => ?_)
        · first | exact ((hg2.cell (b := w.heap.size) (j := 1) (Nat.lt_of_lt_of_le hbz H1.out.2.1.size) (by rw [H1.out.2.1.tag _ hbz (by rw [hT]; unfold bkT; omega), hT]; unfold rbT; omega)).trans ((HKB.out T1 w1 H1.out.2.1 1).trans k1)) | exact (HKB.out T1 w1 H1.out.2.1 1).trans k1
        clear hK K
        try simp only [Act.put, List.setIfInBounds_toArray, List.set_cons_zero, List.set_cons_succ]
        refine wpAnyH_ready (rs := [7]) (by kernel_rfl) (by simp) ?_
        refine AllReadyH.cons (o := { dst := some 33, op := Go.Op.call { callee := Go.Callee.value (Go.Operand.func 27), args := #[Go.Operand.tmp 30, Go.Operand.tmp 32], argTypes := #[29, 3] }, type := 4, pos := "law.go:115", after := #[{ on := 4, ground := Go.Ground.data }, { on := 6, ground := Go.Ground.data }, { on := 3, ground := Go.Ground.chain }], guard := none }) rfl (fun K hK => ?_) AllReadyH.nil
        go_simp
        refine (rmay_any (t + 3) T1 w1 q rate burst tok l who (HP.out.r.goes H1.out.2.1 (by unfold bkT; omega) (by unfold bkT; omega)) (by omega)).mono ?_
        rintro e w2 ⟨rfl, T2, hr2, hg2⟩
        have H2 := hid (HP.out.step H1.out.1 H1.out.2.1 hr2 hg2 (nodup_mayL HND.out))
        try dsimp only
        refine hK.out _ _ ?_ (fun hHeld => ?_)
        · first | exact ((hg2.cell (b := w.heap.size) (j := 1) (Nat.lt_of_lt_of_le hbz H1.out.2.1.size) (by rw [H1.out.2.1.tag _ hbz (by rw [hT]; unfold bkT; omega), hT]; unfold rbT; omega)).trans ((HKB.out T1 w1 H1.out.2.1 1).trans k1)) | exact (HKB.out T1 w1 H1.out.2.1 1).trans k1
        clear hK K
        try simp only [Act.put, List.setIfInBounds_toArray, List.set_cons_zero, List.set_cons_succ]
        refine wpAnyH_take (i := 8) (oi := { dst := some 34, op := Go.Op.binOp Go.BinOp.eql 4 (Go.Operand.tmp 29) (Go.Operand.tmp 33) 4, type := 4, pos := "law.go:115", after := #[{ on := 3, ground := Go.Ground.data }, { on := 7, ground := Go.Ground.data }], guard := none }) (v := ?_) rfl (by kernel_rfl) (by kernel_rfl) (by kernel_rfl) (fun _ _ _ h => h) (Or.inl ⟨by rfl, ?_⟩) hHeld ?_
        rotate_left
        · (intro wq hSw; (try dsimp only at hSw); go_simp; try (with_reducible rfl))
        try simp only [Act.put, List.setIfInBounds_toArray, List.set_cons_zero, List.set_cons_succ]
        refine wpAnyH_take (i := 9) (oi := { dst := some 6, op := Go.Op.assign (Go.Operand.tmp 34), type := 4, pos := "law.go:115", after := #[{ on := 8, ground := Go.Ground.data }, { on := 7, ground := Go.Ground.chain }, { on := 0, ground := Go.Ground.phase }, { on := 1, ground := Go.Ground.phase }, { on := 2, ground := Go.Ground.phase }, { on := 3, ground := Go.Ground.phase }, { on := 4, ground := Go.Ground.phase }, { on := 5, ground := Go.Ground.phase }, { on := 6, ground := Go.Ground.phase }, { on := 7, ground := Go.Ground.phase }, { on := 8, ground := Go.Ground.phase }], guard := none }) (v := ?_) rfl (by kernel_rfl) (by kernel_rfl) (by kernel_rfl) (fun _ _ _ h => h) (Or.inl ⟨by rfl, ?_⟩) hHeld ?_
        rotate_left
        · (intro wq hSw; (try dsimp only at hSw); go_simp; try (with_reducible rfl))
        try simp only [Act.put, List.setIfInBounds_toArray, List.set_cons_zero, List.set_cons_succ]
        refine wpAnyH_done (by kernel_rfl) ?_ _
        clear hHeld hr2 hg2
        go_wp2
        go_ret
        exact ⟨by simp, T2, H2.out.1, HG0.out.trans H2.out.2⟩
      · have e3' : (kd == 3) = false := by simpa using e3
        by_cases e4 : kd = 4
        · subst e4
          go_enter Tryz.func8, Tryz.ntmps8
          go_wp2_with (first | (go_at_call 21; go_loud (refine (take_any t T _ p rate burst tok l who n HP.out.b (by omega) HNR.out).mono ?_; rintro e w1 ⟨rfl, T1, hb1, hg1⟩; have H1 := hid (And.intro hb1 hg1); have m1 := (HKB.out T1 w1 hg1 1).trans k1; have m2 := (HKB.out T1 w1 hg1 2).trans k2; clear hb1 hg1)) | (go_at_call 28; go_loud (refine (rtake_any (t + 3) T1 w1 q rate burst tok l who n (HP.out.r.goes H1.out.2 (by unfold bkT; omega) (by unfold bkT; omega)) (by omega) HNR.out).mono ?_; rintro e w2 ⟨rfl, T2, hr2, hg2⟩; have H2 := hid (HP.out.step H1.out.1 H1.out.2 (HLF.out ▸ hr2) hg2 (nodup_leave HND.out)); clear hr2 hg2)))
          go_ret
          exact ⟨rfl, T2, H2.out.1, HG0.out.trans H2.out.2⟩
        · have e4' : (kd == 4) = false := by simpa using e4
          by_cases e5 : kd = 5
          · subst e5
            go_enter Tryz.func8, Tryz.ntmps8
            go_wp2_with (first | (go_at_call 29; go_loud (refine (bleave_any t T _ p rate burst tok l who HP.out.b (by omega)).mono ?_; rintro e w1 ⟨rfl, T1, hb1, hg1⟩; have H1 := hid (And.intro hb1 hg1); have m1 := (HKB.out T1 w1 hg1 1).trans k1; clear hb1 hg1)) | (go_at_call 30; go_loud (refine (rbleave_any (t + 3) T1 w1 q rate burst tok l who (HP.out.r.goes H1.out.2 (by unfold bkT; omega) (by unfold bkT; omega)) (by omega)).mono ?_; rintro e w2 ⟨rfl, T2, hr2, hg2⟩; have H2 := hid (HP.out.step H1.out.1 H1.out.2 (HLF.out ▸ hr2) hg2 (nodup_leave HND.out)); clear hr2 hg2)))
            go_ret
            exact ⟨rfl, T2, H2.out.1, HG0.out.trans H2.out.2⟩
          · have e5' : (kd == 5) = false := by simpa using e5
            have HS : Hid (stT rate burst kd n tok = tok ∧ stL kd who tok l = l) := hid ⟨by unfold stT; rw [if_neg e1, if_neg e4], by unfold stL; rw [if_neg e3, if_neg (by omega)]⟩
            by_cases e6 : kd = 6
            · subst e6
              obtain ⟨aR, cR, k3, _, hiR, _, _⟩ := HP.out.r.form
              have HIR := hid hiR
              clear hiR
              go_enter Tryz.func8, Tryz.ntmps8
              go_wp2
              generalize (w.alloc (.cells #[.int .i64 6, .int .i64 who, .int .i64 n] 56)) = W at *
              refine wp_region_held_drew (S := (fun V => V.cell? ⟨q, 3, none⟩ = some (.slice aR l.length cR) ∧ Below W.heap.size W V)) (by kernel_rfl) ?_ (fun hHeld => ?_)
              · exact ⟨k3, (Below.refl _ _).drew⟩
              refine wpAnyH_take (i := 0) (oi := { dst := some 61, op := Go.Op.move (Go.Operand.tmp 0), type := 26, pos := "law.go:123", after := #[], guard := none }) (v := ?_) rfl (by kernel_rfl) (by kernel_rfl) (by kernel_rfl) (fun _ _ _ h => h) (Or.inl ⟨by rfl, ?_⟩) hHeld ?_
              rotate_left
              · (intro wq hSw; (try dsimp only at hSw); go_simp; try (with_reducible rfl))
              try simp only [Act.put, List.setIfInBounds_toArray, List.set_cons_zero, List.set_cons_succ]
              refine wpAnyH_take (i := 2) (oi := { dst := some 63, op := Go.Op.move (Go.Operand.tmp 1), type := 29, pos := "law.go:123", after := #[], guard := none }) (v := ?_) rfl (by kernel_rfl) (by kernel_rfl) (by kernel_rfl) (fun _ _ _ h => h) (Or.inl ⟨by rfl, ?_⟩) hHeld ?_
              rotate_left
              · (intro wq hSw; (try dsimp only at hSw); go_simp; try (with_reducible rfl))
              try simp only [Act.put, List.setIfInBounds_toArray, List.set_cons_zero, List.set_cons_succ]
              refine wpAnyH_take (i := 3) (oi := { dst := some 64, op := Go.Op.nilCheck (Go.Operand.tmp 63), type := 0, pos := "law.go:123", after := #[{ on := 2, ground := Go.Ground.data }], guard := none }) (v := ?_) rfl (by kernel_rfl) (by kernel_rfl) (by kernel_rfl) (fun _ _ _ h => h) (Or.inl ⟨by rfl, ?_⟩) hHeld ?_
              rotate_left
              · (intro wq hSw; (try dsimp only at hSw); go_simp; try (with_reducible rfl))
              try simp only [Act.put, List.setIfInBounds_toArray, List.set_cons_zero, List.set_cons_succ]
              refine wpAnyH_take (i := 4) (oi := { dst := some 65, op := Go.Op.fieldAddr 60 (Go.Operand.tmp 64) 3, type := 0, pos := "law.go:123", after := #[{ on := 3, ground := Go.Ground.data }], guard := none }) (v := ?_) rfl (by kernel_rfl) (by kernel_rfl) (by kernel_rfl) (fun _ _ _ h => h) (Or.inl ⟨by rfl, ?_⟩) hHeld ?_
              rotate_left
              · (intro wq hSw; (try dsimp only at hSw); go_simp; try (with_reducible rfl))
              try simp only [Act.put, List.setIfInBounds_toArray, List.set_cons_zero, List.set_cons_succ]
              refine wpAnyH_take (i := 5) (oi := { dst := some 66, op := Go.Op.load 33 (Go.Operand.tmp 65), type := 33, pos := "law.go:123", after := #[{ on := 4, ground := Go.Ground.data }], guard := none }) (v := ?_) rfl (by kernel_rfl) (by kernel_rfl) (by kernel_rfl) (fun _ _ _ h => h) (Or.inl ⟨by rfl, ?_⟩) hHeld ?_
              rotate_left
              · (intro wq hSw; (try dsimp only at hSw); go_simp; try (with_reducible rfl))
              try simp only [Act.put, List.setIfInBounds_toArray, List.set_cons_zero, List.set_cons_succ]
              refine wpAnyH_ready (rs := [1]) (by kernel_rfl) (by simp) ?_
              refine AllReadyH.cons (o := { dst := some 62, op := Go.Op.call { callee := Go.Callee.value (Go.Operand.func 9), args := #[Go.Operand.tmp 61], argTypes := #[26] }, type := 33, pos := "law.go:123", after := #[{ on := 0, ground := Go.Ground.data }], guard := none }) rfl (fun K hK => ?_) AllReadyH.nil
              go_simp
              refine (line_any t T W.drew p rate burst tok l (HP.out.b.below (Below.refl _ _).drew) (by omega)).mono ?_
              rintro e w9 ⟨a9, c9, rfl, ho9, hb9⟩
              have HB9 : Hid (Below W.heap.size W w9) := (Below.refl _ _).drew.trans hb9
              have HI9 := hid (isI_owns ho9 rfl)
              clear ho9 hb9
              try dsimp only
              refine hK.out _ _ ?_ (fun hHeld => ?_)
              · first | exact ⟨(HB9.out.cell (p := ⟨q, 3, none⟩) HP.out.r.lt).trans k3, HB9.out⟩ | exact ⟨(HBA.out.cell (p := ⟨q, 3, none⟩) HP.out.r.lt).trans k3, HBA.out⟩
              clear hK K
              try simp only [Act.put, List.setIfInBounds_toArray, List.set_cons_zero, List.set_cons_succ]
              refine wpAnyH_ready (rs := [6]) (by kernel_rfl) (by simp) ?_
              refine AllReadyH.cons (o := { dst := some 67, op := Go.Op.call { callee := Go.Callee.value (Go.Operand.func 10), args := #[Go.Operand.tmp 62, Go.Operand.tmp 66], argTypes := #[33, 33] }, type := 4, pos := "law.go:123", after := #[{ on := 1, ground := Go.Ground.data }, { on := 5, ground := Go.Ground.data }, { on := 1, ground := Go.Ground.chain }], guard := none }) rfl (fun K hK => ?_) AllReadyH.nil
              go_simp
              refine (sameInts_true a9 aR c9 cR l.length l w9 HI9.out (HIR.out.below HB9.out) rfl (by omega)).mono ?_
              rintro e wA ⟨rfl, nA, hwA⟩
              have HBA : Hid (Below W.heap.size W wA) := by rw [hwA]; exact below_drewN HB9.out nA
              try dsimp only
              refine hK.out _ _ ?_ (fun hHeld => ?_)
              · exact ⟨(HBA.out.cell (p := ⟨q, 3, none⟩) HP.out.r.lt).trans k3, HBA.out⟩
              clear hK K
              try simp only [Act.put, List.setIfInBounds_toArray, List.set_cons_zero, List.set_cons_succ]
              refine wpAnyH_take (i := 7) (oi := { dst := some 6, op := Go.Op.assign (Go.Operand.tmp 67), type := 4, pos := "law.go:123", after := #[{ on := 6, ground := Go.Ground.data }, { on := 6, ground := Go.Ground.chain }, { on := 0, ground := Go.Ground.phase }, { on := 1, ground := Go.Ground.phase }, { on := 2, ground := Go.Ground.phase }, { on := 3, ground := Go.Ground.phase }, { on := 4, ground := Go.Ground.phase }, { on := 5, ground := Go.Ground.phase }, { on := 6, ground := Go.Ground.phase }], guard := none }) (v := ?_) rfl (by kernel_rfl) (by kernel_rfl) (by kernel_rfl) (fun _ _ _ h => h) (Or.inl ⟨by rfl, ?_⟩) hHeld ?_
              rotate_left
              · (intro wq hSw; (try dsimp only at hSw); go_simp; try (with_reducible rfl))
              try simp only [Act.put, List.setIfInBounds_toArray, List.set_cons_zero, List.set_cons_succ]
              refine wpAnyH_done (by kernel_rfl) ?_ _
              clear hHeld
              go_wp2
              go_ret
              refine ⟨rfl, T, ?_, HG0.out.trans (Goes.below HBA.out)⟩
              rw [HS.out.1, HS.out.2]
              exact HP.out.below HBA.out
            · have e6' : (kd == 6) = false := by simpa using e6
              go_enter Tryz.func8, Tryz.ntmps8
              go_wp2
              go_ret
              refine ⟨rfl, T, ?_, HG0.out⟩
              rw [HS.out.1, HS.out.2]
              exact HP.out

end Pcm
end Go.Proofs.YtebfokjgeknciabGreatDoor
