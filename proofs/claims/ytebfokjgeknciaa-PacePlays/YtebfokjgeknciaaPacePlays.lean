import Derived.Test.YtebfokjgeknciaaRows
import Derived.Test.YtebfokjgeknciaaOpP
import Derived.Test.YtebfokjgeknciaaPq4
import Derived.WalkKit
import Derived.ProofKit
import Derived.OpenShut
import Derived.ShutString
import Derived.SizedLaws
import Derived.Below
namespace Go.Proofs.Ytebfokjgeknciaa
namespace PacePlays
open Irw Lin Laws Go.ChangeShapes Go.WideShapes Go.ChangeAt Go.RowKit Pcm
open Go.ChangeMaps (open_string shut_string)
set_option linter.unusedVariables false
set_option maxRecDepth 100000

/-- what holds behind every operation may grow on the way -/
theorem wpAnyH_more {P : Program} {md : Region.Mode} {ops : Array Oper} {Q : Exit → Act → World → Prop} {S S' : World → Prop} (hs : ∀ w, S' w → S w) : ∀ (fuel : Nat) (listed : Array Bool) (a : Act) (w : World), wpAnyH P md ops Q S' fuel listed a w → wpAnyH P md ops Q S fuel listed a w
  | 0, _, _, _, h => h
  | fuel + 1, _, _, _, h => ⟨h.1, fun i hi => wpOp_mono (fun a' w' h' => ⟨hs _ h'.1, wpAnyH_more hs fuel _ a' w' h'.2⟩) (h.2 i hi)⟩
theorem len_stL {l : List Int} {k : Nat} {kd who tok : Int} (h : l.length ≤ k) : (stL kd who tok l).length ≤ k + 1 := by
  unfold stL
  split
  · exact Nat.le_trans (len_mayL tok l who) (by omega)
  · split
    · exact Nat.le_trans (len_leave l who) (by omega)
    · omega
set_option maxHeartbeats 8000000 in
theorem walk (rate burst : Int) (hr : R64 rate) (hb : R64 burst) (a : Option Addr) (c : Nat) (sc : List OpP) (w : World) (ha : IsOpP w a sc) :
    Calls Try.prog 8 #[.int .i64 rate, .int .i64 burst, .slice a sc.length c] w fun e w' => e = .returned (.bool true) ∧ Below w.heap.size w w' := by
  have HA : Hid (IsOpP w a sc) := ha
  have HRB : Hid (R64 rate ∧ R64 burst) := ⟨hr, hb⟩
  clear ha hr hb
  have hk := known_any w
  by_cases hs : sc.length ≤ 2000
  case neg =>
    have hs' : (2000 : Int) < (sc.length : Int) := by omega
    go_enter Try.func8, Try.ntmps8
    go_wp2_with (go_at_call 9; go_loud (refine hk.mono ?_; rintro e w1 ⟨rfl, hb1⟩; have HB1 : Hid (Below w.heap.size w w1) := hb1; clear hb1))
    go_ret
    exact ⟨rfl, HB1.out⟩
  have hs' : ¬ (2000 : Int) < (sc.length : Int) := by omega
  go_enter Try.func8, Try.ntmps8
  go_upto_region 4 with (go_at_call 9; go_loud (refine hk.mono ?_; rintro e w1 ⟨rfl, hb1⟩; have HB1 : Hid (Below w.heap.size w w1) := hb1; clear hb1))
  clear hk hs'
  have HN : Calls Try.prog 36 #[.int .i64 rate, .int .i64 burst] w1 _ := newBucket_any 1 (fun _ => 0) rate burst HRB.out.1 HRB.out.2 w1 (fun _ _ => rfl)
  have HRN : ∀ T V, Calls Try.prog 37 #[.int .i64 rate, .int .i64 burst] V _ := fun T V => rnew_any 4 T rate burst HRB.out.1 HRB.out.2 V
  have HO1 : Hid (Old w1 (fun _ => 0) w1) := Old.first w1
  clear HRB
  go_wp2_with (first | (go_at_call 36; go_loud (refine HN.mono ?_; rintro e w2 ⟨p, T2, rfl, hk2, hg2, hb2⟩; have HK2 := hid hk2; have HO2 : Hid (Old w1 T2 w2) := HO1.out.goes hg2 (fun z => z); clear hk2 hg2 hb2)) | (go_at_call 37; go_loud (refine (HRN T2 w2).mono ?_; rintro e w3 ⟨q, T3, rfl, hk3, hg3, hb3⟩; have HP3 : Hid (Pq 1 T3 w3 p q (max rate 0) (max burst 0) (max burst 0) []) := ⟨HK2.out.goes hg3 (fun z => z) (fun z => z) (fun z => z), hk3, List.nodup_nil⟩; have HO3 : Hid (Old w1 T3 w3) := HO2.out.goes hg3 (fun z => z); clear hk3 hg3 hb3)))
  clear HN HRN HO1 HK2 HO2
  obtain ⟨R, hR⟩ : ∃ R, max rate 0 = R := ⟨_, rfl⟩
  obtain ⟨B, hB⟩ : ∃ B, max burst 0 = B := ⟨_, rfl⟩
  rw [hR, hB] at HP3
  clear hR hB
  go_loopw [10] (fun i wr => ∃ (k : Nat) (T : Nat → Nat) (tok : Int) (l : List Int), k ≤ sc.length ∧ i = .int .i64 (k : Int) ∧ l.length ≤ k ∧ Hid (Pq 1 T wr p q R B tok l) ∧ Hid (Old w1 T wr)) (fun i _ => sc.length - (intOf i).toNat)
  case atStart => exact ⟨0, T3, B, [], Nat.zero_le _, rfl, by simp, HP3, HO3⟩
  case round =>
    clear HP3 HO3
    obtain ⟨k, T, tok, l, hk, rfl, hl, HP, HO⟩ := hrel
    by_cases hlt : k < sc.length
    · have hq : (k : Int) < (sc.length : Int) := by omega
      have hne : sc ≠ [] := by rintro rfl; simp at hlt
      obtain ⟨b, o, rfl, hb, hrow⟩ := HA.out hne
      obtain ⟨⟨kd, who, n⟩, hx⟩ : ∃ x, sc[k]? = some x := ⟨_, List.getElem?_eq_getElem hlt⟩
      obtain ⟨⟨c0, c1, c2⟩, hrw, hrn⟩ := hrow k _ hx
      have hb1 : b < w1.heap.size := Nat.lt_of_lt_of_le hb HB1.out.size
      have KB : Hid (∀ V, Below w1.heap.size w1 V → V.cell? ⟨b, o + k * 3, none⟩ = some (.int .i64 kd) ∧ V.cell? ⟨b, o + k * 3 + 1, none⟩ = some (.int .i64 who) ∧ V.cell? ⟨b, o + k * 3 + 2, none⟩ = some (.int .i64 n)) := hid fun V hV => ⟨(hV.cell (p := ⟨b, o + k * 3, none⟩) hb1).trans ((HB1.out.cell (p := ⟨b, o + k * 3, none⟩) hb).trans c0), (hV.cell (p := ⟨b, o + k * 3 + 1, none⟩) hb1).trans ((HB1.out.cell (p := ⟨b, o + k * 3 + 1, none⟩) hb).trans c1), (hV.cell (p := ⟨b, o + k * 3 + 2, none⟩) hb1).trans ((HB1.out.cell (p := ⟨b, o + k * 3 + 2, none⟩) hb).trans c2)⟩
      have w4 : IntKind.i64.wrap ((k : Int) + 1) = (k : Int) + 1 := IntWalk.i64_in _ (by omega)
      have HRNN := hid hrn
      clear c0 c1 c2 hx hne hrow hrw hrn
      have hBD : Below w1.heap.size w1 wr.drew := HO.out.below.drew
      have HPD : Hid (Pq 1 T wr.drew p q R B tok l) := HP.out.below (Below.refl _ _).drew
      have HOD : Hid (Old w1 T wr.drew) := HO.out.goes (Goes.below (t := fun _ => False) (Below.refl _ _).drew) (fun z => z)
      have hT0 : T wr.drew.heap.size = 0 := HOD.out.zero _ (.inr (Nat.le_refl _))
      have HDO : Hid (Calls Try.prog 38 #[.pointer (some ⟨p, 0, none⟩), .pointer (some ⟨q, 0, none⟩), .agg #[.int .i64 kd, .int .i64 who, .int .i64 n]] wr.drew fun e w' => DoIs 1 T wr.drew p q R B tok l kd who n e w') := does_any 1 T wr.drew p q R B tok l kd who n HRNN.out HPD.out (by omega) hT0 (by omega)
      have hKS := KB.out _ hBD
      clear hT0 hBD
      go_wp2
      refine wp_region_held_drew (S := (fun V => V.cell? ⟨b, o + k * 3, none⟩ = some (.int .i64 kd) ∧ V.cell? ⟨b, o + k * 3 + 1, none⟩ = some (.int .i64 who) ∧ V.cell? ⟨b, o + k * 3 + 2, none⟩ = some (.int .i64 n))) (by kernel_rfl) ?_ (fun hHeld => ?_)
      · exact hKS
      refine wpAnyH_take (i := 0) (oi := { dst := some 34, op := Go.Op.move (Go.Operand.tmp 8), type := 39, pos := "law.go:140", after := #[], guard := none }) (v := ?_) rfl (by kernel_rfl) (by kernel_rfl) (by kernel_rfl) (fun _ _ _ h => h) (Or.inl ⟨by rfl, ?_⟩) hHeld ?_
      rotate_left
      · (intro wq hSw; (try dsimp only at hSw); go_simp; try (with_reducible rfl))
      try simp only [Act.put, List.setIfInBounds_toArray, List.set_cons_zero, List.set_cons_succ]
      refine wpAnyH_take (i := 1) (oi := { dst := some 35, op := Go.Op.move (Go.Operand.tmp 9), type := 41, pos := "law.go:140", after := #[], guard := none }) (v := ?_) rfl (by kernel_rfl) (by kernel_rfl) (by kernel_rfl) (fun _ _ _ h => h) (Or.inl ⟨by rfl, ?_⟩) hHeld ?_
      rotate_left
      · (intro wq hSw; (try dsimp only at hSw); go_simp; try (with_reducible rfl))
      try simp only [Act.put, List.setIfInBounds_toArray, List.set_cons_zero, List.set_cons_succ]
      refine wpAnyH_take (i := 2) (oi := { dst := some 36, op := Go.Op.move (Go.Operand.tmp 2), type := 38, pos := "law.go:140", after := #[], guard := none }) (v := ?_) rfl (by kernel_rfl) (by kernel_rfl) (by kernel_rfl) (fun _ _ _ h => h) (Or.inl ⟨by rfl, ?_⟩) hHeld ?_
      rotate_left
      · (intro wq hSw; (try dsimp only at hSw); go_simp; try (with_reducible rfl))
      try simp only [Act.put, List.setIfInBounds_toArray, List.set_cons_zero, List.set_cons_succ]
      refine wpAnyH_take (i := 3) (oi := { dst := some 37, op := Go.Op.move (Go.Operand.tmp 10), type := 3, pos := "law.go:140", after := #[], guard := none }) (v := ?_) rfl (by kernel_rfl) (by kernel_rfl) (by kernel_rfl) (fun _ _ _ h => h) (Or.inl ⟨by rfl, ?_⟩) hHeld ?_
      rotate_left
      · (intro wq hSw; (try dsimp only at hSw); go_simp; try (with_reducible rfl))
      try simp only [Act.put, List.setIfInBounds_toArray, List.set_cons_zero, List.set_cons_succ]
      refine wpAnyH_take (i := 4) (oi := { dst := some 38, op := Go.Op.indexAddr 38 (Go.Operand.tmp 36) (Go.Operand.tmp 37), type := 0, pos := "law.go:140", after := #[{ on := 2, ground := Go.Ground.data }, { on := 3, ground := Go.Ground.data }], guard := none }) (v := ?_) rfl (by kernel_rfl) (by kernel_rfl) (by kernel_rfl) (fun _ _ _ h => h) (Or.inl ⟨by rfl, ?_⟩) hHeld ?_
      rotate_left
      · (intro wq hSw; (try dsimp only at hSw); go_simp; try (with_reducible rfl))
      try simp only [Act.put, List.setIfInBounds_toArray, List.set_cons_zero, List.set_cons_succ]
      refine wpAnyH_take (i := 5) (oi := { dst := some 39, op := Go.Op.load 45 (Go.Operand.tmp 38), type := 45, pos := "law.go:140", after := #[{ on := 4, ground := Go.Ground.data }], guard := none }) (v := ?_) rfl (by kernel_rfl) (by kernel_rfl) (by kernel_rfl) (fun _ _ _ h => h) (Or.inl ⟨by rfl, ?_⟩) hHeld ?_
      rotate_left
      · (intro wq hSw; (try dsimp only at hSw); go_simp; try (with_reducible rfl))
      try simp only [Act.put, List.setIfInBounds_toArray, List.set_cons_zero, List.set_cons_succ]
      refine wpAnyH_ready (rs := [6]) (by kernel_rfl) (by simp) ?_
      refine AllReadyH.cons (o := { dst := some 40, op := Go.Op.call { callee := Go.Callee.value (Go.Operand.func 38), args := #[Go.Operand.tmp 34, Go.Operand.tmp 35, Go.Operand.tmp 39], argTypes := #[39, 41, 45] }, type := 4, pos := "law.go:140", after := #[{ on := 0, ground := Go.Ground.data }, { on := 1, ground := Go.Ground.data }, { on := 5, ground := Go.Ground.data }], guard := none }) rfl (fun K hK => ?_) AllReadyH.nil
      go_simp
      refine HDO.out.mono ?_
      rintro e w5 ⟨rfl, T5, hp5, hg5⟩
      have HP5 := hid hp5
      have HO5 : Hid (Old w1 T5 w5) := HOD.out.goes hg5 (by unfold pqT; omega)
      have hcN := hp5.r.c2
      clear hp5 hg5
      try dsimp only
      refine hK.out _ _ ?_ (fun hHeld => ?_)
      · first | exact KB.out _ HO5.out.below | exact hHeld
      clear hK K
      refine wpAnyH_more (S' := (fun V : World => (V.cell? ⟨b, o + k * 3, none⟩ = some (.int .i64 kd) ∧ V.cell? ⟨b, o + k * 3 + 1, none⟩ = some (.int .i64 who) ∧ V.cell? ⟨b, o + k * 3 + 2, none⟩ = some (.int .i64 n)) ∧ V.cell? ⟨q, 2, none⟩ = some (.int .i64 (stT R B kd n tok)))) (fun _ h => h.1) _ _ _ _ ?_
      replace hHeld : ((fun V : World => (V.cell? ⟨b, o + k * 3, none⟩ = some (.int .i64 kd) ∧ V.cell? ⟨b, o + k * 3 + 1, none⟩ = some (.int .i64 who) ∧ V.cell? ⟨b, o + k * 3 + 2, none⟩ = some (.int .i64 n)) ∧ V.cell? ⟨q, 2, none⟩ = some (.int .i64 (stT R B kd n tok)))) _ := ⟨hHeld, hcN⟩
      try simp only [Act.put, List.setIfInBounds_toArray, List.set_cons_zero, List.set_cons_succ]
      refine wpAnyH_take (i := 7) (oi := { dst := some 41, op := Go.Op.unOp Go.UnOp.not 4 (Go.Operand.tmp 40), type := 4, pos := "law.go:140", after := #[{ on := 6, ground := Go.Ground.data }], guard := none }) (v := ?_) rfl (by kernel_rfl) (by kernel_rfl) (by kernel_rfl) (fun _ _ _ h => h) (Or.inl ⟨by rfl, ?_⟩) hHeld ?_
      rotate_left
      · (intro wq hSw; (try dsimp only at hSw); go_simp; try (with_reducible rfl))
      try simp only [Act.put, List.setIfInBounds_toArray, List.set_cons_zero, List.set_cons_succ]
      refine wpAnyH_take (i := 8) (oi := { dst := some 42, op := Go.Op.move (Go.Operand.tmp 41), type := 4, pos := "law.go:140", after := #[{ on := 7, ground := Go.Ground.data }, { on := 6, ground := Go.Ground.chain }], guard := none }) (v := ?_) rfl (by kernel_rfl) (by kernel_rfl) (by kernel_rfl) (fun _ _ _ h => h) (Or.inl ⟨by rfl, ?_⟩) hHeld ?_
      rotate_left
      · (intro wq hSw; (try dsimp only at hSw); go_simp; try (with_reducible rfl))
      try simp only [Act.put, List.setIfInBounds_toArray, List.set_cons_zero, List.set_cons_succ]
      refine wpAnyH_take (i := 9) (oi := { dst := some 43, op := Go.Op.move (Go.Operand.tmp 8), type := 39, pos := "law.go:140", after := #[{ on := 8, ground := Go.Ground.guard }], guard := some (8, false) }) (v := ?_) rfl (by kernel_rfl) (by kernel_rfl) (by kernel_rfl) (fun _ _ _ h => h) (Or.inl ⟨by rfl, ?_⟩) hHeld ?_
      rotate_left
      · (intro wq hSw; (try dsimp only at hSw); go_simp; try (with_reducible rfl))
      try simp only [Act.put, List.setIfInBounds_toArray, List.set_cons_zero, List.set_cons_succ]
      refine wpAnyH_take (i := 11) (oi := { dst := some 45, op := Go.Op.move (Go.Operand.tmp 9), type := 41, pos := "law.go:140", after := #[{ on := 8, ground := Go.Ground.guard }], guard := some (8, false) }) (v := ?_) rfl (by kernel_rfl) (by kernel_rfl) (by kernel_rfl) (fun _ _ _ h => h) (Or.inl ⟨by rfl, ?_⟩) hHeld ?_
      rotate_left
      · (intro wq hSw; (try dsimp only at hSw); go_simp; try (with_reducible rfl))
      try simp only [Act.put, List.setIfInBounds_toArray, List.set_cons_zero, List.set_cons_succ]
      refine wpAnyH_take (i := 12) (oi := { dst := some 46, op := Go.Op.nilCheck (Go.Operand.tmp 45), type := 0, pos := "law.go:140", after := #[{ on := 11, ground := Go.Ground.data }, { on := 8, ground := Go.Ground.guard }], guard := some (8, false) }) (v := ?_) rfl (by kernel_rfl) (by kernel_rfl) (by kernel_rfl) (fun _ _ _ h => h) (Or.inl ⟨by rfl, ?_⟩) hHeld ?_
      rotate_left
      · (intro wq hSw; (try dsimp only at hSw); go_simp; try (with_reducible rfl))
      try simp only [Act.put, List.setIfInBounds_toArray, List.set_cons_zero, List.set_cons_succ]
      refine wpAnyH_take (i := 13) (oi := { dst := some 47, op := Go.Op.fieldAddr 49 (Go.Operand.tmp 46) 2, type := 0, pos := "law.go:140", after := #[{ on := 12, ground := Go.Ground.data }, { on := 8, ground := Go.Ground.guard }], guard := some (8, false) }) (v := ?_) rfl (by kernel_rfl) (by kernel_rfl) (by kernel_rfl) (fun _ _ _ h => h) (Or.inl ⟨by rfl, ?_⟩) hHeld ?_
      rotate_left
      · (intro wq hSw; (try dsimp only at hSw); go_simp; try (with_reducible rfl))
      try simp only [Act.put, List.setIfInBounds_toArray, List.set_cons_zero, List.set_cons_succ]
      refine wpAnyH_take (i := 14) (oi := { dst := some 48, op := Go.Op.load 3 (Go.Operand.tmp 47), type := 3, pos := "law.go:140", after := #[{ on := 13, ground := Go.Ground.data }, { on := 8, ground := Go.Ground.guard }], guard := some (8, false) }) (v := ?_) rfl (by kernel_rfl) (by kernel_rfl) (by kernel_rfl) (fun _ _ _ h => h) (Or.inl ⟨by rfl, ?_⟩) hHeld ?_
      rotate_left
      · (intro wq hSw; (try dsimp only at hSw); go_simp; try (with_reducible rfl))
      try simp only [Act.put, List.setIfInBounds_toArray, List.set_cons_zero, List.set_cons_succ]
      refine wpAnyH_ready (rs := [10]) (by kernel_rfl) (by simp) ?_
      refine AllReadyH.cons (o := { dst := some 44, op := Go.Op.call { callee := Go.Callee.value (Go.Operand.func 39), args := #[Go.Operand.tmp 43], argTypes := #[39] }, type := 3, pos := "law.go:140", after := #[{ on := 9, ground := Go.Ground.data }, { on := 8, ground := Go.Ground.chain }, { on := 8, ground := Go.Ground.guard }], guard := some (8, false) }) rfl (fun K hK => ?_) AllReadyH.nil
      go_simp
      refine (tokens_any 1 T5 w5 p R B _ _ HP5.out.b).mono ?_
      rintro e w9 ⟨rfl, hw9⟩
      have hw8 := hw9.symm
      clear hw9
      subst hw8
      try dsimp only
      refine hK.out _ _ ?_ (fun hHeld => ?_)
      · first | exact KB.out _ HO5.out.below | exact hHeld
      clear hK K
      try simp only [Act.put, List.setIfInBounds_toArray, List.set_cons_zero, List.set_cons_succ]
      refine wpAnyH_take (i := 15) (oi := { dst := some 49, op := Go.Op.binOp Go.BinOp.neq 3 (Go.Operand.tmp 44) (Go.Operand.tmp 48) 3, type := 4, pos := "law.go:140", after := #[{ on := 10, ground := Go.Ground.data }, { on := 14, ground := Go.Ground.data }, { on := 8, ground := Go.Ground.guard }], guard := some (8, false) }) (v := ?_) rfl (by kernel_rfl) (by kernel_rfl) (by kernel_rfl) (fun _ _ _ h => h) (Or.inl ⟨by rfl, ?_⟩) hHeld ?_
      rotate_left
      · (intro wq hSw; (try dsimp only at hSw); go_simp; try (with_reducible rfl))
      try simp only [Act.put, List.setIfInBounds_toArray, List.set_cons_zero, List.set_cons_succ]
      refine wpAnyH_take (i := 16) (oi := { dst := some 50, op := Go.Op.pick (Go.Operand.tmp 42) (Go.Operand.const (Go.Value.bool true)) (Go.Operand.tmp 49), type := 4, pos := "law.go:140", after := #[{ on := 8, ground := Go.Ground.data }, { on := 15, ground := Go.Ground.data }], guard := none }) (v := ?_) rfl (by kernel_rfl) (by kernel_rfl) (by kernel_rfl) (fun _ _ _ h => h) (Or.inl ⟨by rfl, ?_⟩) hHeld ?_
      rotate_left
      · (intro wq hSw; (try dsimp only at hSw); go_simp; try (with_reducible rfl))
      try simp only [Act.put, List.setIfInBounds_toArray, List.set_cons_zero, List.set_cons_succ]
      refine wpAnyH_done (by kernel_rfl) ?_ _
      clear hHeld hKS hcN
      go_wp2
      go_roundw
      case rel => exact ⟨k + 1, T5, _, _, by omega, by go_num, len_stL hl, HP5, HO5⟩
      case measure => simp [intOf]; omega
    · have hge : ¬ (k : Int) < (sc.length : Int) := by omega
      obtain ⟨aR, cR, k3, _, hiR, _, _⟩ := HP.out.r.form
      have HIR := hid hiR
      clear hiR
      go_wp2
      refine wp_region_held_drew (S := (fun V => V.cell? ⟨q, 3, none⟩ = some (.slice aR l.length cR) ∧ Below wr.heap.size wr V)) (by kernel_rfl) ?_ (fun hHeld => ?_)
      · exact ⟨k3, (Below.refl _ _).drew⟩
      refine wpAnyH_take (i := 0) (oi := { dst := some 51, op := Go.Op.move (Go.Operand.tmp 8), type := 39, pos := "law.go:144", after := #[], guard := none }) (v := ?_) rfl (by kernel_rfl) (by kernel_rfl) (by kernel_rfl) (fun _ _ _ h => h) (Or.inl ⟨by rfl, ?_⟩) hHeld ?_
      rotate_left
      · (intro wq hSw; (try dsimp only at hSw); go_simp; try (with_reducible rfl))
      try simp only [Act.put, List.setIfInBounds_toArray, List.set_cons_zero, List.set_cons_succ]
      refine wpAnyH_take (i := 2) (oi := { dst := some 53, op := Go.Op.move (Go.Operand.tmp 9), type := 41, pos := "law.go:144", after := #[], guard := none }) (v := ?_) rfl (by kernel_rfl) (by kernel_rfl) (by kernel_rfl) (fun _ _ _ h => h) (Or.inl ⟨by rfl, ?_⟩) hHeld ?_
      rotate_left
      · (intro wq hSw; (try dsimp only at hSw); go_simp; try (with_reducible rfl))
      try simp only [Act.put, List.setIfInBounds_toArray, List.set_cons_zero, List.set_cons_succ]
      refine wpAnyH_take (i := 3) (oi := { dst := some 54, op := Go.Op.nilCheck (Go.Operand.tmp 53), type := 0, pos := "law.go:144", after := #[{ on := 2, ground := Go.Ground.data }], guard := none }) (v := ?_) rfl (by kernel_rfl) (by kernel_rfl) (by kernel_rfl) (fun _ _ _ h => h) (Or.inl ⟨by rfl, ?_⟩) hHeld ?_
      rotate_left
      · (intro wq hSw; (try dsimp only at hSw); go_simp; try (with_reducible rfl))
      try simp only [Act.put, List.setIfInBounds_toArray, List.set_cons_zero, List.set_cons_succ]
      refine wpAnyH_take (i := 4) (oi := { dst := some 55, op := Go.Op.fieldAddr 49 (Go.Operand.tmp 54) 3, type := 0, pos := "law.go:144", after := #[{ on := 3, ground := Go.Ground.data }], guard := none }) (v := ?_) rfl (by kernel_rfl) (by kernel_rfl) (by kernel_rfl) (fun _ _ _ h => h) (Or.inl ⟨by rfl, ?_⟩) hHeld ?_
      rotate_left
      · (intro wq hSw; (try dsimp only at hSw); go_simp; try (with_reducible rfl))
      try simp only [Act.put, List.setIfInBounds_toArray, List.set_cons_zero, List.set_cons_succ]
      refine wpAnyH_take (i := 5) (oi := { dst := some 56, op := Go.Op.load 47 (Go.Operand.tmp 55), type := 47, pos := "law.go:144", after := #[{ on := 4, ground := Go.Ground.data }], guard := none }) (v := ?_) rfl (by kernel_rfl) (by kernel_rfl) (by kernel_rfl) (fun _ _ _ h => h) (Or.inl ⟨by rfl, ?_⟩) hHeld ?_
      rotate_left
      · (intro wq hSw; (try dsimp only at hSw); go_simp; try (with_reducible rfl))
      try simp only [Act.put, List.setIfInBounds_toArray, List.set_cons_zero, List.set_cons_succ]
      refine wpAnyH_ready (rs := [1]) (by kernel_rfl) (by simp) ?_
      refine AllReadyH.cons (o := { dst := some 52, op := Go.Op.call { callee := Go.Callee.value (Go.Operand.func 41), args := #[Go.Operand.tmp 51], argTypes := #[39] }, type := 47, pos := "law.go:144", after := #[{ on := 0, ground := Go.Ground.data }], guard := none }) rfl (fun K hK => ?_) AllReadyH.nil
      go_simp
      refine (line_any 1 T wr.drew p R B tok l (HP.out.b.below (Below.refl _ _).drew) (by omega)).mono ?_
      rintro e w9 ⟨a9, c9, rfl, ho9, hb9⟩
      have HB9 : Hid (Below wr.heap.size wr w9) := (Below.refl _ _).drew.trans hb9
      have HI9 := hid (isI_owns ho9 rfl)
      clear ho9 hb9
      try dsimp only
      refine hK.out _ _ ?_ (fun hHeld => ?_)
      · first | exact ⟨(HBA.out.cell (p := ⟨q, 3, none⟩) HP.out.r.lt).trans k3, HBA.out⟩ | exact ⟨(HB9.out.cell (p := ⟨q, 3, none⟩) HP.out.r.lt).trans k3, HB9.out⟩
      clear hK K
      try simp only [Act.put, List.setIfInBounds_toArray, List.set_cons_zero, List.set_cons_succ]
      refine wpAnyH_ready (rs := [6]) (by kernel_rfl) (by simp) ?_
      refine AllReadyH.cons (o := { dst := some 57, op := Go.Op.call { callee := Go.Callee.value (Go.Operand.func 40), args := #[Go.Operand.tmp 52, Go.Operand.tmp 56], argTypes := #[47, 47] }, type := 4, pos := "law.go:144", after := #[{ on := 1, ground := Go.Ground.data }, { on := 5, ground := Go.Ground.data }, { on := 1, ground := Go.Ground.chain }], guard := none }) rfl (fun K hK => ?_) AllReadyH.nil
      go_simp
      refine (sameInts_true a9 aR c9 cR l.length l w9 HI9.out (HIR.out.below HB9.out) rfl (by omega)).mono ?_
      rintro e wA ⟨rfl, nA, hwA⟩
      have HBA : Hid (Below wr.heap.size wr wA) := by rw [hwA]; exact below_drewN HB9.out nA
      try dsimp only
      refine hK.out _ _ ?_ (fun hHeld => ?_)
      · first | exact ⟨(HBA.out.cell (p := ⟨q, 3, none⟩) HP.out.r.lt).trans k3, HBA.out⟩ | exact ⟨(HB9.out.cell (p := ⟨q, 3, none⟩) HP.out.r.lt).trans k3, HB9.out⟩
      clear hK K
      try simp only [Act.put, List.setIfInBounds_toArray, List.set_cons_zero, List.set_cons_succ]
      refine wpAnyH_take (i := 7) (oi := { dst := some 6, op := Go.Op.assign (Go.Operand.tmp 57), type := 4, pos := "law.go:144", after := #[{ on := 6, ground := Go.Ground.data }, { on := 6, ground := Go.Ground.chain }, { on := 0, ground := Go.Ground.phase }, { on := 1, ground := Go.Ground.phase }, { on := 2, ground := Go.Ground.phase }, { on := 3, ground := Go.Ground.phase }, { on := 4, ground := Go.Ground.phase }, { on := 5, ground := Go.Ground.phase }, { on := 6, ground := Go.Ground.phase }], guard := none }) (v := ?_) rfl (by kernel_rfl) (by kernel_rfl) (by kernel_rfl) (fun _ _ _ h => h) (Or.inl ⟨by rfl, ?_⟩) hHeld ?_
      rotate_left
      · (intro wq hSw; (try dsimp only at hSw); go_simp; try (with_reducible rfl))
      try simp only [Act.put, List.setIfInBounds_toArray, List.set_cons_zero, List.set_cons_succ]
      refine wpAnyH_done (by kernel_rfl) ?_ _
      clear hHeld
      go_wp2
      go_ret
      have hW := HO.out.below.trans (HBA.out.mono HO.out.below.size)
      exact ⟨rfl, HB1.out.trans (hW.mono HB1.out.size)⟩

set_option maxRecDepth 100000 in
set_option maxHeartbeats 1000000 in
theorem lifted (os : Os) (started : os.Started) (H : Type) (enc : TypeId × Value → H) :
    ReturnsInHanded {} Try.checked os 8 .any (Rows.pacePlaysSpec.pre6 enc Try.prog Try.f8 Rows.pacePlaysRow.domain false) (Rows.pacePlaysSpec.post enc Try.prog Try.f8 false true false false) := by
  refine returnsInHanded_of_change_sized (C := Try.checked) Opn.own started (by kernel_rfl) Try.func8
    (ChangeSpec.witness6 (enc := enc) (C := Try.checked) false ⟨#[], #[.int .i64 0, .int .i64 0, .slice none 0 0], []⟩ 8 (by kernel_rfl) (by kernel_rfl) (by kernel_rfl) (by kernel_rfl)) ?_
  intro W base args ds gs before hval0 hW _ hsz0 _
  have hsz : (DataW.weightsEach Try.prog (Try.f8.params.toList ++ Rows.pacePlaysSpec.plain.varTypes Try.prog) (ds ++ gs)).all (· ≤ reachBytes) = true := hsz0
  clear hsz0
  have hval : ∀ (j : Nat) t v, Try.f8.params[j]? = some t → args[j]? = some v → Value.okWide Try.prog W .any base t v := hval0
  have hW' := hW
  obtain ⟨p, q, hA0, hV, rfl, hfz, hnd⟩ := hW
  have hA : DataW.TrodAll enc Try.prog W 0 (fun _ => true) true Try.f8.params.toList args.toList ds p := hA0
  rw [Try.params8] at hA hval hsz
  obtain ⟨v0, vs0, d0, ds0, p0, q0, hargs, rfl, rfl, h0, r0⟩ := trodAll_cons hA
  obtain ⟨v1, vs1, d1, ds1, p1, q1, rfl, rfl, rfl, h1, r1⟩ := trodAll_cons r0
  obtain ⟨v2, vs2, d2, ds2, p2, q2, rfl, rfl, rfl, h2, r2⟩ := trodAll_cons r1
  obtain ⟨rfl, rfl, rfl⟩ := trodAll_nil r2
  obtain rfl : args = #[v0, v1, v2] := by cases args; simp_all
  obtain ⟨rfl, rfl⟩ := trodVars_none hV
  obtain ⟨n0, rfl, rfl, rfl, wf0⟩ := open_int Try.underlying3 (hval 0 3 v0 rfl rfl) h0
  obtain ⟨n1, rfl, rfl, rfl, wf1⟩ := open_int Try.underlying3 (hval 1 3 v1 rfl rfl) h1
  have lt2 : ∀ x ∈ p2, x.block < W.heap.size := by obtain ⟨m, hm⟩ := h2; exact DataW.trod_lt m _ _ _ hm
  obtain ⟨a2, cap2, l2, rfl, ib2⟩ := Opn.script (hval 2 38 v2 rfl rfl) h2
  clear hA0 hval0
  refine (walk n0 n1 (Opn.i64_wf wf0) (Opn.i64_wf wf1) a2 cap2 l2 W ib2).mono fun e W' ⟨he, bel⟩ => ?_
  subst he
  exact ⟨_, rfl, _, _, _, [], _, [], hW', trodAll_mk1 (shut_bool Try.underlying4 _), (trodAll_cons_mk (shut_int Try.underlying3 wf0) (trodAll_cons_mk (shut_int Try.underlying3 wf1) (trodAll_cons_mk (Below.trod Opn.laidOut (by kernel_rfl) (of_decide_eq_true (by kernel_rfl)) h2 bel lt2) trodAll_mk0))), rfl, bel.frame _, fun h => by cases h⟩
end PacePlays

theorem pacePlays_holds : Rows.PacePlaysSaid :=
  OpenClaim.holds_of_wide 8 Try.f8 rfl rfl rfl rfl rfl rfl rfl ⟨rfl, rfl, rfl, rfl, rfl⟩ rfl rfl rfl rfl rfl (by kernel_rfl) Try.func8 (by kernel_rfl)
    (of_decide_eq_true (by kernel_rfl)) (by unfold Func.isWrapper; first | (rw [if_pos (by decide +kernel)]; kernel_rfl) | (rw [if_neg (by decide +kernel)]; exact ⟨rfl, rfl⟩))
    (fun os started H enc _ => PacePlays.lifted os started H enc)
end Go.Proofs.Ytebfokjgeknciaa
