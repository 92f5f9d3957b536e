import Derived.Test.YtebfokjgeknciabGreatDoorAp1
import Derived.Test.YtebfokjgeknciabGreatDoorOpP
import Derived.Deep.Cut
import Derived.Deep.DeepCutAuto
import Derived.Deep.RegionHeld3
import Derived.WalkKit
import Derived.Below
namespace Go.Proofs.YtebfokjgeknciabGreatDoor
namespace PaceApart
open Irw Lin Laws Go.RowKit Pcm
set_option linter.unusedVariables false
set_option linter.unusedSimpArgs false
set_option maxRecDepth 100000

/-- what holds behind every operation may grow on the way -/
theorem wpAnyH_more {P : Program} {md : Region.Mode} {ops : Array Oper} {Q : Exit → Act → World → Prop} {S S' : World → Prop} (hs : ∀ w, S' w → S w) : ∀ (fuel : Nat) (listed : Array Bool) (a : Act) (w : World), wpAnyH P md ops Q S' fuel listed a w → wpAnyH P md ops Q S fuel listed a w
  | 0, _, _, _, h => h
  | fuel + 1, _, _, _, h => ⟨h.1, fun i hi => wpOp_mono (fun a' w' h' => ⟨hs _ h'.1, wpAnyH_more hs fuel _ a' w' h'.2⟩) (h.2 i hi)⟩
theorem len_stL {l : List Int} {k : Nat} {kd who tok : Int} (h : l.length ≤ k) : (stL kd who tok l).length ≤ k + 1 := by
  unfold stL
  split
  · exact Nat.le_trans (len_mayL tok l who) (by omega)
  · split
    · exact Nat.le_trans (len_leave l who) (by omega)
    · omega
theorem keepS {w V w' : World} {C : World → Prop} (hst : ∀ V, Below w.heap.size w V → Below w.heap.size w V ∧ C V) (h : Below w.heap.size w V ∧ C V) (hb : Hid (Below V.heap.size V w')) : Below w.heap.size w w' ∧ C w' := hst _ (h.1.trans (hb.out.mono h.1.size))
set_option maxHeartbeats 8000000 in
theorem walk (rate burst : Int) (hr : R64 rate) (hb : R64 burst) (a : Option Addr) (c : Nat) (sc : List OpP) (w : World) (ha : IsOpP w a sc) :
    Calls Tryz.prog 3 #[.int .i64 rate, .int .i64 burst, .slice a sc.length c] w fun e w' => e = .returned (.bool true) ∧ Below w.heap.size w w' := by
  obtain ⟨i0, hi0, hz0, hz1, hz2⟩ := info_parts infoP
  obtain ⟨j0, hj0, hy0, hy1, hy2⟩ := info_parts infoR
  have HA : Hid (IsOpP w a sc) := ha
  have HRB : Hid (R64 rate ∧ R64 burst) := ⟨hr, hb⟩
  clear ha hr hb
  have hk := known_any w
  by_cases hs : sc.length ≤ 120
  case neg =>
    have hs' : (120 : Int) < (sc.length : Int) := by omega
    go_enter Tryz.func3, Tryz.ntmps3
    go_wp2_with (go_at_call 4; go_loud (refine hk.mono ?_; rintro e w1 ⟨rfl, hb1⟩; have HB1 : Hid (Below w.heap.size w w1) := hb1; clear hb1))
    go_ret
    exact ⟨rfl, HB1.out⟩
  have hs' : decide ((120 : Int) < (sc.length : Int)) = false := by simp; omega
  go_enter Tryz.func3, Tryz.ntmps3
  go_wp2_with (go_at_call 4; go_loud (refine hk.mono ?_; rintro e w1 ⟨rfl, hb1⟩; have HB1 : Hid (Below w.heap.size w w1) := hb1; clear hb1))
  clear hk hs'
  have HA0 : Hid (A1 w1 rate burst 0 [] [] (.slice none 0 0) (.slice none 0 0) (fun _ => 0) w1) := hid ⟨rfl, rfl, Crw.OwnK.empty _ _ _, Crw.OwnK.empty _ _ _, fun i hi => by omega, Old.first w1⟩
  go_loopw [8, 9, 10] (fun v u i wr => ∃ (k : Nat) (ps qs : List Nat) (T : Nat → Nat), k ≤ 5 ∧ i = .int .i64 (k : Int) ∧ Hid (A1 w1 rate burst k ps qs v u T wr)) (fun _ _ i _ => 5 - (intOf i).toNat)
  case atStart => exact ⟨0, [], [], _, Nat.zero_le _, rfl, HA0⟩
  case round =>
    clear HA0
    obtain ⟨k, ps, qs, T, hk, rfl, HH⟩ := hrel
    by_cases hlt : k < 5
    · have hq : (k : Int) < 5 := by omega
      have w4 : IntKind.i64.wrap ((k : Int) + 1) = (k : Int) + 1 := IntWalk.i64_in _ (by omega)
      have HAD : ∀ V, Calls Tryz.prog 6 #[.int .i64 rate, .int .i64 (k : Int)] V fun e w' => e = .returned (.int .i64 (sadd rate k)) ∧ w' = V := fun V => radd_any rate k HRB.out.1 (by unfold R64; omega) V
      have HNB : Calls Tryz.prog 5 #[.int .i64 (sadd rate k), .int .i64 burst] wr _ := newBucket_any (9000010 + 5 * k) T (sadd rate k) burst (sadd_r _ _) HRB.out.2 wr (fun b hb => HH.out.old.zero b (.inr hb))
      have HRN : ∀ T V, Calls Tryz.prog 7 #[.int .i64 (sadd rate k), .int .i64 burst] V _ := fun T V => rnew_any (9000010 + 5 * k + 3) T (sadd rate k) burst (sadd_r _ _) HRB.out.2 V
      have HLL : Hid (ps.length ≤ 5 ∧ qs.length ≤ 5) := hid (by have := HH.out.lp; have := HH.out.lq; omega)
      obtain ⟨rk, hrk⟩ : ∃ rk, sadd rate k = rk := ⟨_, rfl⟩
      rw [hrk] at HAD HNB HRN
      have HRK := hid hrk
      clear hrk
      go_wp2_with (first
        | (go_at_call 6; go_loud (refine (HAD _).mono ?_; rintro e w99 ⟨rfl, hw9⟩; have hw8 := hw9.symm; clear hw9; subst hw8))
        | (go_at_call 5; go_loud (refine HNB.mono ?_; rintro e w2 ⟨p, T2, rfl, hk2, hg2, hb2⟩; have HK2 := hid hk2; have HG2 := hid hg2; clear hk2 hg2 hb2))
        | (go_at_call 7; go_loud (refine (HRN T3 w3).mono ?_; rintro e w4 ⟨q, T4, rfl, hk4, hg4, hb4⟩; have HK4 := hid hk4; have HG4 := hid hg4; clear hk4 hg4 hb4))
        | (at_builtin; (refine Crw.wpList_appK kP _ (by rfl) (.tmp 31) (.tmp 37) 24 (by rfl) i0 undP hi0 hz0 hz1 hz2 9000005 T2 _ ps (by rfl) ((HH.out.lv.goes HG2.out (fun z => z)).below ((Below.refl _ _).alloc (Nat.le_refl _) _)) (some ⟨w2.heap.size, 0, none⟩) 1 1 [p] (by rfl) (by rfl) (by simp) isP_new (by have := HLL.out; simp; omega) ?_; intro a3 c3 T3 w3 hown3 hg3; have HO3 := hid hown3; have HG3 : Hid (Goes (· = 9000005) T2 w2 T3 w3) := hid ((Goes.below ((Below.refl _ _).alloc (Nat.le_refl _) _)).trans hg3); clear hown3 hg3))
        | (at_builtin; go_loud (refine Crw.wpList_appK kR _ (by rfl) (.tmp 39) (.tmp 45) 25 (by rfl) j0 undR hj0 hy0 hy1 hy2 9000006 T4 _ qs (by rfl) ((((HH.out.lu.goes HG2.out (fun z => z)).goes HG3.out (by omega)).goes HG4.out (fun z => z)).below ((Below.refl _ _).alloc (Nat.le_refl _) _)) (some ⟨w4.heap.size, 0, none⟩) 1 1 [q] (by rfl) (by rfl) (by simp) isR_new (by have := HLL.out; simp; omega) ?_; intro a5 c5 T5 w5 hown5 hg5; have HX5 : Hid (A1 w1 rate burst (k + 1) (ps ++ [p]) (qs ++ [q]) (.slice a3 (ps.length + [p].length) c3) (.slice a5 (qs.length + [q].length) c5) T5 w5) := hid (HH.out.next (by rw [HRK.out]; exact HK2.out) HG2.out HO3.out HG3.out (by rw [HRK.out]; exact HK4.out) HG4.out hown5 ((Goes.below ((Below.refl _ _).alloc (Nat.le_refl _) _)).trans hg5)); clear hown5 hg5)))
      go_roundw
      case rel => exact ⟨k + 1, ps ++ [p], qs ++ [q], T5, by omega, by go_num, HX5⟩
      case measure => simp [intOf]; omega
    obtain rfl : k = 5 := by omega
    obtain ⟨bl, ol, cl, rfl, hpl⟩ := PtAt.of (K := kP) rfl (fun _ => rfl) HH.out.lv HH.out.lp
    obtain ⟨br, or_, cr, rfl, hpr⟩ := PtAt.of (K := kR) rfl (fun _ => rfl) HH.out.lu HH.out.lq
    have HAP : Hid (AP w1 wr.heap.size 0 ps qs rate burst bl ol br or_ (fun _ => max burst 0) (fun _ => []) (upd T wr.heap.size 1) (wr.alloc (.cells BookI.bookZ 53))) := AP.first HH.out hpl hpr
    clear hpl hpr HH hlt hk i0 hi0 hz0 hz1 hz2 j0 hj0 hy0 hy1 hy2
    go_wp2_with (refine BookI.wpList_book (by rfl) (by rfl) ?_)
    generalize (wr.alloc (.cells BookI.bookZ 53)) = W0 at *
    generalize upd T wr.heap.size 1 = T0 at *
    generalize wr.heap.size = K at *
    go_loopw [12] (fun i wr => ∃ (k N : Nat) (tok : Nat → Int) (L : Nat → List Int) (T : Nat → Nat), k ≤ sc.length ∧ i = .int .i64 (k : Int) ∧ N ≤ 2 * k ∧ Hid (∀ j, j < 5 → (L j).length ≤ k) ∧ Hid (AP w1 K N ps qs rate burst bl ol br or_ tok L T wr)) (fun i _ => sc.length - (intOf i).toNat)
    case atStart => exact ⟨0, 0, _, _, T0, Nat.zero_le _, rfl, Nat.le_refl _, hid (fun j _ => by simp), HAP⟩
    case round =>
      clear HAP
      obtain ⟨k, N, tok, L, T, hk, rfl, hN, HL, HP⟩ := hrel
      by_cases hlt : k < sc.length
      · have hq : (k : Int) < (sc.length : Int) := by omega
        have hne : sc ≠ [] := by rintro rfl; simp at hlt
        obtain ⟨b, o, rfl, hb, hrow⟩ := HA.out hne
        obtain ⟨⟨kd, who, n⟩, hx⟩ : ∃ x, sc[k]? = some x := ⟨_, List.getElem?_eq_getElem hlt⟩
        obtain ⟨⟨c0, c1, c2⟩, hrw, hrn⟩ := hrow k _ hx
        have hb1 : b < w1.heap.size := Nat.lt_of_lt_of_le hb HB1.out.size
        have KB : Hid (∀ V, Below w1.heap.size w1 V → V.cell? ⟨b, o + k * 3, none⟩ = some (.int .i64 kd) ∧ V.cell? ⟨b, o + k * 3 + 1, none⟩ = some (.int .i64 who) ∧ V.cell? ⟨b, o + k * 3 + 2, none⟩ = some (.int .i64 n)) := hid fun V hV => ⟨(hV.cell (p := ⟨b, o + k * 3, none⟩) hb1).trans ((HB1.out.cell (p := ⟨b, o + k * 3, none⟩) hb).trans c0), (hV.cell (p := ⟨b, o + k * 3 + 1, none⟩) hb1).trans ((HB1.out.cell (p := ⟨b, o + k * 3 + 1, none⟩) hb).trans c1), (hV.cell (p := ⟨b, o + k * 3 + 2, none⟩) hb1).trans ((HB1.out.cell (p := ⟨b, o + k * 3 + 2, none⟩) hb).trans c2)⟩
        have w4 : IntKind.i64.wrap ((k : Int) + 1) = (k : Int) + 1 := IntWalk.i64_in _ (by omega)
        have HRNN := hid hrn
        clear c0 c1 c2 hx hne hrow hrw hrn
        have z1 : IntKind.i64.wrap ((k : Int) * 3) = (k : Int) * 3 := IntWalk.i64_in _ (by omega)
        go_wp2
        obtain ⟨i, he, hi5⟩ : ∃ i : Nat, ((k : Int) * 3 + (k : Int) / 7) % 5 = (i : Int) ∧ i < 5 := ⟨(((k : Int) * 3 + (k : Int) / 7) % 5).toNat, by omega, by omega⟩
        rw [he]
        clear he z1
        have hi5' : (i : Int) < 5 := by omega
        obtain ⟨P, hP⟩ : ∃ P, ps.getD i 0 = P := ⟨_, rfl⟩
        obtain ⟨Q, hQ⟩ : ∃ Q, qs.getD i 0 = Q := ⟨_, rfl⟩
        have HPD : Hid (AP w1 K N ps qs rate burst bl ol br or_ tok L T wr.drew) := HP.out.below (Below.refl _ _).drew
        have HLC : Hid (∀ N tok L T V, AP w1 K N ps qs rate burst bl ol br or_ tok L T V → V.cell? ⟨bl, ol + i, none⟩ = some (.pointer (some ⟨P, 0, none⟩)) ∧ V.cell? ⟨br, or_ + i, none⟩ = some (.pointer (some ⟨Q, 0, none⟩)) ∧ bl < V.heap.size ∧ br < V.heap.size ∧ Pq (9000010 + 5 * i) T V P Q (max (sadd rate i) 0) (max burst 0) (tok i) (L i)) := hid (fun N tok L T V h => by
          have h1 := h.ll.cell i hi5
          have h2 := h.lr.cell i hi5
          have h3 := h.pq i hi5
          rw [hP] at h1 h3
          rw [hQ] at h2 h3
          exact ⟨h1, h2, h.ll.lt, h.lr.lt, h3⟩)
        have HTU : Hid (∀ tk l T' W', Pq (9000010 + 5 * i) T' W' P Q (max (sadd rate i) 0) (max burst 0) tk l → Goes (pqT (9000010 + 5 * i)) T wr.drew T' W' → AP w1 K N ps qs rate burst bl ol br or_ (put tok i tk) (put L i l) T' W') := hid (fun tk l T' W' hp hg => by
          rw [← hP, ← hQ] at hp
          exact HPD.out.turn hi5 hp hg)
        have HDO : Hid (Calls Tryz.prog 8 #[.pointer (some ⟨P, 0, none⟩), .pointer (some ⟨Q, 0, none⟩), .agg #[.int .i64 kd, .int .i64 who, .int .i64 n]] wr.drew fun e w' => DoIs (9000010 + 5 * i) T wr.drew P Q (max (sadd rate i) 0) (max burst 0) (tok i) (L i) kd who n e w') := does_any (9000010 + 5 * i) T wr.drew P Q _ _ (tok i) (L i) kd who n HRNN.out (HLC.out _ _ _ _ _ HPD.out).2.2.2.2 (by omega) (HPD.out.kept.2 _ (Nat.le_refl _)) (by have := HL.out i hi5; omega)
        obtain ⟨l0, r0, -⟩ := HLC.out _ _ _ _ _ HPD.out
        have hKS := KB.out _ HPD.out.bel
        have HLS : Hid (∀ j, j < 5 → (put L i (stL kd who (tok i) (L i)) j).length ≤ k + 1) := hid (fun j hj => by
          by_cases e : j = i
          · subst e; rw [put_same]; exact len_stL (HL.out j hj)
          · rw [put_other _ _ e]; have := HL.out j hj; omega)
        clear hP hQ
        refine wp_region_held_drew (S := (fun V => V.cell? ⟨bl, ol + i, none⟩ = some (.pointer (some ⟨P, 0, none⟩)) ∧ V.cell? ⟨br, or_ + i, none⟩ = some (.pointer (some ⟨Q, 0, none⟩)) ∧ V.cell? ⟨b, o + k * 3, none⟩ = some (.int .i64 kd) ∧ V.cell? ⟨b, o + k * 3 + 1, none⟩ = some (.int .i64 who) ∧ V.cell? ⟨b, o + k * 3 + 2, none⟩ = some (.int .i64 n))) (by kernel_rfl) ?_ (fun hHeld => ?_)
        · exact ⟨l0, r0, hKS⟩
        refine wpAnyH_take (i := 0) (oi := { dst := some 61, op := Go.Op.move (Go.Operand.tmp 8), type := 24, pos := "law.go:246", after := #[], guard := none }) (v := ?_) rfl (by kernel_rfl) (by kernel_rfl) (by kernel_rfl) (fun _ _ _ h => h) (Or.inl ⟨by rfl, ?_⟩) hHeld ?_
        rotate_left
        · (intro wq hSw; (try dsimp only at hSw); go_simp; try (with_reducible rfl))
        try simp only [Act.put, List.setIfInBounds_toArray, List.set_cons_zero, List.set_cons_succ]
        refine wpAnyH_take (i := 1) (oi := { dst := some 62, op := Go.Op.move (Go.Operand.tmp 13), type := 3, pos := "law.go:246", after := #[], guard := none }) (v := ?_) rfl (by kernel_rfl) (by kernel_rfl) (by kernel_rfl) (fun _ _ _ h => h) (Or.inl ⟨by rfl, ?_⟩) hHeld ?_
        rotate_left
        · (intro wq hSw; (try dsimp only at hSw); go_simp; try (with_reducible rfl))
        try simp only [Act.put, List.setIfInBounds_toArray, List.set_cons_zero, List.set_cons_succ]
        refine wpAnyH_take (i := 2) (oi := { dst := some 63, op := Go.Op.indexAddr 24 (Go.Operand.tmp 61) (Go.Operand.tmp 62), type := 0, pos := "law.go:246", after := #[{ on := 0, ground := Go.Ground.data }, { on := 1, ground := Go.Ground.data }], guard := none }) (v := ?_) rfl (by kernel_rfl) (by kernel_rfl) (by kernel_rfl) (fun _ _ _ h => h) (Or.inl ⟨by rfl, ?_⟩) hHeld ?_
        rotate_left
        · (intro wq hSw; (try dsimp only at hSw); go_simp; try (with_reducible rfl))
        try simp only [Act.put, List.setIfInBounds_toArray, List.set_cons_zero, List.set_cons_succ]
        refine wpAnyH_take (i := 3) (oi := { dst := some 64, op := Go.Op.load 26 (Go.Operand.tmp 63), type := 26, pos := "law.go:246", after := #[{ on := 2, ground := Go.Ground.data }], guard := none }) (v := ?_) rfl (by kernel_rfl) (by kernel_rfl) (by kernel_rfl) (fun _ _ _ h => h) (Or.inl ⟨by rfl, ?_⟩) hHeld ?_
        rotate_left
        · (intro wq hSw; (try dsimp only at hSw); go_simp; try (with_reducible rfl))
        try simp only [Act.put, List.setIfInBounds_toArray, List.set_cons_zero, List.set_cons_succ]
        refine wpAnyH_take (i := 4) (oi := { dst := some 65, op := Go.Op.binOp Go.BinOp.eql 26 (Go.Operand.tmp 64) (Go.Operand.const (Go.Value.pointer none)) 26, type := 4, pos := "law.go:246", after := #[{ on := 3, ground := Go.Ground.data }], guard := none }) (v := ?_) rfl (by kernel_rfl) (by kernel_rfl) (by kernel_rfl) (fun _ _ _ h => h) (Or.inl ⟨by rfl, ?_⟩) hHeld ?_
        rotate_left
        · (intro wq hSw; (try dsimp only at hSw); go_simp; try (with_reducible rfl))
        try simp only [Act.put, List.setIfInBounds_toArray, List.set_cons_zero, List.set_cons_succ]
        refine wpAnyH_take (i := 5) (oi := { dst := some 66, op := Go.Op.move (Go.Operand.tmp 65), type := 4, pos := "law.go:246", after := #[{ on := 4, ground := Go.Ground.data }], guard := none }) (v := ?_) rfl (by kernel_rfl) (by kernel_rfl) (by kernel_rfl) (fun _ _ _ h => h) (Or.inl ⟨by rfl, ?_⟩) hHeld ?_
        rotate_left
        · (intro wq hSw; (try dsimp only at hSw); go_simp; try (with_reducible rfl))
        try simp only [Act.put, List.setIfInBounds_toArray, List.set_cons_zero, List.set_cons_succ]
        refine wpAnyH_take (i := 6) (oi := { dst := some 67, op := Go.Op.move (Go.Operand.tmp 8), type := 24, pos := "law.go:246", after := #[{ on := 5, ground := Go.Ground.guard }], guard := some (5, false) }) (v := ?_) rfl (by kernel_rfl) (by kernel_rfl) (by kernel_rfl) (fun _ _ _ h => h) (Or.inl ⟨by rfl, ?_⟩) hHeld ?_
        rotate_left
        · (intro wq hSw; (try dsimp only at hSw); go_simp; try (with_reducible rfl))
        try simp only [Act.put, List.setIfInBounds_toArray, List.set_cons_zero, List.set_cons_succ]
        refine wpAnyH_take (i := 7) (oi := { dst := some 68, op := Go.Op.move (Go.Operand.tmp 13), type := 3, pos := "law.go:246", after := #[{ on := 5, ground := Go.Ground.guard }], guard := some (5, false) }) (v := ?_) rfl (by kernel_rfl) (by kernel_rfl) (by kernel_rfl) (fun _ _ _ h => h) (Or.inl ⟨by rfl, ?_⟩) hHeld ?_
        rotate_left
        · (intro wq hSw; (try dsimp only at hSw); go_simp; try (with_reducible rfl))
        try simp only [Act.put, List.setIfInBounds_toArray, List.set_cons_zero, List.set_cons_succ]
        refine wpAnyH_take (i := 8) (oi := { dst := some 69, op := Go.Op.indexAddr 24 (Go.Operand.tmp 67) (Go.Operand.tmp 68), type := 0, pos := "law.go:246", after := #[{ on := 6, ground := Go.Ground.data }, { on := 7, ground := Go.Ground.data }, { on := 5, ground := Go.Ground.guard }], guard := some (5, false) }) (v := ?_) rfl (by kernel_rfl) (by kernel_rfl) (by kernel_rfl) (fun _ _ _ h => h) (Or.inl ⟨by rfl, ?_⟩) hHeld ?_
        rotate_left
        · (intro wq hSw; (try dsimp only at hSw); go_simp; try (with_reducible rfl))
        try simp only [Act.put, List.setIfInBounds_toArray, List.set_cons_zero, List.set_cons_succ]
        refine wpAnyH_take (i := 9) (oi := { dst := some 70, op := Go.Op.load 26 (Go.Operand.tmp 69), type := 26, pos := "law.go:246", after := #[{ on := 8, ground := Go.Ground.data }, { on := 5, ground := Go.Ground.guard }], guard := some (5, false) }) (v := ?_) rfl (by kernel_rfl) (by kernel_rfl) (by kernel_rfl) (fun _ _ _ h => h) (Or.inl ⟨by rfl, ?_⟩) hHeld ?_
        rotate_left
        · (intro wq hSw; (try dsimp only at hSw); go_simp; try (with_reducible rfl))
        try simp only [Act.put, List.setIfInBounds_toArray, List.set_cons_zero, List.set_cons_succ]
        refine wpAnyH_take (i := 10) (oi := { dst := some 71, op := Go.Op.move (Go.Operand.tmp 9), type := 25, pos := "law.go:246", after := #[{ on := 5, ground := Go.Ground.guard }], guard := some (5, false) }) (v := ?_) rfl (by kernel_rfl) (by kernel_rfl) (by kernel_rfl) (fun _ _ _ h => h) (Or.inl ⟨by rfl, ?_⟩) hHeld ?_
        rotate_left
        · (intro wq hSw; (try dsimp only at hSw); go_simp; try (with_reducible rfl))
        try simp only [Act.put, List.setIfInBounds_toArray, List.set_cons_zero, List.set_cons_succ]
        refine wpAnyH_take (i := 11) (oi := { dst := some 72, op := Go.Op.move (Go.Operand.tmp 13), type := 3, pos := "law.go:246", after := #[{ on := 5, ground := Go.Ground.guard }], guard := some (5, false) }) (v := ?_) rfl (by kernel_rfl) (by kernel_rfl) (by kernel_rfl) (fun _ _ _ h => h) (Or.inl ⟨by rfl, ?_⟩) hHeld ?_
        rotate_left
        · (intro wq hSw; (try dsimp only at hSw); go_simp; try (with_reducible rfl))
        try simp only [Act.put, List.setIfInBounds_toArray, List.set_cons_zero, List.set_cons_succ]
        refine wpAnyH_take (i := 12) (oi := { dst := some 73, op := Go.Op.indexAddr 25 (Go.Operand.tmp 71) (Go.Operand.tmp 72), type := 0, pos := "law.go:246", after := #[{ on := 10, ground := Go.Ground.data }, { on := 11, ground := Go.Ground.data }, { on := 5, ground := Go.Ground.guard }], guard := some (5, false) }) (v := ?_) rfl (by kernel_rfl) (by kernel_rfl) (by kernel_rfl) (fun _ _ _ h => h) (Or.inl ⟨by rfl, ?_⟩) hHeld ?_
        rotate_left
        · (intro wq hSw; (try dsimp only at hSw); go_simp; try (with_reducible rfl))
        try simp only [Act.put, List.setIfInBounds_toArray, List.set_cons_zero, List.set_cons_succ]
        refine wpAnyH_take (i := 13) (oi := { dst := some 74, op := Go.Op.load 29 (Go.Operand.tmp 73), type := 29, pos := "law.go:246", after := #[{ on := 12, ground := Go.Ground.data }, { on := 5, ground := Go.Ground.guard }], guard := some (5, false) }) (v := ?_) rfl (by kernel_rfl) (by kernel_rfl) (by kernel_rfl) (fun _ _ _ h => h) (Or.inl ⟨by rfl, ?_⟩) hHeld ?_
        rotate_left
        · (intro wq hSw; (try dsimp only at hSw); go_simp; try (with_reducible rfl))
        try simp only [Act.put, List.setIfInBounds_toArray, List.set_cons_zero, List.set_cons_succ]
        refine wpAnyH_take (i := 14) (oi := { dst := some 75, op := Go.Op.move (Go.Operand.tmp 2), type := 22, pos := "law.go:246", after := #[{ on := 5, ground := Go.Ground.guard }], guard := some (5, false) }) (v := ?_) rfl (by kernel_rfl) (by kernel_rfl) (by kernel_rfl) (fun _ _ _ h => h) (Or.inl ⟨by rfl, ?_⟩) hHeld ?_
        rotate_left
        · (intro wq hSw; (try dsimp only at hSw); go_simp; try (with_reducible rfl))
        try simp only [Act.put, List.setIfInBounds_toArray, List.set_cons_zero, List.set_cons_succ]
        refine wpAnyH_take (i := 15) (oi := { dst := some 76, op := Go.Op.move (Go.Operand.tmp 12), type := 3, pos := "law.go:246", after := #[{ on := 5, ground := Go.Ground.guard }], guard := some (5, false) }) (v := ?_) rfl (by kernel_rfl) (by kernel_rfl) (by kernel_rfl) (fun _ _ _ h => h) (Or.inl ⟨by rfl, ?_⟩) hHeld ?_
        rotate_left
        · (intro wq hSw; (try dsimp only at hSw); go_simp; try (with_reducible rfl))
        try simp only [Act.put, List.setIfInBounds_toArray, List.set_cons_zero, List.set_cons_succ]
        refine wpAnyH_take (i := 16) (oi := { dst := some 77, op := Go.Op.indexAddr 22 (Go.Operand.tmp 75) (Go.Operand.tmp 76), type := 0, pos := "law.go:246", after := #[{ on := 14, ground := Go.Ground.data }, { on := 15, ground := Go.Ground.data }, { on := 5, ground := Go.Ground.guard }], guard := some (5, false) }) (v := ?_) rfl (by kernel_rfl) (by kernel_rfl) (by kernel_rfl) (fun _ _ _ h => h) (Or.inl ⟨by rfl, ?_⟩) hHeld ?_
        rotate_left
        · (intro wq hSw; (try dsimp only at hSw); go_simp; try (with_reducible rfl))
        try simp only [Act.put, List.setIfInBounds_toArray, List.set_cons_zero, List.set_cons_succ]
        refine wpAnyH_take (i := 17) (oi := { dst := some 78, op := Go.Op.load 56 (Go.Operand.tmp 77), type := 56, pos := "law.go:246", after := #[{ on := 16, ground := Go.Ground.data }, { on := 5, ground := Go.Ground.guard }], guard := some (5, false) }) (v := ?_) rfl (by kernel_rfl) (by kernel_rfl) (by kernel_rfl) (fun _ _ _ h => h) (Or.inl ⟨by rfl, ?_⟩) hHeld ?_
        rotate_left
        · (intro wq hSw; (try dsimp only at hSw); go_simp; try (with_reducible rfl))
        try simp only [Act.put, List.setIfInBounds_toArray, List.set_cons_zero, List.set_cons_succ]
        refine wpAnyH_ready (rs := [18]) (by kernel_rfl) (by simp) ?_
        refine AllReadyH.cons (o := { dst := some 79, op := Go.Op.call { callee := Go.Callee.value (Go.Operand.func 8), args := #[Go.Operand.tmp 70, Go.Operand.tmp 74, Go.Operand.tmp 78], argTypes := #[26, 29, 56] }, type := 4, pos := "law.go:246", after := #[{ on := 9, ground := Go.Ground.data }, { on := 13, ground := Go.Ground.data }, { on := 17, ground := Go.Ground.data }, { on := 5, ground := Go.Ground.chain }, { on := 5, ground := Go.Ground.guard }], guard := some (5, false) }) rfl (fun K hK => ?_) AllReadyH.nil
        go_simp
        refine HDO.out.mono ?_
        rintro e w5 ⟨rfl, T5, hp5, hg5⟩
        have HP5 := hid (HTU.out _ _ _ _ hp5 hg5)
        clear hp5 hg5
        try dsimp only
        refine hK.out _ _ ?_ (fun hHeld => ?_)
        · first | exact ⟨(HLC.out _ _ _ _ _ HP5.out).1, (HLC.out _ _ _ _ _ HP5.out).2.1, KB.out _ HP5.out.bel⟩ | exact hHeld
        clear hK K
        try simp only [Act.put, List.setIfInBounds_toArray, List.set_cons_zero, List.set_cons_succ]
        refine wpAnyH_take (i := 19) (oi := { dst := some 80, op := Go.Op.unOp Go.UnOp.not 4 (Go.Operand.tmp 79), type := 4, pos := "law.go:246", after := #[{ on := 18, ground := Go.Ground.data }, { on := 5, ground := Go.Ground.guard }], guard := some (5, false) }) (v := ?_) rfl (by kernel_rfl) (by kernel_rfl) (by kernel_rfl) (fun _ _ _ h => h) (Or.inl ⟨by rfl, ?_⟩) hHeld ?_
        rotate_left
        · (intro wq hSw; (try dsimp only at hSw); go_simp; try (with_reducible rfl))
        try simp only [Act.put, List.setIfInBounds_toArray, List.set_cons_zero, List.set_cons_succ]
        refine wpAnyH_take (i := 20) (oi := { dst := some 81, op := Go.Op.pick (Go.Operand.tmp 66) (Go.Operand.const (Go.Value.bool true)) (Go.Operand.tmp 80), type := 4, pos := "law.go:246", after := #[{ on := 5, ground := Go.Ground.data }, { on := 19, ground := Go.Ground.data }], guard := none }) (v := ?_) rfl (by kernel_rfl) (by kernel_rfl) (by kernel_rfl) (fun _ _ _ h => h) (Or.inl ⟨by rfl, ?_⟩) hHeld ?_
        rotate_left
        · (intro wq hSw; (try dsimp only at hSw); go_simp; try (with_reducible rfl))
        try simp only [Act.put, List.setIfInBounds_toArray, List.set_cons_zero, List.set_cons_succ]
        refine wpAnyH_done (by kernel_rfl) ?_ _
        clear hHeld hKS l0 r0 HDO HTU HPD HL HP KB
        generalize put tok i (stT (max (sadd rate i) 0) (max burst 0) kd n (tok i)) = tok' at HP5
        generalize put L i (stL kd who (tok i) (L i)) = L' at HP5 HLS
        go_wp2
        go_loopw [14] (fun j wr => ∃ (m N : Nat) (T : Nat → Nat), m ≤ 2 ∧ j = .int .i64 (m : Int) ∧ N ≤ 2 * k + m ∧ Hid (AP w1 K N ps qs rate burst bl ol br or_ tok' L' T wr)) (fun j _ => 2 - (intOf j).toNat)
        case atStart => exact ⟨0, N, T5, by omega, rfl, by omega, HP5⟩
        case round =>
          clear HP5
          obtain ⟨m, N1, T1, hm, rfl, hN1, HP⟩ := hrel
          by_cases hm2 : m < 2
          · have hq2 : (m : Int) < 2 := by omega
            have w6 : IntKind.i64.wrap ((m : Int) + 1) = (m : Int) + 1 := IntWalk.i64_in _ (by omega)
            obtain ⟨l, hl⟩ : ∃ l, L' i = l := ⟨_, rfl⟩
            obtain ⟨tk, htk⟩ : ∃ tk, tok' i = tk := ⟨_, rfl⟩
            have hll : l.length ≤ 121 := by have := HLS.out i hi5; rw [hl] at this; omega
            have HLD : Hid (∀ N T V, AP w1 K N ps qs rate burst bl ol br or_ tok' L' T V → V.cell? ⟨bl, ol + i, none⟩ = some (.pointer (some ⟨P, 0, none⟩)) ∧ V.cell? ⟨br, or_ + i, none⟩ = some (.pointer (some ⟨Q, 0, none⟩)) ∧ bl < V.heap.size ∧ br < V.heap.size ∧ Pq (9000010 + 5 * i) T V P Q (max (sadd rate i) 0) (max burst 0) tk l) := hid (fun N T V h => by have := HLC.out _ _ _ _ _ h; rw [hl, htk] at this; exact this)
            clear hl htk
            have HST : Hid (∀ V, Below wr.heap.size wr V → Below wr.heap.size wr V ∧ V.cell? ⟨bl, ol + i, none⟩ = some (.pointer (some ⟨P, 0, none⟩))) := hid fun V hV => ⟨hV, (hV.cell (p := ⟨bl, ol + i, none⟩) (HLD.out _ _ _ HP.out).2.2.1).trans (HLD.out _ _ _ HP.out).1⟩
            have HLN : Hid (∀ V, (Below wr.heap.size wr V ∧ V.cell? ⟨bl, ol + i, none⟩ = some (.pointer (some ⟨P, 0, none⟩))) → Calls Tryz.prog 9 #[.pointer (some ⟨P, 0, none⟩)] V fun e w' => ∃ a' c', e = .returned (.slice a' l.length c') ∧ Hid (w'.ownsRow V.heap.size 3 1 (.slice a' l.length c') l.length (cellsI l)) ∧ Hid (Below V.heap.size V w')) := hid fun V hV => line_any _ T1 V P _ _ tk l (((HLD.out _ _ _ HP.out).2.2.2.2.b).below hV.1) (by omega)
            go_wp2
            go_cut [15, 16] (fun v u w' => ∃ ax cx ay cy, v = .slice ax l.length cx ∧ u = .slice ay l.length cy ∧ Hid (Two wr w' l l.length ax cx ay))
            case first =>
              go_region_held3 (fun V => Below wr.heap.size wr V ∧ V.cell? ⟨bl, ol + i, none⟩ = some (.pointer (some ⟨P, 0, none⟩))) (first | assumption | exact HST.out _ (Below.refl _ _).drew | exact keepS HST.out (by assumption) (by assumption))
                (first
                  | (go_at_call 9; refine (HLN.out _ (by assumption)).mono ?_; have hmark := HO8.out; clear hmark; rintro e w9 ⟨a9, c9, rfl, HO9, HB9⟩)
                  | (go_at_call 9; refine (HLN.out _ (by assumption)).mono ?_; rintro e w8 ⟨a8, c8, rfl, HO8, HB8⟩))
              all_goals (
                go_wp2
                go_meet
                case rel => first | exact ⟨_, _, _, _, rfl, rfl, Two.one rfl HO8.out ((Below.refl _ _).drew.trans HB8.out) HO9.out HB9.out⟩ | exact ⟨_, _, _, _, rfl, rfl, Two.other rfl HO8.out ((Below.refl _ _).drew.trans HB8.out) HO9.out HB9.out⟩)
            case rest =>
              obtain ⟨ax, cx, ay, cy, rfl, rfl, HT⟩ := hcut
              rename World => wu
              have HPU : Hid (AP w1 K N1 ps qs rate burst bl ol br or_ tok' L' T1 wu) := HP.out.below HT.out.below
              obtain ⟨-, u1, -, -, hpq⟩ := HLD.out _ _ _ HPU.out
              obtain ⟨aR, cR, k3, -, hiR, -, -⟩ := hpq.r.form
              have HIR := hid hiR
              have HIX : Hid (IsI wu ax l) := (own_is HT.out.own rfl).1
              have HFR : Hid (∀ g, wr.heap.size ≤ g → T1 g = 0 ∧ w1.heap.size ≤ g) := hid fun g hg => ⟨HP.out.kept.2 g hg, Nat.le_trans HP.out.bel.size hg⟩
              have HIN : ∀ d mark, Calls Tryz.prog 11 #[.pointer (some ⟨K, 0, none⟩), .slice ax l.length cx, .int .i64 mark] (wu.drewN d) fun e w' => e = .returned (.tuple #[]) ∧ Hid (∃ T', AP w1 K (N1 + 1) ps qs rate burst bl ol br or_ tok' L' T' w' ∧ IsI w' ay l) := fun d mark => by
                have hbd : Below wu.heap.size wu (wu.drewN d) := below_drewN (Below.refl _ _) d
                refine ((HPU.out.below hbd).ints (by omega) mark (BookI.own_block HT.out.own (fun b e => hbd.block b (HT.out.new b e).2)) (fun g e => HFR.out g (HT.out.new g e).1) rfl (by omega)).mono ?_
                rintro e w' ⟨he, T', hap, hsz, hbk⟩
                refine ⟨he, T', hap, fun hne => ?_⟩
                obtain ⟨b, off, e, hr⟩ := (HT.out.is.below hbd) hne
                exact ⟨b, off, e, hr.keep (hbk b hr.1 (HFR.out b (HT.out.far b off e).1).1 (HT.out.far b off e).2) hsz⟩
              clear hpq hiR HST HLN
              go_wp2_with (first
                | (go_at_call 10; (refine (sameInts_true ay a6 cy c6 l.length l w6 HI6.out.2 HI6.out.1 rfl (by omega)).mono ?_; rintro e w7 ⟨rfl, d7, hw7⟩; have HP7 : Hid (AP w1 K (N1 + 1) ps qs rate burst bl ol br or_ tok' L' T6 w7) := (by rw [hw7]; exact HP6.out.below (below_drewN (Below.refl _ _) d7)); clear hw7))
                | (go_at_call 10; go_loud (refine (sameInts_true ax aR cx cR l.length l wu HIX.out HIR.out rfl (by omega)).mono ?_; rintro e wv ⟨rfl, d5, hw5⟩; have hw55 := hw5.symm; clear hw5; subst hw55))
                | (go_at_call 11; go_loud (refine (HIN d5 _).mono ?_; rintro e w6 ⟨rfl, HX6⟩; obtain ⟨T6, hp6, hi6⟩ := HX6.out; have HP6 := hid hp6; obtain ⟨-, u6, -, -, hpq6⟩ := HLD.out _ _ _ hp6; obtain ⟨a6, c6, k6, -, hiR6, -, -⟩ := hpq6.r.form; have HI6 := hid (And.intro hiR6 hi6); clear hp6 hi6 hpq6 hiR6 HX6)))
              go_roundw
              case rel => exact ⟨m + 1, N1 + 1, T6, by omega, by go_num, by omega, HP7⟩
              case measure => simp [intOf]; omega
          · obtain rfl : m = 2 := by omega
            go_wp2
            go_roundw
            case rel => exact ⟨k + 1, N1, tok', L', T1, by omega, by go_num, by omega, HLS, HP⟩
            case measure => simp [intOf]; omega
      · have hge : ¬ (k : Int) < (sc.length : Int) := by omega
        go_wp2
        go_loopw [17] (fun i wr => ∃ m : Nat, m ≤ 5 ∧ i = .int .i64 (m : Int) ∧ Hid (AP w1 K N ps qs rate burst bl ol br or_ tok L T wr)) (fun i _ => 5 - (intOf i).toNat)
        case atStart => exact ⟨0, Nat.zero_le _, rfl, HP⟩
        case round =>
          clear HP
          obtain ⟨m, hm, rfl, HP⟩ := hrel
          by_cases hm5 : m < 5
          · have hq5 : (m : Int) < 5 := by omega
            have w6 : IntKind.i64.wrap ((m : Int) + 1) = (m : Int) + 1 := IntWalk.i64_in _ (by omega)
            have HPD : Hid (AP w1 K N ps qs rate burst bl ol br or_ tok L T wr.drew) := HP.out.below (Below.refl _ _).drew
            have hll : (L m).length ≤ 121 := by have := HL.out m hm5; omega
            have l0 := HPD.out.ll.cell m hm5
            have r0 := HPD.out.lr.cell m hm5
            have hpq := HPD.out.pq m hm5
            generalize ps.getD m 0 = P at l0 hpq
            generalize qs.getD m 0 = Q at r0 hpq
            generalize L m = l at hpq hll
            generalize tok m = tk at hpq
            have k2 := hpq.r.c2
            obtain ⟨aR, cR, k3, -, hiR, -, -⟩ := hpq.r.form
            have HIR := hid hiR
            have HPQ := hid hpq
            have HLT : Hid (bl < wr.heap.size ∧ br < wr.heap.size ∧ Q < wr.heap.size) := hid ⟨HP.out.ll.lt, HP.out.lr.lt, hpq.r.lt⟩
            have HKE : Hid (∀ V, Below wr.heap.size wr V → V.cell? ⟨bl, ol + m, none⟩ = some (.pointer (some ⟨P, 0, none⟩)) ∧ V.cell? ⟨br, or_ + m, none⟩ = some (.pointer (some ⟨Q, 0, none⟩)) ∧ V.cell? ⟨Q, 2, none⟩ = some (.int .i64 tk) ∧ V.cell? ⟨Q, 3, none⟩ = some (.slice aR l.length cR)) := hid fun V hV => ⟨(hV.cell (p := ⟨bl, ol + m, none⟩) HLT.out.1).trans l0, (hV.cell (p := ⟨br, or_ + m, none⟩) HLT.out.2.1).trans r0, (hV.cell (p := ⟨Q, 2, none⟩) HLT.out.2.2).trans k2, (hV.cell (p := ⟨Q, 3, none⟩) HLT.out.2.2).trans k3⟩
            have hKS := HKE.out _ (Below.refl _ _).drew
            clear hpq hiR l0 r0 k2 k3
            go_wp2
            refine wp_region_held_drew (S := (fun V => V.cell? ⟨bl, ol + m, none⟩ = some (.pointer (some ⟨P, 0, none⟩)) ∧ V.cell? ⟨br, or_ + m, none⟩ = some (.pointer (some ⟨Q, 0, none⟩)) ∧ V.cell? ⟨Q, 2, none⟩ = some (.int .i64 tk) ∧ V.cell? ⟨Q, 3, none⟩ = some (.slice aR l.length cR))) (by kernel_rfl) ?_ (fun hHeld => ?_)
            · exact hKS
            refine wpAnyH_take (i := 0) (oi := { dst := some 128, op := Go.Op.move (Go.Operand.tmp 8), type := 24, pos := "law.go:261", after := #[], guard := none }) (v := ?_) rfl (by kernel_rfl) (by kernel_rfl) (by kernel_rfl) (fun _ _ _ h => h) (Or.inl ⟨by rfl, ?_⟩) hHeld ?_
            rotate_left
            · (intro wq hSw; (try dsimp only at hSw); go_simp; try (with_reducible rfl))
            try simp only [Act.put, List.setIfInBounds_toArray, List.set_cons_zero, List.set_cons_succ]
            refine wpAnyH_take (i := 1) (oi := { dst := some 129, op := Go.Op.move (Go.Operand.tmp 17), type := 3, pos := "law.go:261", after := #[], guard := none }) (v := ?_) rfl (by kernel_rfl) (by kernel_rfl) (by kernel_rfl) (fun _ _ _ h => h) (Or.inl ⟨by rfl, ?_⟩) hHeld ?_
            rotate_left
            · (intro wq hSw; (try dsimp only at hSw); go_simp; try (with_reducible rfl))
            try simp only [Act.put, List.setIfInBounds_toArray, List.set_cons_zero, List.set_cons_succ]
            refine wpAnyH_take (i := 2) (oi := { dst := some 130, op := Go.Op.indexAddr 24 (Go.Operand.tmp 128) (Go.Operand.tmp 129), type := 0, pos := "law.go:261", after := #[{ on := 0, ground := Go.Ground.data }, { on := 1, ground := Go.Ground.data }], guard := none }) (v := ?_) rfl (by kernel_rfl) (by kernel_rfl) (by kernel_rfl) (fun _ _ _ h => h) (Or.inl ⟨by rfl, ?_⟩) hHeld ?_
            rotate_left
            · (intro wq hSw; (try dsimp only at hSw); go_simp; try (with_reducible rfl))
            try simp only [Act.put, List.setIfInBounds_toArray, List.set_cons_zero, List.set_cons_succ]
            refine wpAnyH_take (i := 3) (oi := { dst := some 131, op := Go.Op.load 26 (Go.Operand.tmp 130), type := 26, pos := "law.go:261", after := #[{ on := 2, ground := Go.Ground.data }], guard := none }) (v := ?_) rfl (by kernel_rfl) (by kernel_rfl) (by kernel_rfl) (fun _ _ _ h => h) (Or.inl ⟨by rfl, ?_⟩) hHeld ?_
            rotate_left
            · (intro wq hSw; (try dsimp only at hSw); go_simp; try (with_reducible rfl))
            try simp only [Act.put, List.setIfInBounds_toArray, List.set_cons_zero, List.set_cons_succ]
            refine wpAnyH_take (i := 5) (oi := { dst := some 133, op := Go.Op.move (Go.Operand.tmp 9), type := 25, pos := "law.go:261", after := #[], guard := none }) (v := ?_) rfl (by kernel_rfl) (by kernel_rfl) (by kernel_rfl) (fun _ _ _ h => h) (Or.inl ⟨by rfl, ?_⟩) hHeld ?_
            rotate_left
            · (intro wq hSw; (try dsimp only at hSw); go_simp; try (with_reducible rfl))
            try simp only [Act.put, List.setIfInBounds_toArray, List.set_cons_zero, List.set_cons_succ]
            refine wpAnyH_take (i := 6) (oi := { dst := some 134, op := Go.Op.move (Go.Operand.tmp 17), type := 3, pos := "law.go:261", after := #[], guard := none }) (v := ?_) rfl (by kernel_rfl) (by kernel_rfl) (by kernel_rfl) (fun _ _ _ h => h) (Or.inl ⟨by rfl, ?_⟩) hHeld ?_
            rotate_left
            · (intro wq hSw; (try dsimp only at hSw); go_simp; try (with_reducible rfl))
            try simp only [Act.put, List.setIfInBounds_toArray, List.set_cons_zero, List.set_cons_succ]
            refine wpAnyH_take (i := 7) (oi := { dst := some 135, op := Go.Op.indexAddr 25 (Go.Operand.tmp 133) (Go.Operand.tmp 134), type := 0, pos := "law.go:261", after := #[{ on := 5, ground := Go.Ground.data }, { on := 6, ground := Go.Ground.data }], guard := none }) (v := ?_) rfl (by kernel_rfl) (by kernel_rfl) (by kernel_rfl) (fun _ _ _ h => h) (Or.inl ⟨by rfl, ?_⟩) hHeld ?_
            rotate_left
            · (intro wq hSw; (try dsimp only at hSw); go_simp; try (with_reducible rfl))
            try simp only [Act.put, List.setIfInBounds_toArray, List.set_cons_zero, List.set_cons_succ]
            refine wpAnyH_take (i := 8) (oi := { dst := some 136, op := Go.Op.load 29 (Go.Operand.tmp 135), type := 29, pos := "law.go:261", after := #[{ on := 7, ground := Go.Ground.data }], guard := none }) (v := ?_) rfl (by kernel_rfl) (by kernel_rfl) (by kernel_rfl) (fun _ _ _ h => h) (Or.inl ⟨by rfl, ?_⟩) hHeld ?_
            rotate_left
            · (intro wq hSw; (try dsimp only at hSw); go_simp; try (with_reducible rfl))
            try simp only [Act.put, List.setIfInBounds_toArray, List.set_cons_zero, List.set_cons_succ]
            refine wpAnyH_take (i := 9) (oi := { dst := some 137, op := Go.Op.nilCheck (Go.Operand.tmp 136), type := 0, pos := "law.go:261", after := #[{ on := 8, ground := Go.Ground.data }], guard := none }) (v := ?_) rfl (by kernel_rfl) (by kernel_rfl) (by kernel_rfl) (fun _ _ _ h => h) (Or.inl ⟨by rfl, ?_⟩) hHeld ?_
            rotate_left
            · (intro wq hSw; (try dsimp only at hSw); go_simp; try (with_reducible rfl))
            try simp only [Act.put, List.setIfInBounds_toArray, List.set_cons_zero, List.set_cons_succ]
            refine wpAnyH_take (i := 10) (oi := { dst := some 138, op := Go.Op.fieldAddr 60 (Go.Operand.tmp 137) 2, type := 0, pos := "law.go:261", after := #[{ on := 9, ground := Go.Ground.data }], guard := none }) (v := ?_) rfl (by kernel_rfl) (by kernel_rfl) (by kernel_rfl) (fun _ _ _ h => h) (Or.inl ⟨by rfl, ?_⟩) hHeld ?_
            rotate_left
            · (intro wq hSw; (try dsimp only at hSw); go_simp; try (with_reducible rfl))
            try simp only [Act.put, List.setIfInBounds_toArray, List.set_cons_zero, List.set_cons_succ]
            refine wpAnyH_take (i := 11) (oi := { dst := some 139, op := Go.Op.load 3 (Go.Operand.tmp 138), type := 3, pos := "law.go:261", after := #[{ on := 10, ground := Go.Ground.data }], guard := none }) (v := ?_) rfl (by kernel_rfl) (by kernel_rfl) (by kernel_rfl) (fun _ _ _ h => h) (Or.inl ⟨by rfl, ?_⟩) hHeld ?_
            rotate_left
            · (intro wq hSw; (try dsimp only at hSw); go_simp; try (with_reducible rfl))
            try simp only [Act.put, List.setIfInBounds_toArray, List.set_cons_zero, List.set_cons_succ]
            refine wpAnyH_ready (rs := [4]) (by kernel_rfl) (by simp) ?_
            refine AllReadyH.cons (o := { dst := some 132, op := Go.Op.call { callee := Go.Callee.value (Go.Operand.func 12), args := #[Go.Operand.tmp 131], argTypes := #[26] }, type := 3, pos := "law.go:261", after := #[{ on := 3, ground := Go.Ground.data }], guard := none }) rfl (fun K hK => ?_) AllReadyH.nil
            go_simp
            refine (tokens_any _ T wr.drew P _ _ tk l HPQ.out.b).mono ?_
            rintro e w8 ⟨rfl, hw9⟩
            have hw8 := hw9.symm
            clear hw9
            subst hw8
            try dsimp only
            refine hK.out _ _ ?_ (fun hHeld => ?_)
            · first | exact HKE.out _ HBA.out | exact HKE.out _ HB9.out | exact hHeld
            clear hK K
            try simp only [Act.put, List.setIfInBounds_toArray, List.set_cons_zero, List.set_cons_succ]
            refine wpAnyH_take (i := 12) (oi := { dst := some 140, op := Go.Op.binOp Go.BinOp.neq 3 (Go.Operand.tmp 132) (Go.Operand.tmp 139) 3, type := 4, pos := "law.go:261", after := #[{ on := 4, ground := Go.Ground.data }, { on := 11, ground := Go.Ground.data }], guard := none }) (v := ?_) rfl (by kernel_rfl) (by kernel_rfl) (by kernel_rfl) (fun _ _ _ h => h) (Or.inl ⟨by rfl, ?_⟩) hHeld ?_
            rotate_left
            · (intro wq hSw; (try dsimp only at hSw); go_simp; try (with_reducible rfl))
            try simp only [Act.put, List.setIfInBounds_toArray, List.set_cons_zero, List.set_cons_succ]
            refine wpAnyH_take (i := 13) (oi := { dst := some 141, op := Go.Op.move (Go.Operand.tmp 140), type := 4, pos := "law.go:261", after := #[{ on := 12, ground := Go.Ground.data }, { on := 4, ground := Go.Ground.chain }], guard := none }) (v := ?_) rfl (by kernel_rfl) (by kernel_rfl) (by kernel_rfl) (fun _ _ _ h => h) (Or.inl ⟨by rfl, ?_⟩) hHeld ?_
            rotate_left
            · (intro wq hSw; (try dsimp only at hSw); go_simp; try (with_reducible rfl))
            try simp only [Act.put, List.setIfInBounds_toArray, List.set_cons_zero, List.set_cons_succ]
            refine wpAnyH_take (i := 14) (oi := { dst := some 142, op := Go.Op.move (Go.Operand.tmp 8), type := 24, pos := "law.go:261", after := #[{ on := 13, ground := Go.Ground.guard }], guard := some (13, false) }) (v := ?_) rfl (by kernel_rfl) (by kernel_rfl) (by kernel_rfl) (fun _ _ _ h => h) (Or.inl ⟨by rfl, ?_⟩) hHeld ?_
            rotate_left
            · (intro wq hSw; (try dsimp only at hSw); go_simp; try (with_reducible rfl))
            try simp only [Act.put, List.setIfInBounds_toArray, List.set_cons_zero, List.set_cons_succ]
            refine wpAnyH_take (i := 15) (oi := { dst := some 143, op := Go.Op.move (Go.Operand.tmp 17), type := 3, pos := "law.go:261", after := #[{ on := 13, ground := Go.Ground.guard }], guard := some (13, false) }) (v := ?_) rfl (by kernel_rfl) (by kernel_rfl) (by kernel_rfl) (fun _ _ _ h => h) (Or.inl ⟨by rfl, ?_⟩) hHeld ?_
            rotate_left
            · (intro wq hSw; (try dsimp only at hSw); go_simp; try (with_reducible rfl))
            try simp only [Act.put, List.setIfInBounds_toArray, List.set_cons_zero, List.set_cons_succ]
            refine wpAnyH_take (i := 16) (oi := { dst := some 144, op := Go.Op.indexAddr 24 (Go.Operand.tmp 142) (Go.Operand.tmp 143), type := 0, pos := "law.go:261", after := #[{ on := 14, ground := Go.Ground.data }, { on := 15, ground := Go.Ground.data }, { on := 13, ground := Go.Ground.guard }], guard := some (13, false) }) (v := ?_) rfl (by kernel_rfl) (by kernel_rfl) (by kernel_rfl) (fun _ _ _ h => h) (Or.inl ⟨by rfl, ?_⟩) hHeld ?_
            rotate_left
            · (intro wq hSw; (try dsimp only at hSw); go_simp; try (with_reducible rfl))
            try simp only [Act.put, List.setIfInBounds_toArray, List.set_cons_zero, List.set_cons_succ]
            refine wpAnyH_take (i := 17) (oi := { dst := some 145, op := Go.Op.load 26 (Go.Operand.tmp 144), type := 26, pos := "law.go:261", after := #[{ on := 16, ground := Go.Ground.data }, { on := 13, ground := Go.Ground.guard }], guard := some (13, false) }) (v := ?_) rfl (by kernel_rfl) (by kernel_rfl) (by kernel_rfl) (fun _ _ _ h => h) (Or.inl ⟨by rfl, ?_⟩) hHeld ?_
            rotate_left
            · (intro wq hSw; (try dsimp only at hSw); go_simp; try (with_reducible rfl))
            try simp only [Act.put, List.setIfInBounds_toArray, List.set_cons_zero, List.set_cons_succ]
            refine wpAnyH_take (i := 19) (oi := { dst := some 147, op := Go.Op.move (Go.Operand.tmp 9), type := 25, pos := "law.go:261", after := #[{ on := 13, ground := Go.Ground.guard }], guard := some (13, false) }) (v := ?_) rfl (by kernel_rfl) (by kernel_rfl) (by kernel_rfl) (fun _ _ _ h => h) (Or.inl ⟨by rfl, ?_⟩) hHeld ?_
            rotate_left
            · (intro wq hSw; (try dsimp only at hSw); go_simp; try (with_reducible rfl))
            try simp only [Act.put, List.setIfInBounds_toArray, List.set_cons_zero, List.set_cons_succ]
            refine wpAnyH_take (i := 20) (oi := { dst := some 148, op := Go.Op.move (Go.Operand.tmp 17), type := 3, pos := "law.go:261", after := #[{ on := 13, ground := Go.Ground.guard }], guard := some (13, false) }) (v := ?_) rfl (by kernel_rfl) (by kernel_rfl) (by kernel_rfl) (fun _ _ _ h => h) (Or.inl ⟨by rfl, ?_⟩) hHeld ?_
            rotate_left
            · (intro wq hSw; (try dsimp only at hSw); go_simp; try (with_reducible rfl))
            try simp only [Act.put, List.setIfInBounds_toArray, List.set_cons_zero, List.set_cons_succ]
            refine wpAnyH_take (i := 21) (oi := { dst := some 149, op := Go.Op.indexAddr 25 (Go.Operand.tmp 147) (Go.Operand.tmp 148), type := 0, pos := "law.go:261", after := #[{ on := 19, ground := Go.Ground.data }, { on := 20, ground := Go.Ground.data }, { on := 13, ground := Go.Ground.guard }], guard := some (13, false) }) (v := ?_) rfl (by kernel_rfl) (by kernel_rfl) (by kernel_rfl) (fun _ _ _ h => h) (Or.inl ⟨by rfl, ?_⟩) hHeld ?_
            rotate_left
            · (intro wq hSw; (try dsimp only at hSw); go_simp; try (with_reducible rfl))
            try simp only [Act.put, List.setIfInBounds_toArray, List.set_cons_zero, List.set_cons_succ]
            refine wpAnyH_take (i := 22) (oi := { dst := some 150, op := Go.Op.load 29 (Go.Operand.tmp 149), type := 29, pos := "law.go:261", after := #[{ on := 21, ground := Go.Ground.data }, { on := 13, ground := Go.Ground.guard }], guard := some (13, false) }) (v := ?_) rfl (by kernel_rfl) (by kernel_rfl) (by kernel_rfl) (fun _ _ _ h => h) (Or.inl ⟨by rfl, ?_⟩) hHeld ?_
            rotate_left
            · (intro wq hSw; (try dsimp only at hSw); go_simp; try (with_reducible rfl))
            try simp only [Act.put, List.setIfInBounds_toArray, List.set_cons_zero, List.set_cons_succ]
            refine wpAnyH_take (i := 23) (oi := { dst := some 151, op := Go.Op.nilCheck (Go.Operand.tmp 150), type := 0, pos := "law.go:261", after := #[{ on := 22, ground := Go.Ground.data }, { on := 13, ground := Go.Ground.guard }], guard := some (13, false) }) (v := ?_) rfl (by kernel_rfl) (by kernel_rfl) (by kernel_rfl) (fun _ _ _ h => h) (Or.inl ⟨by rfl, ?_⟩) hHeld ?_
            rotate_left
            · (intro wq hSw; (try dsimp only at hSw); go_simp; try (with_reducible rfl))
            try simp only [Act.put, List.setIfInBounds_toArray, List.set_cons_zero, List.set_cons_succ]
            refine wpAnyH_take (i := 24) (oi := { dst := some 152, op := Go.Op.fieldAddr 60 (Go.Operand.tmp 151) 3, type := 0, pos := "law.go:261", after := #[{ on := 23, ground := Go.Ground.data }, { on := 13, ground := Go.Ground.guard }], guard := some (13, false) }) (v := ?_) rfl (by kernel_rfl) (by kernel_rfl) (by kernel_rfl) (fun _ _ _ h => h) (Or.inl ⟨by rfl, ?_⟩) hHeld ?_
            rotate_left
            · (intro wq hSw; (try dsimp only at hSw); go_simp; try (with_reducible rfl))
            try simp only [Act.put, List.setIfInBounds_toArray, List.set_cons_zero, List.set_cons_succ]
            refine wpAnyH_take (i := 25) (oi := { dst := some 153, op := Go.Op.load 33 (Go.Operand.tmp 152), type := 33, pos := "law.go:261", after := #[{ on := 24, ground := Go.Ground.data }, { on := 13, ground := Go.Ground.guard }], guard := some (13, false) }) (v := ?_) rfl (by kernel_rfl) (by kernel_rfl) (by kernel_rfl) (fun _ _ _ h => h) (Or.inl ⟨by rfl, ?_⟩) hHeld ?_
            rotate_left
            · (intro wq hSw; (try dsimp only at hSw); go_simp; try (with_reducible rfl))
            try simp only [Act.put, List.setIfInBounds_toArray, List.set_cons_zero, List.set_cons_succ]
            refine wpAnyH_ready (rs := [18]) (by kernel_rfl) (by simp) ?_
            refine AllReadyH.cons (o := { dst := some 146, op := Go.Op.call { callee := Go.Callee.value (Go.Operand.func 9), args := #[Go.Operand.tmp 145], argTypes := #[26] }, type := 33, pos := "law.go:261", after := #[{ on := 17, ground := Go.Ground.data }, { on := 13, ground := Go.Ground.chain }, { on := 13, ground := Go.Ground.guard }], guard := some (13, false) }) rfl (fun K hK => ?_) AllReadyH.nil
            go_simp
            refine (line_any _ T wr.drew P _ _ tk l HPQ.out.b (by omega)).mono ?_
            rintro e w9 ⟨a9, c9, rfl, ho9, hb9⟩
            have HB9 : Hid (Below wr.heap.size wr w9) := (Below.refl _ _).drew.trans hb9
            have HI9 := hid (isI_owns ho9 rfl)
            have HIR9 : Hid (IsI w9 aR l) := HIR.out.below hb9
            clear ho9 hb9
            try dsimp only
            refine hK.out _ _ ?_ (fun hHeld => ?_)
            · first | exact HKE.out _ HBA.out | exact HKE.out _ HB9.out | exact hHeld
            clear hK K
            try simp only [Act.put, List.setIfInBounds_toArray, List.set_cons_zero, List.set_cons_succ]
            refine wpAnyH_ready (rs := [26]) (by kernel_rfl) (by simp) ?_
            refine AllReadyH.cons (o := { dst := some 154, op := Go.Op.call { callee := Go.Callee.value (Go.Operand.func 10), args := #[Go.Operand.tmp 146, Go.Operand.tmp 153], argTypes := #[33, 33] }, type := 4, pos := "law.go:261", after := #[{ on := 18, ground := Go.Ground.data }, { on := 25, ground := Go.Ground.data }, { on := 18, ground := Go.Ground.chain }, { on := 13, ground := Go.Ground.guard }], guard := some (13, false) }) rfl (fun K hK => ?_) AllReadyH.nil
            go_simp
            refine (sameInts_true a9 aR c9 cR l.length l w9 HI9.out HIR9.out rfl (by omega)).mono ?_
            rintro e wA ⟨rfl, nA, hwA⟩
            have HBA : Hid (Below wr.heap.size wr wA) := by rw [hwA]; exact below_drewN HB9.out nA
            clear hwA
            try dsimp only
            refine hK.out _ _ ?_ (fun hHeld => ?_)
            · first | exact HKE.out _ HBA.out | exact HKE.out _ HB9.out | exact hHeld
            clear hK K
            try simp only [Act.put, List.setIfInBounds_toArray, List.set_cons_zero, List.set_cons_succ]
            refine wpAnyH_take (i := 27) (oi := { dst := some 155, op := Go.Op.unOp Go.UnOp.not 4 (Go.Operand.tmp 154), type := 4, pos := "law.go:261", after := #[{ on := 26, ground := Go.Ground.data }, { on := 13, ground := Go.Ground.guard }], guard := some (13, false) }) (v := ?_) rfl (by kernel_rfl) (by kernel_rfl) (by kernel_rfl) (fun _ _ _ h => h) (Or.inl ⟨by rfl, ?_⟩) hHeld ?_
            rotate_left
            · (intro wq hSw; (try dsimp only at hSw); go_simp; try (with_reducible rfl))
            try simp only [Act.put, List.setIfInBounds_toArray, List.set_cons_zero, List.set_cons_succ]
            refine wpAnyH_take (i := 28) (oi := { dst := some 156, op := Go.Op.pick (Go.Operand.tmp 141) (Go.Operand.const (Go.Value.bool true)) (Go.Operand.tmp 155), type := 4, pos := "law.go:261", after := #[{ on := 13, ground := Go.Ground.data }, { on := 27, ground := Go.Ground.data }], guard := none }) (v := ?_) rfl (by kernel_rfl) (by kernel_rfl) (by kernel_rfl) (fun _ _ _ h => h) (Or.inl ⟨by rfl, ?_⟩) hHeld ?_
            rotate_left
            · (intro wq hSw; (try dsimp only at hSw); go_simp; try (with_reducible rfl))
            try simp only [Act.put, List.setIfInBounds_toArray, List.set_cons_zero, List.set_cons_succ]
            refine wpAnyH_done (by kernel_rfl) ?_ _
            clear hHeld hKS
            go_wp2
            go_roundw
            case rel => exact ⟨m + 1, by omega, by go_num, hid (HP.out.below HBA.out)⟩
            case measure => simp [intOf]; omega
          · obtain rfl : m = 5 := by omega
            have HHO := HP.out.kept.hold
            go_wp2_with (go_at_call 13; go_loud (refine HHO.mono ?_; rintro e w7 ⟨rfl, hb7⟩; have HB7 := hid hb7; clear hb7))
            go_ret
            have hW := HP.out.bel.trans (HB7.out.mono HP.out.bel.size)
            exact ⟨rfl, HB1.out.trans (hW.mono HB1.out.size)⟩
end PaceApart
end Go.Proofs.YtebfokjgeknciabGreatDoor
