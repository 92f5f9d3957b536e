import Derived.Test.YtebfokjgeknciabGreatDoorProg
import Derived.Test.YtebfokjgeknciabGreatDoorJN
import Derived.WalkKit
import Derived.WalkSpells
import Derived.WalkLawsBesides
import Derived.Deep.QuietTactic
import Derived.BigQuiet
import Derived.Deep.RegionLaw
import Derived.Deep.DrawnRows
namespace Go.Proofs.YtebfokjgeknciabGreatDoor
namespace BookI
open Go.RowKit Laws Irw
set_option linter.unusedVariables false
attribute [local go_sem ↓] Go.wp_at_zero Go.wp_at_succ

set_option maxRecDepth 100000 in
set_option maxHeartbeats 8000000 in
theorem markInts_any (T : Nat → Nat) (w : World) (K : Nat) (f : Nat → Value) (L : Nat → List Value) (o x : List (Item × Item)) (M D : List Int) (hC : Core T w K f L) (hO : Outs [] 0 T w o) (hX : Its 1000000 T w x)
    (l40 : L 13 = o.map fun p => vI p.1) (l41 : L 14 = o.map fun p => vI p.2) (h42 : L 15 = x.map fun p => vI p.1) (h43 : L 16 = x.map fun p => vI p.2) (l44 : L 17 = []) (h45 : L 18 = M.map (Value.int .i64)) (h46 : L 19 = D.map (Value.int .i64)) (l47 : L 20 = [])
    (lM : M.length = x.length) (lD : D.length = x.length) (full : ∀ p ∈ x, p.1.2.2.length ≤ p.1.2.1 ∧ p.1.2.2.length ≤ 1000000000000) (hx : x ≠ []) (hl : o.length + x.length ≤ 100000)
    (k0 : f 0 = .bool false) (k1 : f 1 = .bool false) (t : Int) (k2 : f 2 = .int .i64 t) :
    Calls Tryz.prog 92 #[.pointer (some ⟨K, 0, none⟩)] w fun e w' => e = .returned (.tuple #[]) ∧ ∃ T' f' L' o' x' M' D' Fm fr, MarkFin T w K f o x.length w' T' f' L' o' x' M' D' Fm fr := by
  have hxl : 0 < x.length := List.length_pos_iff.2 hx
  obtain ⟨gW, cW, fW, dW, zW, tW, rW⟩ := hC.at 15 (by omega) (by omega) (by rw [h42]; simpa using hx)
  obtain ⟨gN, cN, fN, dN, zN, tN, rN⟩ := hC.at 16 (by omega) (by omega) (by rw [h43]; simpa using hx)
  obtain ⟨gM, cM, fM, dM, zM, tM, rM⟩ := hC.at 18 (by omega) (by omega) (by rw [h45]; intro e; have := congrArg List.length e; simp at this; rw [this] at lM; simp at lM; omega)
  obtain ⟨gD, cD, fD, dD, zD, tD, rD⟩ := hC.at 19 (by omega) (by omega) (by rw [h46]; intro e; have := congrArg List.length e; simp at this; rw [this] at lD; simp at lD; omega)
  rw [h42] at dW rW
  rw [h43] at dN rN
  rw [h45] at dM rM
  rw [h46] at dD rD
  rw [List.length_map] at dW dN dM dD
  rw [lM] at dM
  rw [lD] at dD
  have q42 := (hC.fld.2 15 (by omega)).2
  have q43 := (hC.fld.2 16 (by omega)).2
  have q45 := (hC.fld.2 18 (by omega)).2
  have q46 := (hC.fld.2 19 (by omega)).2
  have HM : Hid (∃ f1 L1, MarkSt T w (set4 w K) K f o x [(gW, 4000042), (gN, 4000043), (gM, 4000045), (gD, 4000046)] 0 (set4 w K) (tag4 T gW gN gM gD) f1 L1 o [] [] [] [] []) := markInit hC hO hX l40 l41 l44 l47 (by omega) tW tN tM tD zW zN zM zD
  have k4 : Keep [K] w (set4 w K) := (((Keep.set w K 15 _).trans (Keep.set _ K 16 _)).trans (Keep.set _ K 18 _)).trans (Keep.set _ K 19 _)
  have nW : gW ∉ [K] := fun e => by simp at e; rw [e, hC.tag] at tW; omega
  have nN : gN ∉ [K] := fun e => by simp at e; rw [e, hC.tag] at tN; omega
  have nM : gM ∉ [K] := fun e => by simp at e; rw [e, hC.tag] at tM; omega
  have nD : gD ∉ [K] := fun e => by simp at e; rw [e, hC.tag] at tD; omega
  have RW : Hid (∀ i p, x[i]? = some p → (set4 w K).cell? ⟨gW, i, none⟩ = some (vI p.1)) := fun i p hp => (k4.cell (p := ⟨gW, i, none⟩) zW nW).trans (rW i _ (by rw [List.getElem?_map, hp]; rfl))
  have RN : Hid (∀ i p, x[i]? = some p → (set4 w K).cell? ⟨gN, i, none⟩ = some (vI p.2)) := fun i p hp => (k4.cell (p := ⟨gN, i, none⟩) zN nN).trans (rN i _ (by rw [List.getElem?_map, hp]; rfl))
  have RM : Hid (∀ i m, M[i]? = some m → (set4 w K).cell? ⟨gM, i, none⟩ = some (.int .i64 m)) := fun i p hp => (k4.cell (p := ⟨gM, i, none⟩) zM nM).trans (rM i _ (by rw [List.getElem?_map, hp]; rfl))
  have RD : Hid (∀ i m, D[i]? = some m → (set4 w K).cell? ⟨gD, i, none⟩ = some (.int .i64 m)) := fun i p hp => (k4.cell (p := ⟨gD, i, none⟩) zD nD).trans (rD i _ (by rw [List.getElem?_map, hp]; rfl))
  have e0 : ((x.length : Int) == 0) = false := by rw [beq_eq_false_iff_ne]; omega
  have HSAME : Hid (∀ (i : Nat) (p : Item × Item), x[i]? = some p → p.1.2.2 = p.2.2.2) := fun i p hi => (hX i p hi).2.2.1
  obtain ⟨i66, hi66, hy0, hy1, hy2⟩ := info_parts info66
  obtain ⟨i54, hi54, hz0, hz1, hz2⟩ := info_parts infoIn
  obtain ⟨i3, hi3, hx0, hx1, hx2⟩ := info_parts info3
  have HFULL : Hid (∀ p ∈ x, p.1.2.2.length ≤ p.1.2.1 ∧ p.1.2.2.length ≤ 1000000000000) := full
  have HK : Hid (f 0 = .bool false ∧ f 1 = .bool false ∧ f 2 = .int .i64 t) := ⟨k0, k1, k2⟩
  have HLL : Hid (M.length = x.length ∧ D.length = x.length) := ⟨lM, lD⟩
  clear hC hO hX fW fN fM fD rW rN rM rD l40 l41 h42 h43 l44 h45 h46 l47 full k0 k1 k2 lM lD k4 nW nN nM nD tW tN tM tD zW zN zM zD
  go_enter Tryz.func92, Tryz.ntmps92
  go_wp2
  go_loopw [6, 7, 8, 9] (fun i _ _ _ wr => ∃ k : Nat, k ≤ x.length ∧ i = .int .i64 k ∧ ∃ T' f' L' o' x' M' D' Fm fr, MarkSt T w (set4 w K) K f o x [(gW, 4000042), (gN, 4000043), (gM, 4000045), (gD, 4000046)] k wr T' f' L' o' x' M' D' Fm fr) (fun i _ _ _ _ => x.length - (intOf i).toNat)
  case atStart =>
    obtain ⟨f1, L1, hm⟩ := HM.out
    exact ⟨0, Nat.zero_le _, rfl, _, f1, L1, o, [], [], [], [], [], hm⟩
  case round =>
    obtain ⟨k, hk, rfl, T1, f1, L1, o1, x1, M1, D1, Fm, fr, hst⟩ := hrel
    have HST : Hid (MarkSt T w (set4 w K) K f o x [(gW, 4000042), (gN, 4000043), (gM, 4000045), (gD, 4000046)] k wr T1 f1 L1 o1 x1 M1 D1 Fm fr) := hst
    clear q42 q43 q45 q46 dW dN dM dD
    by_cases hlt : k < x.length
    · obtain ⟨p, hp⟩ : ∃ p, x[k]? = some p := ⟨_, List.getElem?_eq_getElem hlt⟩
      obtain ⟨mk, hmk⟩ : ∃ m, M[k]? = some m := ⟨_, List.getElem?_eq_getElem (by rw [HLL.out.1]; exact hlt)⟩
      obtain ⟨dk, hdk⟩ : ∃ m, D[k]? = some m := ⟨_, List.getElem?_eq_getElem (by rw [HLL.out.2]; exact hlt)⟩
      have oW := hst.spines (gW, 4000042) (by simp)
      have oN := hst.spines (gN, 4000043) (by simp)
      have oM := hst.spines (gM, 4000045) (by simp)
      have oD := hst.spines (gD, 4000046) (by simp)
      obtain ⟨pw1, pw2, _, _⟩ := hst.old k p (Nat.le_refl _) hp
      obtain ⟨ad1, cc1, ev1, ea1, _⟩ := vI_form pw1
      obtain ⟨ad2, cc2, ev2, ea2, _⟩ := vI_form pw2
      have HV1 : Hid (vI p.1 = .slice ad1 p.1.2.2.length cc1) := ev1
      have HV2 : Hid (vI p.2 = .slice ad2 p.2.2.2.length cc2) := ev2
      have HE1 : Hid (p.1.2.2 ≠ [] → ad1 = some ⟨p.1.1, 0, none⟩) := ea1
      have HE2 : Hid (p.2.2.2 ≠ [] → ad2 = some ⟨p.2.1, 0, none⟩) := ea2
      have uW : wr.cell? ⟨gW, k, none⟩ = some (.slice ad1 p.1.2.2.length cc1) := by rw [← ev1]; exact (World.cell?_of_block (a := ⟨gW, k, none⟩) oW.2.1).trans (RW.out k p hp)
      have uN : wr.cell? ⟨gN, k, none⟩ = some (.slice ad2 p.2.2.2.length cc2) := by rw [← ev2]; exact (World.cell?_of_block (a := ⟨gN, k, none⟩) oN.2.1).trans (RN.out k p hp)
      clear pw1 pw2 ev1 ev2 ea1 ea2
      have uM : wr.cell? ⟨gM, k, none⟩ = some (.int .i64 mk) := (World.cell?_of_block (a := ⟨gM, k, none⟩) oM.2.1).trans (RM.out k mk hmk)
      have uD : wr.cell? ⟨gD, k, none⟩ = some (.int .i64 dk) := (World.cell?_of_block (a := ⟨gD, k, none⟩) oD.2.1).trans (RD.out k dk hdk)
      have u2 : wr.cell? ⟨K, 2, none⟩ = some (.int .i64 t) := by rw [(hst.core.fld.2 2 (by omega)).1, hst.same 2 (by omega), HK.out.2.2]
      have x1' : (k : Int) < (x.length : Int) := by omega
      have x0 : (0 : Int) ≤ (k : Int) := by omega
      have HDK : Hid (D[k]? = some dk) := hdk
      clear oW oN oM oD hst hmk hdk
      have HP : Hid (x[k]? = some p) := hp
      clear hp
      by_cases hd : t < dk
      · go_wp2
        go_quiet (fail)
        have hst0 := HST.out.below (below_drewN (Below.refl _ _) nq)
        have sp0 : Hid (Spines T1 (set4 w K) (wr.drewN nq) [(gW, 4000042), (gN, 4000043), (gM, 4000045), (gD, 4000046)]) := hst0.spines
        have ns : x1.length ≤ 100000 := by have := hst0.cx; omega
        have n42 : (L1 15).length ≤ 100000 := by rw [hst0.l42]; simpa using ns
        have n43 : (L1 16).length ≤ 100000 := by rw [hst0.l43]; simpa using ns
        have n45 : (L1 18).length ≤ 100000 := by rw [hst0.l45, List.length_map, hst0.lM]; exact ns
        have n46 : (L1 19).length ≤ 100000 := by rw [hst0.l46, List.length_map, hst0.lD]; exact ns
        have zW := (hst0.core.fld.2 15 (by omega)).2
        have HC0 : Hid (Core T1 (wr.drewN nq) K f1 L1) := hst0.core
        have HST0 : Hid (MarkSt T w (set4 w K) K f o x [(gW, 4000042), (gN, 4000043), (gM, 4000045), (gD, 4000046)] k (wr.drewN nq) T1 f1 L1 o1 x1 M1 D1 Fm fr) := hst0
        have hK0 := hst0.core.fld.1
        obtain ⟨a42, c42, ef42, d42⟩ := hst0.core.len 15 (by omega) (by omega)
        have HF42 : Hid (f1 15 = .slice a42 (L1 15).length c42) := ef42
        have HO42 : Hid ((wr.drewN nq).ownsRow 0 33 1 (.slice a42 (L1 15).length c42) (L1 15).length (L1 15)) := by have := (hst0.core.spine 15 (by omega) (by omega)).1; rw [ef42] at this; exact this
        clear ef42
        clear hst0 HST ns
        clear uW uN uM uD u2
        generalize wr.drewN nq = W0 at *
        clear wr
        go_wp2_with (at_builtin; refine wpList_app _ (by rfl) (.tmp 68) (.tmp 70) 34 (by rfl) 0 33 i66 _ 1 24 Tryz.underlying34 hi66 hy0 hy1 hy2 rfl (by omega) (.slice a42 (L1 15).length c42) (L1 15).length (L1 15) (by rfl) (HO42.out.alloc _) ⟨W0.heap.size, 0, none⟩ 1 1 [.slice ad1 p.1.2.2.length cc1] (by rfl) (by rfl) (World.news_of_block (heap_alloc_new W0 _)) (by intro u hu; simp at hu; subst hu; rfl) (by intro _; omega) (by unfold maxLen; omega) (by omega) (Nat.zero_le _) (W0.heap.size + 1) (by simp) ?_; intro g2 c2 w2 hown2 hgr2 hat2 hlt2; have HR2 : Hid (Fld w2 K f1 ∧ ∃ T' f' L', App K 15 (.slice ad1 p.1.2.2.length cc1) T1 W0 f1 L1 T' (w2.setCell ⟨K, 15, none⟩ (.slice (some ⟨g2, 0, none⟩) ((L1 15).length + 1) c2)) f' L') := appE (by omega) (by omega) HC0.out rfl HF42.out (Keep.alloc [] _ _) hgr2 (hat2.imp id (by omega)) hown2; have s2 := (HR2.out.1.2 15 (by omega)).1; have z2 := (HR2.out.1.2 15 (by omega)).2; clear hown2 hgr2 hat2 hlt2)
        generalize w2.setCell ⟨K, 15, none⟩ (.slice (some ⟨g2, 0, none⟩) ((L1 15).length + 1) c2) = W2 at *
        obtain ⟨_, T2, f2, L2, ap2⟩ := HR2.out
        have AP2 : Hid (App K 15 _ _ _ _ _ T2 W2 f2 L2) := ap2
        have hK2 := ap2.core.fld.1
        clear HR2 s2 z2 HF42 HO42 d42
        have cN : W2.cell? ⟨gN, k, none⟩ = some (.slice ad2 p.2.2.2.length cc2) := by
          have q := (sp0.out.past ap2.past (by simp)) (gN, 4000043) (by simp)
          rw [← HV2.out]
          exact (World.cell?_of_block (a := ⟨gN, k, none⟩) q.2.1).trans (RN.out k p HP.out)
        have eL43 : L2 16 = L1 16 := (ap2.oth 16 (by omega)).2
        rw [← eL43] at n43
        have z43 := (ap2.core.fld.2 16 (by omega)).2
        obtain ⟨a43, c43, ef43, d43⟩ := ap2.core.len 16 (by omega) (by omega)
        have HF43 : Hid (f2 16 = .slice a43 (L2 16).length c43) := ef43
        have HO43 : Hid (W2.ownsRow 0 33 1 (.slice a43 (L2 16).length c43) (L2 16).length (L2 16)) := by have := (ap2.core.spine 16 (by omega) (by omega)).1; rw [ef43] at this; exact this
        clear ef43
        clear ap2 eL43
        go_region_law (first
          | (refine step_app _ (by rfl) (.tmp 78) (.tmp 83) 34 (by rfl) 0 33 i66 _ 1 24 Tryz.underlying34 hi66 hy0 hy1 hy2 rfl (by omega) (.slice a43 (L2 16).length c43) (L2 16).length (L2 16) (by rfl) (HO43.out.alloc _) ⟨W2.heap.size, 0, none⟩ 1 1 [.slice ad2 p.2.2.2.length cc2] (by rfl) (by rfl) (World.news_of_block (heap_alloc_new W2 _)) (by intro u hu; simp at hu; subst hu; rfl) (by intro _; omega) (by unfold maxLen; omega) (by omega) (Nat.zero_le _) (W2.heap.size + 1) (by simp) ?_; intro g3 c3 w3 hown3 hgr3 hat3 hlt3; have HR3 : Hid (Fld w3 K f2 ∧ ∃ T' f' L', App K 16 (.slice ad2 p.2.2.2.length cc2) T2 W2 f2 L2 T' (w3.setCell ⟨K, 16, none⟩ (.slice (some ⟨g3, 0, none⟩) ((L2 16).length + 1) c3)) f' L') := appE (by omega) (by omega) AP2.out.core rfl HF43.out ((Keep.alloc [] _ _).trans (Keep.drew [] _)) hgr3 (hat3.imp id (by omega)) hown3; have s3 := (HR3.out.1.2 16 (by omega)).1; have z3 := (HR3.out.1.2 16 (by omega)).2; clear hown3 hgr3 hat3 hlt3))
        all_goals
          generalize w3.setCell ⟨K, 16, none⟩ (.slice (some ⟨g3, 0, none⟩) ((L2 16).length + 1) c3) = W3 at *
          obtain ⟨_, T3, f3, L3, ap3⟩ := HR3.out
          have AP3 : Hid (App K 16 _ _ _ _ _ T3 W3 f3 L3) := ap3
          have hK3 := ap3.core.fld.1
          clear HR3 s3 z3 HF43 HO43 d43
          have eL45 : L3 18 = L1 18 := (ap3.oth 18 (by omega)).2.trans (AP2.out.oth 18 (by omega)).2
          rw [← eL45] at n45
          have z45 := (ap3.core.fld.2 18 (by omega)).2
          obtain ⟨a45, c45, ef45, d45⟩ := ap3.core.len 18 (by omega) (by omega)
          have HF45 : Hid (f3 18 = .slice a45 (L3 18).length c45) := ef45
          have HO45 : Hid (W3.ownsRow 0 3 1 (.slice a45 (L3 18).length c45) (L3 18).length (L3 18)) := by have := (ap3.core.spine 18 (by omega) (by omega)).1; rw [ef45] at this; exact this
          clear ef45
          clear ap3 eL45 cN
          go_wp2_with (at_builtin; refine wpList_app _ (by rfl) (.tmp 91) (.tmp 93) 33 (by rfl) 0 3 i3 _ 1 8 Tryz.underlying33 hi3 hx0 hx1 hx2 rfl (by omega) (.slice a45 (L3 18).length c45) (L3 18).length (L3 18) (by rfl) (HO45.out.alloc _) ⟨W3.heap.size, 0, none⟩ 1 1 [.int .i64 mk] (by rfl) (by rfl) (World.news_of_block (heap_alloc_new W3 _)) (by intro u hu; simp at hu; subst hu; rfl) (by intro _; omega) (by unfold maxLen; omega) (by omega) (Nat.zero_le _) (W3.heap.size + 1) (by simp) ?_; intro g4 c4 w4 hown4 hgr4 hat4 hlt4; have HR4 : Hid (Fld w4 K f3 ∧ ∃ T' f' L', App K 18 (.int .i64 mk) T3 W3 f3 L3 T' (w4.setCell ⟨K, 18, none⟩ (.slice (some ⟨g4, 0, none⟩) ((L3 18).length + 1) c4)) f' L') := appE (by omega) (by omega) AP3.out.core rfl HF45.out (Keep.alloc [] _ _) hgr4 (hat4.imp id (by omega)) hown4; have s4 := (HR4.out.1.2 18 (by omega)).1; have z4 := (HR4.out.1.2 18 (by omega)).2; clear hown4 hgr4 hat4 hlt4)
          generalize w4.setCell ⟨K, 18, none⟩ (.slice (some ⟨g4, 0, none⟩) ((L3 18).length + 1) c4) = W4 at *
          obtain ⟨_, T4, f4, L4, ap4⟩ := HR4.out
          have AP4 : Hid (App K 18 _ _ _ _ _ T4 W4 f4 L4) := ap4
          have hK4 := ap4.core.fld.1
          clear HR4 s4 z4 HF45 HO45 d45
          have cD : W4.cell? ⟨gD, k, none⟩ = some (.int .i64 dk) := by
            have q := (sp0.out.past ((AP2.out.past.trans AP3.out.past).trans ap4.past) (by simp)) (gD, 4000046) (by simp)
            exact (World.cell?_of_block (a := ⟨gD, k, none⟩) q.2.1).trans (RD.out k dk HDK.out)
          have eL46 : L4 19 = L1 19 := ((ap4.oth 19 (by omega)).2.trans (AP3.out.oth 19 (by omega)).2).trans (AP2.out.oth 19 (by omega)).2
          rw [← eL46] at n46
          have z46 := (ap4.core.fld.2 19 (by omega)).2
          obtain ⟨a46, c46, ef46, d46⟩ := ap4.core.len 19 (by omega) (by omega)
          have HF46 : Hid (f4 19 = .slice a46 (L4 19).length c46) := ef46
          have HO46 : Hid (W4.ownsRow 0 3 1 (.slice a46 (L4 19).length c46) (L4 19).length (L4 19)) := by have := (ap4.core.spine 19 (by omega) (by omega)).1; rw [ef46] at this; exact this
          clear ef46
          clear ap4 eL46
          go_region_law (first
            | (refine step_app _ (by rfl) (.tmp 101) (.tmp 106) 33 (by rfl) 0 3 i3 _ 1 8 Tryz.underlying33 hi3 hx0 hx1 hx2 rfl (by omega) (.slice a46 (L4 19).length c46) (L4 19).length (L4 19) (by rfl) (HO46.out.alloc _) ⟨W4.heap.size, 0, none⟩ 1 1 [.int .i64 dk] (by rfl) (by rfl) (World.news_of_block (heap_alloc_new W4 _)) (by intro u hu; simp at hu; subst hu; rfl) (by intro _; omega) (by unfold maxLen; omega) (by omega) (Nat.zero_le _) (W4.heap.size + 1) (by simp) ?_; intro g5 c5 w5 hown5 hgr5 hat5 hlt5; have HR5 : Hid (Fld w5 K f4 ∧ ∃ T' f' L', App K 19 (.int .i64 dk) T4 W4 f4 L4 T' (w5.setCell ⟨K, 19, none⟩ (.slice (some ⟨g5, 0, none⟩) ((L4 19).length + 1) c5)) f' L') := appE (by omega) (by omega) AP4.out.core rfl HF46.out ((Keep.alloc [] _ _).trans (Keep.drew [] _)) hgr5 (hat5.imp id (by omega)) hown5; have s5 := (HR5.out.1.2 19 (by omega)).1; have z5 := (HR5.out.1.2 19 (by omega)).2; clear hown5 hgr5 hat5 hlt5))
          all_goals
            generalize w5.setCell ⟨K, 19, none⟩ (.slice (some ⟨g5, 0, none⟩) ((L4 19).length + 1) c5) = W5 at *
            obtain ⟨_, T5, f5, L5, ap5⟩ := HR5.out
            have AP5 : Hid (App K 19 _ _ _ _ _ T5 W5 f5 L5) := ap5
            have hK5 := ap5.core.fld.1
            clear HR5 s5 z5 HF46 HO46 d46
            go_wp2
            go_roundw
            case rel =>
              obtain ⟨T', hm⟩ := markKeep HST0.out HP.out (HSAME.out k p HP.out) (HFULL.out p (List.mem_of_getElem? HP.out)) (by simp) (by omega) hl (by rw [HV1.out]; exact AP2.out) (by rw [HV2.out]; exact AP3.out) AP4.out AP5.out
              exact ⟨k + 1, by omega, by go_num, T', _, _, _, _, _, _, _, _, hm⟩
            case measure => simp [intOf]; omega
      · go_wp2
        go_quiet (fail)
        have hst0 := HST.out.below (below_drewN (Below.refl _ _) nq)
        have ns : x1.length + fr.length ≤ k := by have := hst0.cx; omega
        have no : o1.length = o.length + fr.length := hst0.co
        have n40 : (L1 13).length ≤ 100000 := by rw [hst0.l40]; simp; omega
        have n41 : (L1 14).length ≤ 100000 := by rw [hst0.l41]; simp; omega
        have n44 : (L1 17).length ≤ 100000 := by rw [hst0.l44, List.length_map]; omega
        have n47 : (L1 20).length ≤ 100000 := by rw [hst0.l47, List.length_map, hst0.lF]; omega
        have y0 : (wr.drewN nq).cell? ⟨K, 0, none⟩ = some (.bool false) := by rw [(hst0.core.fld.2 0 (by omega)).1, hst0.same 0 (by omega), HK.out.1]
        have y1 : (wr.drewN nq).cell? ⟨K, 1, none⟩ = some (.bool false) := by rw [(hst0.core.fld.2 1 (by omega)).1, hst0.same 1 (by omega), HK.out.2.1]
        have v1 := (hst0.core.fld.2 1 (by omega)).2
        have hfu := HFULL.out p (List.mem_of_getElem? HP.out)
        have hsm := HSAME.out k p HP.out
        have yN : (wr.drewN nq).cell? ⟨gN, k, none⟩ = some (.slice ad2 p.1.2.2.length cc2) := by rw [hsm]; exact uN
        have HE2' : Hid (p.1.2.2 ≠ [] → ad2 = some ⟨p.2.1, 0, none⟩) := by show p.1.2.2 ≠ [] → _; rw [hsm]; exact HE2.out
        obtain ⟨r1, r2, _, _⟩ := hst0.old k p (Nat.le_refl _) HP.out
        have R1 : Hid (IRow (wr.drewN nq) p.1.1 0 p.1.2.2) := r1.row
        have R2 : Hid (IRow (wr.drewN nq) p.2.1 0 p.1.2.2) := by rw [hsm]; exact r2.row
        have RI : Hid (OwnI (wr.drewN nq) p.1) := r1
        have HFU : Hid (p.1.2.2.length ≤ p.1.2.1 ∧ p.1.2.2.length ≤ 1000000000000) := hfu
        have hpl := hfu.2
        have HST0 : Hid (MarkSt T w (set4 w K) K f o x [(gW, 4000042), (gN, 4000043), (gM, 4000045), (gD, 4000046)] k (wr.drewN nq) T1 f1 L1 o1 x1 M1 D1 Fm fr) := hst0
        have hK0 := hst0.core.fld.1
        clear hst0 HST uW uN uM uD u2 r1 r2 hfu hsm
        generalize wr.drewN nq = W0 at *
        clear wr
        go_wp2_with (go_at_call 66; refine (sameK_any ad1 cc1 ad2 cc2 p.1.1 p.2.1 p.1.2.2.length p.1.2.2 W0 R1.out R2.out HE1.out HE2'.out rfl (by omega)).mono ?_; rintro e w' ⟨rfl, hb⟩; have y1' := (hb.cell (p := ⟨K, 1, none⟩) hK0).trans y1; have v1' := (hb.frozen (p := ⟨K, 1, none⟩) hK0).trans v1; have hK1 := Nat.lt_of_lt_of_le hK0 hb.size; have HB : Hid (Below W0.heap.size W0 w') := hb; clear hb)
        have HST1 : Hid (MarkSt T w (set4 w K) K f o x [(gW, 4000042), (gN, 4000043), (gM, 4000045), (gD, 4000046)] k (w'.setCell ⟨K, 1, none⟩ (.bool false)) T1 (upd f1 1 (.bool false)) L1 o1 x1 M1 D1 Fm fr) := (HST0.out.below HB.out).field1 HK.out.2.1 (by simp)
        have hp1 : OwnI (w'.setCell ⟨K, 1, none⟩ (.bool false)) p.1 ∧ T1 p.1.1 = 1000000 + 2 * k := by
          obtain ⟨q1, _, q3, _⟩ := HST1.out.old k p (Nat.le_refl _) HP.out
          exact ⟨q1, q3⟩
        have HP1 : Hid (OwnI (w'.setCell ⟨K, 1, none⟩ (.bool false)) p.1 ∧ T1 p.1.1 = 1000000 + 2 * k) := hp1
        clear hp1 HST0 RI R1 R2 HB y0 y1 v1 y1' v1' yN hK0 hK1
        generalize w'.setCell ⟨K, 1, none⟩ (.bool false) = W1 at *
        generalize upd f1 1 (.bool false) = f2 at *
        clear w' W0
        go_loopw [9] (fun i wi => ∃ n : Nat, n ≤ p.1.2.2.length ∧ i = .int .i64 n ∧ Keep [p.1.1] W1 wi ∧ ∃ es', es'.length = p.1.2.2.length ∧ OwnI wi (p.1.1, p.1.2.1, es')) (fun i _ => p.1.2.2.length - (intOf i).toNat)
        case atStart => exact ⟨0, Nat.zero_le _, rfl, Keep.refl _ _, p.1.2.2, rfl, HP1.out.1⟩
        case round =>
          rename World => wi
          obtain ⟨n, hn, rfl, hkeep, es', hes, hown⟩ := hrel
          have HKE : Hid (Keep [p.1.1] W1 wi) := hkeep
          have HOW : Hid (OwnI wi (p.1.1, p.1.2.1, es')) := hown
          have HES : Hid (es'.length = p.1.2.2.length) := hes
          by_cases hnl : n < p.1.2.2.length
          · obtain ⟨xx, hx⟩ : ∃ xx, es'[n]? = some xx := ⟨_, List.getElem?_eq_getElem (by omega)⟩
            have b0 := hown.row.2 n _ hx
            simp only [Nat.zero_add] at b0
            have hpn : p.1.2.1 ≠ nilC := fun hh => by
              have h0 : es' = [] := hown.empty hh
              rw [h0] at hx
              simp at hx
            have v0 : wi.frozen? ⟨p.1.1, n, none⟩ = false := World.ownsRow.frozenAt (hown.own hpn) _
            have hadn : ad1 = some ⟨p.1.1, 0, none⟩ := HE1.out (by intro h0; rw [h0] at hnl; simp at hnl)
            rw [hadn]
            clear hadn hpn
            have hil := hown.lt
            have xn : (n : Int) < (p.1.2.2.length : Int) := by omega
            have xn0 : (0 : Int) ≤ (n : Int) := by omega
            clear hx hkeep hown hes
            go_wp2
            go_roundw
            case rel =>
              refine ⟨n + 1, by omega, by go_num, ?_, _, ?_, HOW.out.store⟩
              · exact HKE.out.trans (Keep.set _ _ _ _)
              · rw [List.length_set]; exact HES.out
            case measure => simp [intOf]; omega
          · have hC : Core T1 wi K f2 L1 := HST1.out.core.keep hkeep (by simp [HP1.out.2]; omega)
            have HC0 : Hid (Core T1 wi K f2 L1) := hC
            have z40 := (hC.fld.2 13 (by omega)).2
            have hK0 := hC.fld.1
            obtain ⟨a40, c40, ef40, d40⟩ := hC.len 13 (by omega) (by omega)
            have HF40 : Hid (f2 13 = .slice a40 (L1 13).length c40) := ef40
            have HO40 : Hid (wi.ownsRow 0 33 1 (.slice a40 (L1 13).length c40) (L1 13).length (L1 13)) := by have := (hC.spine 13 (by omega) (by omega)).1; rw [ef40] at this; exact this
            clear ef40
            clear hC hkeep hown hes
            go_wp2_with (at_builtin; refine wpList_app _ (by rfl) (.tmp 150) (.tmp 152) 34 (by rfl) 0 33 i66 _ 1 24 Tryz.underlying34 hi66 hy0 hy1 hy2 rfl (by omega) (.slice a40 (L1 13).length c40) (L1 13).length (L1 13) (by rfl) (HO40.out.alloc _) ⟨wi.heap.size, 0, none⟩ 1 1 [.slice ad1 p.1.2.2.length cc1] (by rfl) (by rfl) (World.news_of_block (heap_alloc_new wi _)) (by intro u hu; simp at hu; subst hu; rfl) (by intro _; omega) (by unfold maxLen; omega) (by omega) (Nat.zero_le _) (wi.heap.size + 1) (by simp) ?_; intro g2 c2 w2 hown2 hgr2 hat2 hlt2; have HR2 : Hid (Fld w2 K f2 ∧ ∃ T' f' L', App K 13 (.slice ad1 p.1.2.2.length cc1) T1 wi f2 L1 T' (w2.setCell ⟨K, 13, none⟩ (.slice (some ⟨g2, 0, none⟩) ((L1 13).length + 1) c2)) f' L') := appE (by omega) (by omega) HC0.out rfl HF40.out (Keep.alloc [] _ _) hgr2 (hat2.imp id (by omega)) hown2; have s2 := (HR2.out.1.2 13 (by omega)).1; have z2 := (HR2.out.1.2 13 (by omega)).2; clear hown2 hgr2 hat2 hlt2)
            generalize w2.setCell ⟨K, 13, none⟩ (.slice (some ⟨g2, 0, none⟩) ((L1 13).length + 1) c2) = W2 at *
            obtain ⟨_, T2, f3, L2, ap2⟩ := HR2.out
            have AP2 : Hid (App K 13 _ _ _ _ _ T2 W2 f3 L2) := ap2
            have hK2 := ap2.core.fld.1
            clear HR2 s2 z2 HF40 HO40 d40
            have hi2 := ap2.past.item HOW.out (.inr (by show 21 ≤ T1 p.1.1; rw [HP1.out.2]; omega))
            have HI2 : Hid (OwnI W2 (p.1.1, p.1.2.1, es')) := hi2.1
            have eL41 : L2 14 = L1 14 := (ap2.oth 14 (by omega)).2
            rw [← eL41] at n41
            have z41 := (ap2.core.fld.2 14 (by omega)).2
            obtain ⟨a41, c41, ef41, d41⟩ := ap2.core.len 14 (by omega) (by omega)
            have HF41 : Hid (f3 14 = .slice a41 (L2 14).length c41) := ef41
            have HO41 : Hid (W2.ownsRow 0 33 1 (.slice a41 (L2 14).length c41) (L2 14).length (L2 14)) := by have := (ap2.core.spine 14 (by omega) (by omega)).1; rw [ef41] at this; exact this
            clear ef41
            have hev : vI (p.1.1, p.1.2.1, es') = .slice ad1 p.1.2.2.length cc1 := by
              rw [← HV1.out]
              unfold vI
              simp only
              rw [HES.out]
            have HON : Hid ((ad1 = none → p.1.2.2.length = 0 ∧ cc1 = 0 ∧ cellsI es' = []) ∧ (cellsI es').length = p.1.2.2.length * 1 ∧ ∀ b, ad1 = some b → ∀ j u, (cellsI es')[j]? = some u → (W2.alloc (.cells #[] 3)).cell? (b.add j) = some u) := (HI2.out.below ((Below.refl _ _).alloc (Nat.le_refl _) _)).news hev
            clear hev
            clear ap2 eL41 hi2
            go_region_law (first
              | (refine step_appO _ (by rfl) (.tmp 161) (.tmp 162) 33 (by rfl) 0 3 i54 _ 1 8 Tryz.underlying33 hi54 hz0 hz1 hz2 rfl (by omega) W2.heap.size 0 0 [] (by rfl) (World.ownsRow_lit W2 #[] 0 (Nat.zero_le _) (by simp [maxLen]) (by simp)) ad1 p.1.2.2.length cc1 (cellsI es') (by rfl) HON.out.1 HON.out.2.1 HON.out.2.2 (cellsI_one _) (by unfold maxLen; omega) (by omega) (Nat.zero_le _) (W2.heap.size + 1) (by simp) ?_; intro gc cc w3 hown3 hgr3 hat3 hlt3; have HW3 : Hid (Below W2.heap.size W2 w3 ∧ W2.heap.size ≤ gc ∧ w3.ownsRow 0 3 1 (.slice (some ⟨gc, 0, none⟩) p.1.2.2.length cc) p.1.2.2.length (cellsI es')) := copied hgr3 hat3 hown3; have y41 := (HW3.out.1.cell (p := ⟨K, 14, none⟩) hK2).trans d41; have q41 := (HW3.out.1.frozen (p := ⟨K, 14, none⟩) hK2).trans z41; have hK4 : K < w3.heap.size := Nat.lt_of_lt_of_le hK2 HW3.out.1.size; clear hown3 hgr3 hat3)
              | (refine step_app _ (by rfl) (.tmp 160) (.tmp 164) 34 (by rfl) 0 33 i66 _ 1 24 Tryz.underlying34 hi66 hy0 hy1 hy2 rfl (by omega) (.slice a41 (L2 14).length c41) (L2 14).length (L2 14) (by rfl) ((own_below HO41.out HW3.out.1).alloc _) ⟨w3.heap.size, 0, none⟩ 1 1 [.slice (some ⟨gc, 0, none⟩) p.1.2.2.length cc] (by rfl) (by rfl) (World.news_of_block (heap_alloc_new w3 _)) (by intro u hu; simp at hu; subst hu; rfl) (by intro _; omega) (by unfold maxLen; omega) (by omega) (Nat.zero_le _) (w3.heap.size + 1) (by simp) ?_; intro g4 c4 w4 hown4 hgr4 hat4 hlt4; have HR4 : Hid (Fld w4 K f3 ∧ ∃ T' f' L', App K 14 (.slice (some ⟨gc, 0, none⟩) p.1.2.2.length cc) T2 W2 f3 L2 T' (w4.setCell ⟨K, 14, none⟩ (.slice (some ⟨g4, 0, none⟩) ((L2 14).length + 1) c4)) f' L' ∧ OwnI (w4.setCell ⟨K, 14, none⟩ (.slice (some ⟨g4, 0, none⟩) ((L2 14).length + 1) c4)) (gc, cc, es') ∧ T' gc = 100) := appCE 100 (by omega) (by omega) (by omega) AP2.out.core rfl HF41.out HW3.out.1 HW3.out.2.1 HES.out HW3.out.2.2 (Keep.alloc [] _ _) hgr4 (hat4.imp id (by omega)) hown4; have p41 := (HR4.out.1.2 14 (by omega)).1; have v41 := (HR4.out.1.2 14 (by omega)).2; clear hown4 hgr4 hat4))
            all_goals
              generalize w4.setCell ⟨K, 14, none⟩ (.slice (some ⟨g4, 0, none⟩) ((L2 14).length + 1) c4) = W4 at *
              obtain ⟨_, T4, f4, L4, ap4, o4, t4⟩ := HR4.out
              have AP4 : Hid (App K 14 _ _ _ _ _ T4 W4 f4 L4) := ap4
              have HO4 : Hid (OwnI W4 (gc, cc, es') ∧ T4 gc = 100) := ⟨o4, t4⟩
              have hK5 := ap4.core.fld.1
              have HCC : Hid (cc ≠ nilC) := own_cap HW3.out.2.2
              clear HR4 p41 v41 HF41 HO41 d41 HON y41 q41 hK4 HW3 o4 t4
              have eL44 : L4 17 = L1 17 := (ap4.oth 17 (by omega)).2.trans (AP2.out.oth 17 (by omega)).2
              rw [← eL44] at n44
              have z44 := (ap4.core.fld.2 17 (by omega)).2
              obtain ⟨a44, c44, ef44, d44⟩ := ap4.core.len 17 (by omega) (by omega)
              have HF44 : Hid (f4 17 = .slice a44 (L4 17).length c44) := ef44
              have HO44 : Hid (W4.ownsRow 0 33 1 (.slice a44 (L4 17).length c44) (L4 17).length (L4 17)) := by have := (ap4.core.spine 17 (by omega) (by omega)).1; rw [ef44] at this; exact this
              clear ef44
              have eL47 : L4 20 = L1 20 := (ap4.oth 20 (by omega)).2.trans (AP2.out.oth 20 (by omega)).2
              rw [← eL47] at n47
              obtain ⟨a47, c47, ef47, d47⟩ := ap4.core.len 20 (by omega) (by omega)
              have HF47 : Hid (f4 20 = .slice a47 (L4 20).length c47) := ef47
              clear ap4 eL44 eL47 d47 ef47
              go_wp2_with (first
                | (at_builtin; refine wpList_app _ (by rfl) (.tmp 172) (.tmp 174) 34 (by rfl) 0 33 i66 _ 1 24 Tryz.underlying34 hi66 hy0 hy1 hy2 rfl (by omega) (.slice a44 (L4 17).length c44) (L4 17).length (L4 17) (by rfl) (HO44.out.alloc _) ⟨W4.heap.size, 0, none⟩ 1 1 [.slice ad1 p.1.2.2.length cc1] (by rfl) (by rfl) (World.news_of_block (heap_alloc_new W4 _)) (by intro u hu; simp at hu; subst hu; rfl) (by intro _; omega) (by unfold maxLen; omega) (by omega) (Nat.zero_le _) (W4.heap.size + 1) (by simp) ?_; intro g6 c6 w6 hown6 hgr6 hat6 hlt6; have HR6 : Hid (Fld w6 K f4 ∧ ∃ T' f' L', App K 17 (.slice ad1 p.1.2.2.length cc1) T4 W4 f4 L4 T' (w6.setCell ⟨K, 17, none⟩ (.slice (some ⟨g6, 0, none⟩) ((L4 17).length + 1) c6)) f' L') := appE (by omega) (by omega) AP4.out.core rfl HF44.out (Keep.alloc [] _ _) hgr6 (hat6.imp id (by omega)) hown6; have s6 := (HR6.out.1.2 17 (by omega)).1; have z6 := (HR6.out.1.2 17 (by omega)).2; clear hown6 hgr6 hat6 hlt6; have s47 : w6.cell? ⟨K, 20, none⟩ = some (.slice a47 (L4 20).length c47) := (HR6.out.1.2 20 (by omega)).1.trans (congrArg some HF47.out); obtain ⟨hfl6, T6, f6, L6, ap6⟩ := HR6.out; have AP6 : Hid (App K 17 (.slice ad1 p.1.2.2.length cc1) T4 W4 f4 L4 T6 (w6.setCell ⟨K, 17, none⟩ (.slice (some ⟨g6, 0, none⟩) ((L4 17).length + 1) c6)) f6 L6) := ap6; have eL : L6 20 = L4 20 := (ap6.oth 20 (by omega)).2; have ef : f6 20 = .slice a47 (L6 20).length c47 := (by rw [eL]; exact (ap6.oth 20 (by omega)).1.trans HF47.out); have HF47' : Hid (f6 20 = .slice a47 (L6 20).length c47) := ef; have HO47 : Hid ((w6.setCell ⟨K, 17, none⟩ (.slice (some ⟨g6, 0, none⟩) ((L4 17).length + 1) c6)).ownsRow 0 3 1 (.slice a47 (L6 20).length c47) (L6 20).length (L6 20)) := (by have := (ap6.core.spine 20 (by omega) (by omega)).1; rw [ef] at this; exact this); rw [← eL] at n47 s47; have z47 := (hfl6.2 11 (by omega)).2; clear ap6 eL ef hfl6)
                | (at_builtin; refine wpList_app _ (by rfl) (.tmp 182) (.tmp 184) 33 (by rfl) 0 3 i3 _ 1 8 Tryz.underlying33 hi3 hx0 hx1 hx2 rfl (by omega) (.slice a47 (L6 20).length c47) (L6 20).length (L6 20) (by rfl) (HO47.out.alloc _) ⟨w6.heap.size, 0, none⟩ 1 1 [.int .i64 mk] (by rfl) (by rfl) (by rw [show w6.heap.size = (w6.setCell ⟨K, 17, none⟩ (.slice (some ⟨g6, 0, none⟩) ((L4 17).length + 1) c6)).heap.size from (by simp)]; exact World.news_of_block (heap_alloc_new (w6.setCell ⟨K, 17, none⟩ (.slice (some ⟨g6, 0, none⟩) ((L4 17).length + 1) c6)) _)) (by intro u hu; simp at hu; subst hu; rfl) (by intro _; omega) (by unfold maxLen; omega) (by omega) (Nat.zero_le _) ((w6.setCell ⟨K, 17, none⟩ (.slice (some ⟨g6, 0, none⟩) ((L4 17).length + 1) c6)).heap.size + 1) (by simp) ?_; intro g7 c7 w7 hown7 hgr7 hat7 hlt7; have HR7 : Hid (Fld w7 K f6 ∧ ∃ T' f' L', App K 20 (.int .i64 mk) T6 (w6.setCell ⟨K, 17, none⟩ (.slice (some ⟨g6, 0, none⟩) ((L4 17).length + 1) c6)) f6 L6 T' (w7.setCell ⟨K, 20, none⟩ (.slice (some ⟨g7, 0, none⟩) ((L6 20).length + 1) c7)) f' L') := appE (by omega) (by omega) AP6.out.core rfl HF47'.out (Keep.alloc [] _ _) hgr7 (hat7.imp id (by omega)) hown7; have s7 := (HR7.out.1.2 20 (by omega)).1; have z7 := (HR7.out.1.2 20 (by omega)).2; clear hown7 hgr7 hat7 hlt7))
              generalize w7.setCell ⟨K, 20, none⟩ (.slice (some ⟨g7, 0, none⟩) ((L6 20).length + 1) c7) = W7 at *
              obtain ⟨_, T7, f7, L7, AP7⟩ := HR7.out
              go_roundw
              case rel =>
                have a4' : App K 14 (vI (gc, cc, es')) T2 W2 f3 L2 T4 W4 f4 L4 := by rw [vI_not HCC.out]; simp only; rw [HES.out]; exact AP4.out
                obtain ⟨T', hm⟩ := markMove HST1.out HP.out HFU.out (by simp) (by omega) hl HKE.out HOW.out HES.out (by rw [HV1.out]; exact AP2.out) a4' HO4.out.1 HO4.out.2 (by rw [HV1.out]; exact AP6.out) AP7
                exact ⟨k + 1, by omega, by go_num, T', _, _, _, _, _, _, _, _, hm⟩
              case measure => simp [intOf]; omega
    · have hkk : k = x.length := by omega
      subst hkk
      have HST1 := HST.out
      clear hst
      go_wp2
      go_end0
      obtain ⟨T', hm⟩ := markExit HST1 (by omega) hl
      exact ⟨rfl, T', _, _, _, _, _, _, _, _, hm⟩

end BookI
end Go.Proofs.YtebfokjgeknciabGreatDoor
