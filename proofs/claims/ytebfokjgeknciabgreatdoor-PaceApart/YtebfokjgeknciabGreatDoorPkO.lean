import Derived.Test.YtebfokjgeknciabGreatDoorPkN
namespace Go.Proofs.YtebfokjgeknciabGreatDoor
namespace Pcm
open Go.RowKit Laws Irw Lin
set_option linter.unusedVariables false
set_option linter.unusedSimpArgs false
set_option maxRecDepth 20000

theorem wpList_stC {ops : Array Oper} {rest : List Oper} {op : Oper} {a : Act} {w : World} {Q : Exit → Act → World → Prop} {c : Cf} {Z : Array Value} (hgd : op.guard = none) (x y : Operand) (ho : op.op = .store 65 x y) (hx : a.eval x = .pointer (some ⟨w.heap.size, 0, none⟩)) (hy : a.eval y = .agg (cfgA c)) (hZ : Z.size = 27)
    (h : wpList Tryz.prog ops Q rest (a.put op.dst undef) (w.alloc (.cells (cfgA c) 65))) : wpList Tryz.prog ops Q (op :: rest) a (w.alloc (.cells Z 65)) := by
  refine wpList_skipR hgd ?_ h
  unfold execOp
  rw [ho]
  show (do Instr.storeAt 65 (a.eval x) (a.eval y); pure Next.skip : Sem Next).run Tryz.prog _ = _
  rw [hx, hy]
  exact run_skipR (run_storeAt_new w 65 Z (cfgA c) (by exact infoCfg) hZ (by simp [cfgA, Value.oneCell']))
theorem wpList_cfgG {ops : Array Oper} {rest : List Oper} {op : Oper} {a : Act} {w : World} {Q : Exit → Act → World → Prop} {c : Cf} {b : Nat} (hw : Region.wanted op (yielded ops a.tmps) = true) (x : Operand) (ho : op.op = .load 65 x) (hx : a.eval x = .pointer (some ⟨b, 0, none⟩)) (hc : Lc w b c)
    (h : wpList Tryz.prog ops Q rest (a.put op.dst (.agg (cfgA c))) w) : wpList Tryz.prog ops Q (op :: rest) a w :=
  wpList_step fun K hK => by
    rw [if_pos hw]
    exact wp_load_mid _ x ho b 0 hx (cfgA c).toList _ hc Tryz.underlying65 rfl (Lc.info c) (by rw [toC]; exact hK _ _ h)
/-- one field is written -/
theorem Lc.set23 {w : World} {B : Nat} (h : Lc w B exC) : Lc (w.setCell ⟨B, 23, none⟩ (.int .i64 86012)) B exD := fun j v hv => by
  by_cases hj : j = 23
  · subst hj
    have e : v = .int .i64 86012 := by
      have : (cfgA exD).toList[23]? = some (.int .i64 86012) := rfl
      rw [this] at hv
      exact (Option.some.inj hv).symm
    subst e
    exact World.cell?_setCell_same _ _ _ (h.cell 23 rfl)
  · rw [World.cell?_setCell_other _ ⟨B, 23, none⟩ ⟨B, 0 + j, none⟩ _ (fun e => hj (by have := congrArg Addr.off e; simp at this; omega))]
    have hv' : (cfgA exC).toList[j]? = some v := by
      rw [← hv]
      have hs : (cfgA exD).toList = (cfgA exC).toList.set 23 (.int .i64 86012) := rfl
      rw [hs, List.getElem?_set_ne (by omega)]
    exact h j v hv'
theorem isI_owns {B : Nat} {w : World} {a : Option Addr} {n c : Nat} {l : List Int} (h : w.ownsRow B 3 1 (.slice a n c) n (cellsI l)) (hn : n = l.length) : IsI w a l := by
  subst hn
  rcases h.2 with ⟨h1, h2⟩ | ⟨g, cap, cur, hv, hb, hh, hc, hr⟩
  · have : l = [] := List.eq_nil_of_length_eq_zero h2
    rw [this]
    exact IsI.nil _ _
  · cases hv
    refine IsI.of ⟨(h.lt g rfl).2, fun i x hx => ?_⟩
    have hi : i < l.length := (List.getElem?_eq_some_iff.1 hx).1
    rw [Nat.zero_add, h.cellAt _ (by omega)]
    exact cellsI_get hx
def KnA (w : World) (V : World) : Prop := Below w.heap.size w V
set_option maxHeartbeats 4000000 in
theorem known_any (w : World) : Calls Tryz.prog 4 #[] w fun e w' => e = .returned (.bool true) ∧ Below w.heap.size w w' := by
  have HCk : ∀ V, Calls Tryz.prog 15 #[.agg (cfgA exC)] V fun e w' => e = .returned (.tuple #[.int .i64 0, .int .i64 0]) ∧ Below V.heap.size V w' := fun V => by
    have := check_any exC exC_r V
    rw [(ck_none exC_ok).1, (ck_none exC_ok).2] at this
    exact this
  have HMem : ∀ V, Calls Tryz.prog 16 #[.agg (cfgA exC)] V fun e w' => e = .returned (.int .i64 21503) ∧ Below V.heap.size V w' := fun V => by
    have := memCapF_any exC exC_r V
    rw [rk_yes exC_ok, exC_mem] at this
    exact this
  have HSum : ∀ V, Calls Tryz.prog 17 #[.agg (cfgA exC)] V fun e w' => e = .returned (.int .i64 4096) ∧ Below V.heap.size V w' := fun V => by
    have := limitSumF_any exC exC_r V
    rw [rk_yes exC_ok, exC_sum] at this
    exact this
  have HFile : ∀ V, Calls Tryz.prog 18 #[.agg (cfgA exC)] V fun e w' => e = .returned (.int .i64 3135) ∧ Below V.heap.size V w' := fun V => by
    have := fileCapF_any exC exC_r V
    rw [rk_yes exC_ok, exC_file] at this
    exact this
  have HDebt : ∀ V, Calls Tryz.prog 19 #[.agg (cfgA exC)] V fun e w' => e = .returned (.int .i64 103420) ∧ Below V.heap.size V w' := fun V => by
    have := debtCapF_any exC exC_r V
    rw [rk_yes exC_ok, exC_debt] at this
    exact this
  have HCk2 : ∀ V, Calls Tryz.prog 15 #[.agg (cfgA exD)] V fun e w' => e = .returned (.tuple #[.int .i64 23, .int .i64 150]) ∧ Below V.heap.size V w' := fun V => by
    have := check_any exD exD_r V
    rw [(ck_some exD_bad).1, (ck_some exD_bad).2] at this
    exact this
  have HMem2 : ∀ V, Calls Tryz.prog 16 #[.agg (cfgA exD)] V fun e w' => e = .returned (.int .i64 0) ∧ Below V.heap.size V w' := fun V => by
    have := memCapF_any exD exD_r V
    rw [rk_no (by rw [exD_bad]; simp)] at this
    exact this
  go_enter Tryz.func4, Tryz.ntmps4
  go_upto_region 2 with (first | (go_at_call 14; go_loud (refine (example_any _).mono ?_; rintro e w1 ⟨rfl, hb1⟩; have HB1 := hid hb1; clear hb1)) | (refine wpList_stC (by rfl) _ _ (by rfl) (by rfl) (by rfl) (by rfl) ?_))
  have hL1 := lc_new w1 exC 65
  have hz1 : w1.heap.size < (w1.alloc (.cells (cfgA exC) 65)).heap.size := by simp
  have HF1 : Hid ((w1.alloc (.cells (cfgA exC) 65)).frozen? ⟨w1.heap.size, 23, none⟩ = false) := hid (by simp)
  have HBW : Hid (Below w.heap.size w (w1.alloc (.cells (cfgA exC) 65))) := HB1.out.alloc HB1.out.size _
  have HBS : Hid (w.heap.size ≤ w1.heap.size) := HB1.out.size
  generalize (w1.alloc (.cells (cfgA exC) 65)) = W at *
  generalize w1.heap.size = B at *
  clear HB1
  go_upto_region 5 with (first | (refine wpList_cfgG (by rfl) _ (by rfl) (by rfl) hL1 ?_) | (refine wpList_cfgG (by rfl) _ (by rfl) (by rfl) hL2 ?_) | (refine wpList_cfgG (by rfl) _ (by rfl) (by rfl) hL3 ?_) | (refine wpList_cfgG (by rfl) _ (by rfl) (by rfl) hL4 ?_) | (refine wpList_cfgG (by rfl) _ (by rfl) (by rfl) hL5 ?_) | (go_at_call 15; go_loud (refine (HCk _).mono ?_; rintro e w2 ⟨rfl, hb2⟩; have HB2 : Hid (Below W.heap.size W w2) := hb2; have hL2 := hL1.keep hz1 hb2; clear hb2)) | (go_at_call 16; go_loud (refine (HMem _).mono ?_; rintro e w3 ⟨rfl, hb3⟩; have HB3 : Hid (Below W.heap.size W w3) := HB2.out.trans (hb3.mono HB2.out.size); have hL3 := hL1.keep hz1 HB3.out; clear hb3)) | (go_at_call 17; go_loud (refine (HSum _).mono ?_; rintro e w4 ⟨rfl, hb4⟩; have HB4 : Hid (Below W.heap.size W w4) := HB3.out.trans (hb4.mono HB3.out.size); have hL4 := hL1.keep hz1 HB4.out; clear hb4)) | (go_at_call 18; go_loud (refine (HFile _).mono ?_; rintro e w5 ⟨rfl, hb5⟩; have HB5 : Hid (Below W.heap.size W w5) := HB4.out.trans (hb5.mono HB4.out.size); have hL5 := hL1.keep hz1 HB5.out; clear hb5)) | (go_at_call 19; go_loud (refine (HDebt _).mono ?_; rintro e w6 ⟨rfl, hb6⟩; have HB6 : Hid (Below W.heap.size W w6) := HB5.out.trans (hb6.mono HB5.out.size); clear hb6)))
  have hL6 : Lc w6 B exC := hL1.keep hz1 HB6.out
  have k23 := hL6.cell 23 (v := .int .i64 86013) rfl
  have f23 : w6.frozen? ⟨B, 23, none⟩ = false := (HB6.out.frozen (p := ⟨B, 23, none⟩) hz1).trans HF1.out
  have hLd := hL6.set23
  have hz6 : B < (w6.setCell ⟨B, 23, none⟩ (.int .i64 86012)).heap.size := by have := HB6.out.size; simp; omega
  have HBA : Hid (Below w.heap.size w w6) := HBW.out.trans (HB6.out.mono HBW.out.size)
  clear hL1 hL2 hL3 hL4 hL5 HB2 HB3 HB4 HB5 HF1 HCk HMem HSum HFile HDebt hL6
  go_upto_region 9 with (first | (refine wpList_cfgG (by rfl) _ (by rfl) (by rfl) hLd ?_) | (refine wpList_cfgG (by rfl) _ (by rfl) (by rfl) hL7 ?_) | (go_at_call 15; go_loud (refine (HCk2 _).mono ?_; rintro e w7 ⟨rfl, hb7⟩; have HB7 := hid hb7; have hL7 := hLd.keep hz6 hb7; clear hb7)) | (go_at_call 16; go_loud (refine (HMem2 _).mono ?_; rintro e w8 ⟨rfl, hb8⟩; have HB8 := hid hb8; clear hb8)))
  have HBX : Hid (Below w.heap.size w w8) := by
    have h1 : Below w.heap.size w (w6.setCell ⟨B, 23, none⟩ (.int .i64 86012)) := HBA.out.setCell (p := ⟨B, 23, none⟩) HBS.out _
    have h2 := h1.trans (HB7.out.mono h1.size)
    exact h2.trans (HB8.out.mono h2.size)
  have hm25 : mayB 25 [] 7 = true := rfl
  have hmL25 : mayL 25 [] 7 = [] := rfl
  have ht40 : takeV 25 40 = -15 := rfl
  have hlv : leaveL [] 7 = [] := rfl
  have hm8 : mayB (-15) [] 8 = false := rfl
  have hmL8 : mayL (-15) [] 8 = [8] := rfl
  have hm7 : mayB (-15) [8] 7 = false := rfl
  have hmL7 : mayL (-15) [8] 7 = [8, 7] := rfl
  have HNW : Calls Tryz.prog 5 #[.int .i64 10, .int .i64 25] w8 fun e w' => ∃ p T', e = .returned (.pointer (some ⟨p, 0, none⟩)) ∧ BkAt 1 T' w' p 10 25 25 [] ∧ Goes (fun _ => False) (fun _ => 0) w8 T' w' ∧ Below w8.heap.size w8 w' := newBucket_any 1 (fun _ => 0) 10 25 (by unfold R64; omega) (by unfold R64; omega) w8 (fun _ _ => rfl)
  have HM25 : ∀ T V p, BkAt 1 T V p 10 25 25 [] → Calls Tryz.prog 20 #[.pointer (some ⟨p, 0, none⟩), .int .i64 7] V fun e w' => e = .returned (.bool true) ∧ BkIs 1 T V p 10 25 25 [] w' := fun T V p h => by
    have := may_any 1 T V p 10 25 25 [] 7 h (by simp)
    rw [hm25, hmL25] at this
    exact this
  have HTK : ∀ T V p, BkAt 1 T V p 10 25 25 [] → Calls Tryz.prog 21 #[.pointer (some ⟨p, 0, none⟩), .int .i64 7, .int .i64 40] V fun e w' => e = .returned (.tuple #[]) ∧ BkIs 1 T V p 10 25 (-15) [] w' := fun T V p h => by
    have := take_any 1 T V p 10 25 25 [] 7 40 h (by simp) (by unfold R64; omega)
    rw [ht40, hlv] at this
    exact this
  have HM8 : ∀ T V p, BkAt 1 T V p 10 25 (-15) [] → Calls Tryz.prog 20 #[.pointer (some ⟨p, 0, none⟩), .int .i64 8] V fun e w' => e = .returned (.bool false) ∧ BkIs 1 T V p 10 25 (-15) [8] w' := fun T V p h => by
    have := may_any 1 T V p 10 25 (-15) [] 8 h (by simp)
    rw [hm8, hmL8] at this
    exact this
  have HM7 : ∀ T V p, BkAt 1 T V p 10 25 (-15) [8] → Calls Tryz.prog 20 #[.pointer (some ⟨p, 0, none⟩), .int .i64 7] V fun e w' => e = .returned (.bool false) ∧ BkIs 1 T V p 10 25 (-15) [8, 7] w' := fun T V p h => by
    have := may_any 1 T V p 10 25 (-15) [8] 7 h (by simp)
    rw [hm7, hmL7] at this
    exact this
  have hb0 : ¬ bkT 1 0 := by unfold bkT; omega
  clear hm25 hmL25 ht40 hlv hm8 hmL8 hm7 hmL7 hLd hL7 hz6 k23 f23 HB7 HB8 HBA HBW HBS hz1 HCk2 HMem2 HB6
  have HO8 : Hid (Old w8 (fun _ => 0) w8) := Old.first w8
  go_upto_region 13 with (first | (go_at_call 5; go_loud (refine HNW.mono ?_; rintro e w9 ⟨p, T9, rfl, hk9, hg9, hb9⟩; have HK9 := hid hk9; have HO9 : Hid (Old w8 T9 w9) := HO8.out.goes hg9 (fun z => z); clear hk9 hg9 hb9)) | (go_at_call 12; go_loud (refine (tokens_any 1 T9 w9 p 10 25 25 [] HK9.out).mono ?_; rintro e w99 ⟨rfl, hw9⟩; have hw8 := hw9.symm; clear hw9; subst hw8)) | (go_at_call 20; go_loud (refine (HM25 T9 w9 p HK9.out).mono ?_; rintro e w10 ⟨rfl, T10, hk10, hg10⟩; have HK10 := hid hk10; have HO10 : Hid (Old w8 T10 w10) := HO9.out.goes hg10 hb0; clear hk10 hg10)) | (go_at_call 21; go_loud (refine (HTK T10 w10 p HK10.out).mono ?_; rintro e w11 ⟨rfl, T11, hk11, hg11⟩; have HK11 := hid hk11; have HO11 : Hid (Old w8 T11 w11) := HO10.out.goes hg11 hb0; clear hk11 hg11)))
  have HLN : ∀ T V p, BkAt 1 T V p 10 25 (-15) [8, 7] → Calls Tryz.prog 9 #[.pointer (some ⟨p, 0, none⟩)] V fun e w' => ∃ a c, e = .returned (.slice a 2 c) ∧ IsI w' a [8, 7] ∧ Below V.heap.size V w' := fun T V p h => by
    refine (line_any 1 T V p 10 25 (-15) [8, 7] h (by simp)).mono ?_
    rintro e w' ⟨a, c, he, ho, hb⟩
    exact ⟨a, c, he, isI_owns ho rfl, hb⟩
  clear HNW HM25 HTK HO8 HK9 HO9 HK10 HO10
  go_wp2_with (first | (go_at_call 12; go_loud (refine (tokens_any 1 T11 w11 p 10 25 (-15) [] HK11.out).mono ?_; rintro e w99 ⟨rfl, hw9⟩; have hw8 := hw9.symm; clear hw9; subst hw8)) | (go_at_call 20; revert HK12; intro HK12; go_loud (refine (HM7 T12 w12 p HK12.out).mono ?_; rintro e w13 ⟨rfl, T13, hk13, hg13⟩; have HK13 := hid hk13; have HO13 : Hid (Old w8 T13 w13) := HO12.out.goes hg13 hb0; clear hk13 hg13)) | (go_at_call 20; go_loud (refine (HM8 T11 w11 p HK11.out).mono ?_; rintro e w12 ⟨rfl, T12, hk12, hg12⟩; have HK12 := hid hk12; have HO12 : Hid (Old w8 T12 w12) := HO11.out.goes hg12 hb0; clear hk12 hg12)) | (go_at_call 9; go_loud (refine (HLN T13 w13 p HK13.out).mono ?_; rintro e w14 ⟨a14, c14, rfl, hi14, hb14⟩; have HI14 := hid hi14; have HB14 : Hid (Below w8.heap.size w8 w14) := HO13.out.below.trans (hb14.mono HO13.out.below.size); clear hi14 hb14)) | (go_at_call 10; go_loud (refine (sameInts_true a14 (some ⟨w14.heap.size, 0, none⟩) c14 2 2 [8, 7] _ (HI14.out.below ((Below.refl _ _).alloc (Nat.le_refl _) _)) (IsI.of (row_new w14 [8, 7] _ _ rfl)) rfl (by omega)).mono ?_; rintro e w15 ⟨rfl, n15, hw15⟩; have HB15 : Hid (Below w8.heap.size w8 w15) := (by rw [hw15]; exact below_drewN (HB14.out.alloc HB14.out.size _) n15); clear hw15)))
  go_ret
  exact ⟨rfl, HBX.out.trans (HB15.out.mono HBX.out.size)⟩

end Pcm
end Go.Proofs.YtebfokjgeknciabGreatDoor
