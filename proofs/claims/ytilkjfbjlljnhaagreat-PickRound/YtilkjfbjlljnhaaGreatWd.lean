import Derived.Test.YtilkjfbjlljnhaaGreatWc
namespace Go.Proofs.YtilkjfbjlljnhaaGreat
namespace Vr
open Go.Shelf Go.RowKit Go.Lib Go.Sort Go.Maps Go.ChangeMaps Go.MapKept Laws Irw Crw
set_option linter.unusedVariables false
set_option linter.unusedSimpArgs false
set_option maxRecDepth 20000
def kI : Knd Int := ⟨3, 1, 8, .int .i64 0, fun x => [.int .i64 x], fun _ => rfl, fun x u hu => by simp at hu; subst hu; rfl, by omega, rfl, by omega⟩
theorem infoI : (Tryz.prog.info? 3).map (fun i => (i.zero, i.size, i.bytes)) = some (some kI.zero, 1, 8) := by kernel_rfl
/-- a list of one's own of any kind is answered -/
def OwIs {α : Type} (K : Knd α) (w : World) (l : List α) (e : Ending) (w' : World) : Prop := ∃ (s : Sv) (T : Nat → Nat), e = .returned (svV s) ∧ OwnK K 1 T w' (svV s) l ∧ Old w T w'
theorem isK_int (w : World) (x : Int) : IsK kI (w.alloc (.cells #[.int .i64 x] 3)) (some ⟨w.heap.size, 0, none⟩) [x] := by
  have h := Zb.new w #[.int .i64 x] 3
  refine IsK.of ⟨h.1, fun i e he j u hu => ?_⟩
  have hi : i = 0 := by
    have := (List.getElem?_eq_some_iff.1 he).1
    simp at this
    omega
  subst hi
  simp at he
  subst he
  rw [Nat.zero_mul, Nat.zero_add]
  exact h.2.1 j u (by simpa [kI] using hu)
theorem old_back {w W : World} {T : Nat → Nat} {w' : World} (hb : RowKit.Below w.heap.size w W) (h : Old W T w') : Old w T w' :=
  ⟨hb.trans (h.below.mono hb.size), fun b hb' => h.zero b (by
    rcases hb' with hb' | hb'
    · exact .inl (Nat.lt_of_lt_of_le hb' hb.size)
    · exact .inr hb')⟩
set_option maxHeartbeats 4000000 in
theorem scores_any (c : Cf) (vb : Nat) (V : Lv) (w : World) (h : VAt w vb V) (hw : WeV V) (hc : Cr c V.length) : Calls Tryz.prog 14 #[.agg (cfgA c), .pointer (some ⟨vb, 0, none⟩)] w fun e w' => OwIs kI w (scs c V) e w' := by
  obtain ⟨iz, hi, hz0, hz1, hz2⟩ := info_parts infoI
  have hn3 := hc.n3
  have hn5 := hc.n5
  have hL0 := lc_new w c 23
  have HB0 : Hid (RowKit.Below w.heap.size w (w.alloc (Obj.cells (cfgA c) 23)) ∧ Lc (w.alloc (Obj.cells (cfgA c) 23)) w.heap.size c) := ⟨(Below.refl _ _).alloc (Nat.le_refl _) _, hL0⟩
  have HV : Hid (VAt w vb V ∧ WeV V ∧ Cr c V.length) := ⟨h, hw, hc⟩
  clear h hw hc
  go_enter Tryz.func14, Tryz.ntmps14
  go_wp2_with (first
    | (refine wpList_cfg (by rfl) _ (by rfl) (by rfl) hL0 ?_)
    | (go_at_call 26; go_loud (refine (last_any c vb V _ (HV.out.1.below HB0.out.1) HV.out.2.2).mono ?_; rintro e w1 ⟨rfl, hb1⟩; have HB1 : Hid (RowKit.Below w.heap.size w w1 ∧ Lc w1 w.heap.size c ∧ w.heap.size < w1.heap.size) := ⟨HB0.out.1.trans (hb1.mono HB0.out.1.size), HB0.out.2.keep (by simp) hb1, by have := hb1.size; simp at this; omega⟩; clear hb1)))
  clear hL0
  go_loopw [5, 10] (fun o i wr => ∃ (k : Nat) (s : Sv) (T : Nat → Nat), k ≤ V.length - 1 ∧ o = .slice s.1 s.2.1 s.2.2 ∧ i = .int .i64 (k : Int) ∧ Hid (Old w1 T wr ∧ OwnK kI 1 T wr (svV s) ((scs c V).take k))) (fun _ i _ => V.length - (intOf i).toNat)
  case atStart => exact ⟨0, nS, fun _ => 0, by omega, rfl, rfl, Old.first w1, OwnK.empty _ _ _⟩
  case round =>
    obtain ⟨k, ⟨ra, rn, rc⟩, T, hk, rfl, rfl, HX⟩ := hrel
    simp only at *
    rename World => wr
    by_cases hlt : k < V.length - 1
    · have q1 : (k : Int) < (V.length : Int) - 1 := by omega
      have hL1 : Lc wr w.heap.size c := HB1.out.2.1.keep HB1.out.2.2 HX.out.1.below
      have hsl : ((scs c V).take k).length = k := by rw [List.length_take, scs_len]; omega
      have hget : (scs c V)[k]? = some (scr c V k) := by
        unfold scs
        rw [List.getElem?_map, List.getElem?_range (by omega)]
        rfl
      have HF : Hid ((scs c V).take (k + 1) = (scs c V).take k ++ [scr c V k]) := by
        show _ = _
        rw [List.take_add_one, hget]; rfl
      go_wp2_with (first
        | (refine wpList_cfg (by rfl) _ (by rfl) (by rfl) hL1 ?_)
        | (go_at_call 32; go_loud (refine (score_any c vb V k _ (HV.out.1.below (HB1.out.1.trans (HX.out.1.below.mono HB1.out.1.size))) HV.out.2.1 HV.out.2.2 hlt).mono ?_; rintro e w2 ⟨rfl, hb2⟩; have HB2 : Hid (RowKit.Below wr.heap.size wr w2) := hb2; clear hb2))
        | (at_builtin; go_loud (refine wpList_appK kI _ (by rfl) (.tmp 13) (.tmp 18) 48 (by rfl) iz Tryz.underlying48 hi hz0 hz1 hz2 1 T (.slice ra rn rc) ((scs c V).take k) (by rfl) ((HX.out.2.below HB2.out).below ((Below.refl _ _).alloc (Nat.le_refl _) _)) (some ⟨w2.heap.size, 0, none⟩) 1 1 [scr c V k] (by rfl) rfl (by simp) (isK_int _ _) (by simp; omega) ?_; intro a' c' T' w3 ho3 hg3; have HY : Hid (OwnK kI 1 T' w3 (.slice a' (((scs c V).take k).length + 1) c') ((scs c V).take k ++ [scr c V k]) ∧ Goes (· = 1) T wr T' w3) := ⟨ho3, (Goes.below (t := (· = 1)) (HB2.out.alloc HB2.out.size _)).trans hg3⟩; clear ho3 hg3; simp only [List.length_singleton])))
      go_roundw
      case rel =>
        refine ⟨k + 1, (a', k + 1, c'), T', by omega, rfl, by go_num, HX.out.1.goes HY.out.2 (by decide), ?_⟩
        have h3 := HY.out.1
        rw [hsl] at h3
        rw [HF.out]
        exact h3
      case measure => simp [intOf]; omega
    · have q1 : ¬ (k : Int) < (V.length : Int) - 1 := by omega
      have HK : Hid ((scs c V).take k = scs c V) := by show _ = _; exact List.take_of_length_le (by rw [scs_len]; omega)
      go_wp2
      go_ret
      have h2 := HX.out.2
      rw [HK.out] at h2
      exact ⟨(ra, rn, rc), T, rfl, h2, old_back HB1.out.1 HX.out.1⟩
end Vr
end Go.Proofs.YtilkjfbjlljnhaaGreat
