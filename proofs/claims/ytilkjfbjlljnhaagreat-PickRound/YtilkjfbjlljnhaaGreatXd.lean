import Derived.Test.YtilkjfbjlljnhaaGreatXc
namespace Go.Proofs.YtilkjfbjlljnhaaGreat
namespace Vr
open Go.Shelf Go.RowKit Go.Lib Go.Sort Go.Maps Go.ChangeMaps Go.MapKept Laws Irw Crw
set_option linter.unusedVariables false
set_option linter.unusedSimpArgs false
set_option maxRecDepth 20000
/-- the scores' own cells -/
def S3 (w : World) (sb so : Nat) : Prop := w.cell? ⟨sb, so + 0, none⟩ = some (.int .i64 1000) ∧ w.cell? ⟨sb, so + 1, none⟩ = some (.int .i64 1220) ∧ w.cell? ⟨sb, so + 2, none⟩ = some (.int .i64 1098)
theorem S3.below {w w' : World} {sb so : Nat} (h : S3 w sb so) (hb : RowKit.Below w.heap.size w w') : S3 w' sb so :=
  ⟨(hb.cell (p := ⟨sb, so + 0, none⟩) (World.block_lt_of_cell? w _ h.1)).trans h.1, (hb.cell (p := ⟨sb, so + 1, none⟩) (World.block_lt_of_cell? w _ h.2.1)).trans h.2.1, (hb.cell (p := ⟨sb, so + 2, none⟩) (World.block_lt_of_cell? w _ h.2.2)).trans h.2.2⟩
theorem S3.at {w : World} {sb so : Nat} (h : S3 w sb so) (k : Nat) (hk : k < 3) : ∃ x : Int, w.cell? ⟨sb, so + k, none⟩ = some (.int .i64 x) ∧ 1000 ≤ x := by
  have : k = 0 ∨ k = 1 ∨ k = 2 := by omega
  rcases this with rfl | rfl | rfl
  · exact ⟨_, h.1, by omega⟩
  · exact ⟨_, h.2.1, by omega⟩
  · exact ⟨_, h.2.2, by omega⟩
def z3 : List Int := [0, 1, 2]
theorem z3_take (k : Nat) (hk : k < 3) : z3.take (k + 1) = z3.take k ++ [(k : Int)] := by
  have : k = 0 ∨ k = 1 ∨ k = 2 := by omega
  rcases this with rfl | rfl | rfl <;> rfl
set_option maxHeartbeats 2000000 in
theorem due_ex (w : World) (sb so sc : Nat) (hs : S3 w sb so) :
    Calls Tryz.prog 33 #[.slice (some ⟨sb, so, none⟩) 3 sc] w fun e w' => ∃ g cap, e = .returned (.slice (some ⟨g, 0, none⟩) 3 cap) ∧ 3 ≤ cap ∧ Zb w' g (st3 3) ∧ RowKit.Below w.heap.size w w' := by
  obtain ⟨iz, hi, hz0, hz1, hz2⟩ := info_parts infoI
  have HB0 : Hid (RowKit.Below w.heap.size w (w.alloc (Obj.cells #[.slice (some ⟨sb, so, none⟩) 3 sc] 48)) ∧ Zb (w.alloc (Obj.cells #[.slice (some ⟨sb, so, none⟩) 3 sc] 48)) w.heap.size [.slice (some ⟨sb, so, none⟩) 3 sc]) := ⟨(Below.refl _ _).alloc (Nat.le_refl _) _, Zb.new w #[.slice (some ⟨sb, so, none⟩) 3 sc] 48⟩
  have HS := hidV hs
  clear hs
  go_enter Tryz.func33, Tryz.ntmps33
  go_wp2
  generalize hW1 : w.alloc (Obj.cells #[.slice (some ⟨sb, so, none⟩) 3 sc] 48) = w1 at *
  clear hW1
  go_loopw [3, 8] (fun o i wr => ∃ (k : Nat) (s : Sv) (T : Nat → Nat), k ≤ 3 ∧ o = .slice s.1 s.2.1 s.2.2 ∧ i = .int .i64 (k : Int) ∧ Hid (Old w1 T wr ∧ OwnK kI 1 T wr (svV s) (z3.take k))) (fun _ i _ => 3 - (intOf i).toNat)
  case atStart => exact ⟨0, nS, fun _ => 0, by omega, rfl, rfl, Old.first w1, OwnK.empty _ _ _⟩
  case round =>
    obtain ⟨k, ⟨ra, rn, rc⟩, T, hk, rfl, rfl, HX⟩ := hrel
    simp only at *
    by_cases hlt : k < 3
    · have q1 : (k : Int) < 3 := by omega
      obtain ⟨x, hx, hx1⟩ := (HS.out.below (HB0.out.1.trans (HX.out.1.below.mono HB0.out.1.size))).at k hlt
      have q2 : x ≥ 1000 := hx1
      have hsl : (z3.take k).length = k := by rw [List.length_take]; show min k 3 = k; omega
      have HF : Hid (z3.take (k + 1) = z3.take k ++ [(k : Int)]) := z3_take k hlt
      go_wp2_with ((at_builtin; go_loud (refine wpList_appK kI _ (by rfl) (.tmp 15) (.tmp 17) 48 (by rfl) iz Tryz.underlying48 hi hz0 hz1 hz2 1 T (.slice ra rn rc) (z3.take k) (by rfl) (HX.out.2.below ((Below.refl _ _).alloc (Nat.le_refl _) _)) (some ⟨wr.heap.size, 0, none⟩) 1 1 [(k : Int)] (by rfl) rfl (by simp) (isK_int _ _) (by simp; omega) ?_; intro a' c' T' w3 ho3 hg3; have HY : Hid (OwnK kI 1 T' w3 (.slice a' ((z3.take k).length + 1) c') (z3.take k ++ [(k : Int)]) ∧ Goes (· = 1) T wr T' w3) := ⟨ho3, (Goes.below (t := (· = 1)) ((Below.refl _ _).alloc (Nat.le_refl _) _)).trans hg3⟩; clear ho3 hg3; simp only [List.length_singleton])))
      go_roundw
      case rel =>
        refine ⟨k + 1, (a', k + 1, c'), T', by omega, rfl, by go_num, HX.out.1.goes HY.out.2 (by decide), ?_⟩
        have h3 := HY.out.1
        rw [hsl] at h3
        rw [HF.out]
        exact h3
      case measure => simp [intOf]; omega
    · have hk3 : k = 3 := by omega
      subst hk3
      obtain ⟨g, cap, hv, hbg, hcap, hzg⟩ := own3 HX.out.2.1 (by decide)
      cases hv
      have HZ := hidV hzg
      have HBW : Hid (RowKit.Below w.heap.size w wr ∧ RowKit.Below w1.heap.size w1 wr) := ⟨HB0.out.1.trans (HX.out.1.below.mono HB0.out.1.size), HX.out.1.below⟩
      have HC : Hid (Calls Tryz.prog 49 #[.func (.func 68) #[] #[.pointer (some ⟨wr.heap.size, 0, none⟩)], .func (.func 51) #[] #[.pointer (some ⟨w.heap.size, 0, none⟩)]] (wr.alloc (.cells #[.slice (some ⟨g, 0, none⟩) 3 rc] 48)) fun e w' => ∃ g cap, e = .returned (.slice (some ⟨g, 0, none⟩) 3 cap) ∧ 3 ≤ cap ∧ Zb w' g (st3 3) ∧ RowKit.Below w.heap.size w w') := by
        have hb9 : RowKit.Below wr.heap.size wr (wr.alloc (.cells #[.slice (some ⟨g, 0, none⟩) 3 rc] 48)) := (Below.refl _ _).alloc (Nat.le_refl _) _
        have hsc : Sc3 (wr.alloc (.cells #[.slice (some ⟨g, 0, none⟩) 3 rc] 48)) w.heap.size sb so sc := by
          have h1 := HS.out.below (HBW.out.1.trans (hb9.mono HBW.out.1.size))
          have h2 := ((HB0.out.2.below HBW.out.2).below hb9).2.1 0 _ rfl
          exact ⟨h2, h1.1, h1.2.1, h1.2.2⟩
        refine (sorted_ex _ wr.heap.size g 0 rc w.heap.size sb so sc hsc (by simp) (by have := HZ.out.1; simp; omega) ((Zb.new wr #[.slice (some ⟨g, 0, none⟩) 3 rc] 48).2.1 0 _ rfl) (fun j hj => ?_)).mono ?_
        · have h := (HZ.out.below hb9).2.1 j
          have : j = 0 ∨ j = 1 ∨ j = 2 := by omega
          rcases this with rfl | rfl | rfl
          · exact h _ rfl
          · exact h _ rfl
          · exact h _ rfl
        · rintro e w' ⟨g', cap', he, hc', hg', hz', hb'⟩
          have hb8 := HBW.out.1.trans (hb9.mono HBW.out.1.size)
          exact ⟨g', cap', he, hc', hz', hb8.trans (hb'.mono hb8.size)⟩
      clear HX hzg
      go_wp2_with (first
        | (go_at_call 50; go_loud (refine (valuesI _ _ _ _).mono ?_; rintro e w8 ⟨rfl, rfl⟩))
        | (go_at_call 49; go_loud (refine HC.out.mono ?_; rintro e w9 ⟨g9, cap9, rfl, hc9, hh9⟩; have HH := hidV hh9; clear hh9)))
      go_ret
      exact ⟨g9, cap9, rfl, hc9, HH.out⟩
end Vr
end Go.Proofs.YtilkjfbjlljnhaaGreat
