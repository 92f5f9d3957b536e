import Derived.Test.YtaejjpbpnedblaaGreatXd
import Derived.Test.YtaejjpbpnedblaaGreatWl
namespace Go.Proofs.YtaejjpbpnedblaaGreat
namespace Vr
open Go.Shelf Go.RowKit Go.Lib Go.Sort Go.Maps Go.ChangeMaps Go.MapKept Laws Irw Crw
set_option linter.unusedVariables false
set_option linter.unusedSimpArgs false
set_option maxRecDepth 20000
/-! the chapter's example -/
def exC : Cf := fun k => if k = 5 then 2 else if k = 7 then 4 else if k = 8 then 4 else if k = 9 then 4096 else if k = 10 then 2 else if k = 12 then 2 else 0
def exT (no : Nat) (we : Int) (le gr : UInt8) : Tb := ⟨no, we, 0, 0, ⟨#[le]⟩, ⟨#[gr]⟩⟩
def exV : Lv := [[exT 9 500 98 100, exT 12 500 99 107], [exT 3 2000 97 99, exT 4 2000 101 112, exT 5 1000 113 122], [exT 6 3000 100 102, exT 7 3000 103 105, exT 8 2000 107 108, exT 10 1000 120 122], [exT 11 90000 97 122]]
theorem exC_r : Cr exC exV.length := ⟨rfl, by decide, by decide, by decide, by decide, by decide, by decide, by decide⟩
theorem exV_we : WeV exV := by
  intro l hl t ht
  simp only [exV, List.mem_cons, List.not_mem_nil, or_false] at hl
  rcases hl with rfl | rfl | rfl | rfl
  all_goals (simp only [List.mem_cons, List.not_mem_nil, or_false] at ht; first | (rcases ht with rfl | rfl | rfl | rfl) | (rcases ht with rfl | rfl | rfl) | (rcases ht with rfl | rfl) | (rcases ht with rfl))
  all_goals (simp only [exT]; omega)
theorem exV_no : NumOk exV := by
  intro l hl t ht
  simp only [exV, List.mem_cons, List.not_mem_nil, or_false] at hl
  rcases hl with rfl | rfl | rfl | rfl
  all_goals (simp only [List.mem_cons, List.not_mem_nil, or_false] at ht; first | (rcases ht with rfl | rfl | rfl | rfl) | (rcases ht with rfl | rfl | rfl) | (rcases ht with rfl | rfl) | (rcases ht with rfl))
  all_goals (simp only [exT, U64]; omega)
theorem exV_scs : scs exC exV = [1000, 1220, 1098] := by decide
theorem exV_l0 : (lev exV 0).length = 2 := by decide
set_option maxHeartbeats 2000000 in
theorem order_ex (vb : Nat) (w : World) (h : VAt w vb exV) :
    Calls Tryz.prog 14 #[.agg (cfgA exC), .pointer (some ⟨vb, 0, none⟩)] w fun e w' => ∃ g cap, e = .returned (.slice (some ⟨g, 0, none⟩) 3 cap) ∧ 3 ≤ cap ∧ Zb w' g (st3 3) ∧ RowKit.Below w.heap.size w w' := by
  have hL0 := lc_new w exC 23
  have HB0 : Hid (RowKit.Below w.heap.size w (w.alloc (Obj.cells (cfgA exC) 23)) ∧ Lc (w.alloc (Obj.cells (cfgA exC) 23)) w.heap.size exC) := ⟨(Below.refl _ _).alloc (Nat.le_refl _) _, hL0⟩
  have HSc : Hid (Calls Tryz.prog 15 #[.agg (cfgA exC), .pointer (some ⟨vb, 0, none⟩)] (w.alloc (Obj.cells (cfgA exC) 23)) fun e w' => ∃ sb cap, e = .returned (.slice (some ⟨sb, 0, none⟩) 3 cap) ∧ S3 w' sb 0 ∧ RowKit.Below (w.alloc (Obj.cells (cfgA exC) 23)).heap.size (w.alloc (Obj.cells (cfgA exC) 23)) w') := by
    refine (scores_any exC vb exV _ (h.below HB0.out.1) exV_we exC_r).mono ?_
    rintro e w' ⟨s, T, rfl, ho, hold⟩
    rw [exV_scs] at ho
    obtain ⟨g, cap, hv, _, _, hz⟩ := own3 ho.1 (by decide)
    rw [hv]
    exact ⟨g, cap, rfl, ⟨hz.2.1 0 _ rfl, hz.2.1 1 _ rfl, hz.2.1 2 _ rfl⟩, hold.below⟩
  have HTb : Hid (∀ W, RowKit.Below w.heap.size w W → Calls Tryz.prog 16 #[.pointer (some ⟨vb, 0, none⟩), .int .i64 0] W fun e w' => ∃ a c, e = .returned (.slice a 2 c) ∧ RowKit.Below W.heap.size W w') := fun W hb => (tables_any vb exV 0 W (h.below hb)).mono fun e w' ⟨s, he, hn, hb2⟩ => by
    obtain ⟨g, hs, _⟩ := hn
    rw [he, hs, exV_l0]
    exact ⟨_, _, rfl, hb2⟩
  clear h
  go_enter Tryz.func14, Tryz.ntmps14
  go_upto_region 3 with (first
    | (refine wpList_cfg (by rfl) _ (by rfl) (by rfl) hL0 ?_)
    | (go_at_call 15; go_loud (refine HSc.out.mono ?_; rintro e w1 ⟨sb, cap1, rfl, hs1, hb1⟩; have HS1 := hidV (And.intro hs1 (HB0.out.1.trans (hb1.mono HB0.out.1.size))); have HB1 := hidV hb1; clear hs1 hb1))
    | (go_at_call 55; go_loud (refine (due_ex w1 sb 0 cap1 HS1.out.1).mono ?_; rintro e w2 ⟨g, cap, rfl, hcap, hz2, hb2⟩; have HZ2 := hidV (And.intro hz2 (HS1.out.2.trans (hb2.mono HS1.out.2.size))); have HB2 := hidV hb2; clear hz2 hb2)))
  have hL2 : Lc w2 w.heap.size exC := (HB0.out.2.keep (by simp) HB1.out).keep (by have := HB1.out.size; simp at this; omega) HB2.out
  have hz2 : w.heap.size < w2.heap.size := by have h1 := HB1.out.size; have h2 := HB2.out.size; simp at h1; omega
  have HL2 := hidV (And.intro hL2 hz2)
  have c7 : w2.cell? ⟨w.heap.size, 7, none⟩ = some (.int .i64 4) := hL2.cell 7 rfl
  clear hL0 hL2
  go_region_with (go_at_call 16; go_loud (refine (HTb.out _ (bl_dn HZ2.out.2 1)).mono ?_; rintro e w3 ⟨a3, c3, rfl, hb3⟩; have HB3 : Hid (RowKit.Below w2.heap.size w2 w3) := (bl_dn (Below.refl _ _) 1).trans hb3; have d7 : w3.cell? ⟨w.heap.size, 7, none⟩ = some (.int .i64 4) := (HB3.out.cell (p := ⟨w.heap.size, 7, none⟩) hz2).trans c7; clear hb3))
  all_goals (
    go_wp2_with fail
    go_ret
    exact ⟨g, cap, rfl, hcap, HZ2.out.1.below HB3.out, HZ2.out.2.trans (HB3.out.mono HZ2.out.2.size)⟩)
end Vr
end Go.Proofs.YtaejjpbpnedblaaGreat
