import Derived.Test.YtcmbogogakdeoaaDoorProg
import Derived.Test.YtcmbogogakdeoaaDoorTxp
import Derived.Test.YtcmbogogakdeoaaDoorLgG
import Derived.Test.YtcmbogogakdeoaaDoorLaws
import Derived.WalkKit
import Derived.WalkSpells
import Derived.WalkLawsBesides
import Derived.Deep.QuietTactic
import Derived.BigQuiet
import Derived.Deep.RegionLaw
import Derived.Deep.RegionHeld3
namespace Go.Proofs.YtcmbogogakdeoaaDoor
namespace Lgp
open Go.RowKit CMath Byt Cod Lg Laws
set_option linter.unusedVariables false
set_option linter.unusedSimpArgs false
set_option maxRecDepth 20000

theorem own_below' {w w' : World} {base n : Nat} {e : TypeId} {v : Value} {xs : List Value} (h : w.ownsRow base e 1 v n xs) (hb : Below w.heap.size w w') : w'.ownsRow base e 1 v n xs := (Keep.below (bs := []) hb).own h (by simp)

set_option maxHeartbeats 1000000 in
theorem appendCount_any (base : Nat) (v : Value) (pre : List Nat) (n : Nat) (x : Int) (w : World) (hx : x = n) (hn : n < 9223372036854775808) (hown : w.ownsRow base 5 1 v pre.length (cellsB pre)) (hpre : ∀ x ∈ pre, x < 256) (hbase : base ≤ w.heap.size) (h47 : pre.length + 10 ≤ 140737488355328) :
    Calls Tryd.prog 18 #[v, .int .i64 x] w fun e w' => ∃ v, e = .returned v ∧ Own 5 base w' v (pre ++ num n) ∧ Below base w w' := by
  subst hx
  obtain ⟨i8, hi, hz0, hz1, hz2⟩ := info_parts info8
  have h10 := num_le10 (n := n) (by omega)
  have hp := num_pos n
  have HO : Hid (w.ownsRow base 5 1 v pre.length (cellsB pre)) := hown
  have HP : Hid (∀ x ∈ pre, x < 256) := hpre
  clear hown hpre
  go_enter Tryd.func18, Tryd.ntmps18
  go_wp2_with (first
    | (go_at_call 17; refine (putUint_n none 0 0 [] n w (IsB.nil _ _) (fun _ => rfl) (by simp) (by omega) rfl).mono ?_; rintro e w1 ⟨v1, rfl, ho1, hb1⟩; rw [List.nil_append] at ho1; obtain ⟨g1, c1, rfl, hg1, hgs1, hc1, hI1⟩ := ho1.isB; have HX : Hid (IsB w1 (some ⟨g1, 0, none⟩) (num n)) := hI1; have HB1 : Hid (Below w.heap.size w w1) := hb1; have HO1 : Hid (w1.ownsRow base 5 1 v pre.length (cellsB pre)) := own_below' HO.out hb1; have hs1 := hb1.size; clear ho1 hb1 hI1)
    | (at_builtin; refine wpList_appB (by rfl) (.tmp 5) (.tmp 8) 23 (by rfl) base 5 i8 Tryd.underlying23 hi hz0 hz1 hz2 _ pre pre.length (by rfl) HO1.out (some ⟨g1, 0, none⟩) (num n).length c1 (num n) (by rfl) rfl (by simp) HX.out (by omega) (by omega) ?_; intro v2 w2 hown2 hgr2 hnn2; have HR : Hid (Own 5 base w2 v2 (pre ++ num n) ∧ Below base w w2) := ⟨Own.pos hown2 (byte_app HP.out (num_byte n)) (by omega), below_of (HB1.out.mono hbase) hgr2 hbase (fun j hj => (HO1.out.lt j hj).1)⟩; clear hown2 hgr2 hnn2))
  go_ret
  exact ⟨v2, rfl, HR.out.1, HR.out.2⟩

set_option maxHeartbeats 1000000 in
theorem appendText_any (base : Nat) (pv : Value) (pre : List Nat) (s : ByteArray) (w : World) (hown : w.ownsRow base 5 1 pv pre.length (cellsB pre)) (hpre : ∀ x ∈ pre, x < 256) (hbase : base ≤ w.heap.size) (h47 : pre.length + 20 + s.size ≤ 140737488355328) :
    Calls Tryd.prog 30 #[pv, .string s] w fun e w' => ∃ v, e = .returned v ∧ Own 5 base w' v (pre ++ words (strB s)) ∧ Below base w w' ∧ Keep pv.ownBlock.toList w w' ∧ ∀ g, v.ownBlock = some g → pv.ownBlock = some g ∨ w.heap.size ≤ g := by
  obtain ⟨i8, hi, hz0, hz1, hz2⟩ := info_parts info8
  have h10 := num_le10 (n := s.size) (by omega)
  have hwl : (words (strB s)).length ≤ 10 + s.size := by simp [words, strB_length]; omega
  have hwp : 0 < (words (strB s)).length := by have := num_pos s.size; simp [words, strB_length]; omega
  have HO : Hid (w.ownsRow base 5 1 pv pre.length (cellsB pre)) := hown
  have HP : Hid (∀ x ∈ pre, x < 256) := hpre
  clear hown hpre
  go_enter Tryd.func30, Tryd.ntmps30
  go_wp2_with (first
    | (go_at_call 37; refine (putText_any none 0 0 [] s w (IsB.nil _ _) (fun _ => rfl) (by simp; omega) rfl).mono ?_; rintro e w1 ⟨v1, rfl, ho1, hb1⟩; rw [List.nil_append] at ho1; obtain ⟨g1, c1, rfl, hg1, hgs1, hc1, hI1⟩ := ho1.isB; have HX : Hid (IsB w1 (some ⟨g1, 0, none⟩) (words (strB s))) := hI1; have HB1 : Hid (Below w.heap.size w w1) := hb1; have HO1 : Hid (w1.ownsRow base 5 1 pv pre.length (cellsB pre)) := own_below' HO.out hb1; have hs1 := hb1.size; clear ho1 hb1 hI1)
    | (at_builtin; refine wpList_app _ (by rfl) (.tmp 5) (.tmp 7) 23 (by rfl) base 5 i8 _ 1 1 Tryd.underlying23 hi hz0 hz1 hz2 rfl (by omega) pv pre.length (cellsB pre) (by rfl) HO1.out ⟨g1, 0, none⟩ (words (strB s)).length c1 (cellsB (words (strB s))) (by rfl) (by rw [cellsB_length]; omega) (news_of HX.out _ rfl) (cellsB_one _) (by intro _; omega) (by unfold maxLen; omega) (by omega) (by omega) w1.heap.size rfl ?_; intro g2 c2 w2 hown2 hgr2 hat2 hlt2; have HR : Hid (Own 5 base w2 (.slice (some ⟨g2, 0, none⟩) (pre.length + (words (strB s)).length) c2) (pre ++ words (strB s)) ∧ Below base w w2 ∧ Keep pv.ownBlock.toList w w2 ∧ (pv.ownBlock = some g2 ∨ w.heap.size ≤ g2)) := ⟨Own.pos (by rw [cellsB_append]; exact hown2) (byte_app HP.out (words_byte (strB_byte s))) (by omega), below_of (HB1.out.mono hbase) hgr2 hbase (fun j hj => (HO1.out.lt j hj).1), (Keep.below HB1.out).trans (Keep.grown hgr2), hat2.imp id (fun e => by omega)⟩; clear hown2 hgr2 hat2 hlt2))
  go_ret
  exact ⟨_, rfl, HR.out.1, HR.out.2.1, HR.out.2.2.1, fun g hg => by cases hg; exact HR.out.2.2.2⟩

abbrev boxW (k : ByteArray) (d : Bool) (x : ByteArray) : Obj := .cells #[.string k, .bool d, .string x] 40
abbrev oneB (b : Nat) : Obj := .cells #[.int .u8 (b : Int)] 5
theorem news_one (w : World) (b : Nat) (hb : b < 256) : ∀ (j : Nat) (u : Value), [Value.int .u8 (b : Int)][j]? = some u → ((w.alloc (oneB b)).drew).cell? ((⟨w.heap.size, 0, none⟩ : Addr).add j) = some u :=
  fun j u hu => news_of (isB_new (w := w) (y := (b : Int)) (x := b) (T := 5) rfl hb) _ rfl j u hu
theorem grown_cell {w w' : World} {r : Option Nat} {p : Addr} {u : Value} (hg : w.grownBy w' r) (hp : p.block < w.heap.size) (hr : r ≠ some p.block) (h : w.cell? p = some u) : w'.cell? p = some u := (World.cell?_of_block (hg.block p.block hp (fun e => hr e.symm))).trans h
theorem box_keep {w3 w4 : World} {B : Nat} {pv : Value} {k x : ByteArray} (hk : Keep pv.ownBlock.toList w3 w4) (hB : B < w3.heap.size) (hg : pv.ownBlock ≠ some B) (h : w3.cell? ⟨B, 0, none⟩ = some (.string k) ∧ w3.cell? ⟨B, 2, none⟩ = some (.string x)) : w4.cell? ⟨B, 0, none⟩ = some (.string k) ∧ w4.cell? ⟨B, 2, none⟩ = some (.string x) := by
  have hm : B ∉ pv.ownBlock.toList := by simpa using hg
  exact ⟨(hk.cell (p := ⟨B, 0, none⟩) hB hm).trans h.1, (hk.cell (p := ⟨B, 2, none⟩) hB hm).trans h.2⟩
theorem wrB_true (k v : ByteArray) : wrB (k, true, v) = [1] ++ words (strB k) := rfl
theorem wrB_false (k v : ByteArray) : wrB (k, false, v) = [0] ++ words (strB k) ++ words (strB v) := rfl
set_option maxHeartbeats 2000000 in
theorem appendWrite_any (base : Nat) (v : Value) (pre : List Nat) (k : ByteArray) (d : Bool) (x : ByteArray) (w : World) (hown : w.ownsRow base 5 1 v pre.length (cellsB pre)) (hpre : ∀ x ∈ pre, x < 256) (hbase : base ≤ w.heap.size) (h47 : pre.length + 60 + k.size + x.size ≤ 140737488355328) :
    Calls Tryd.prog 19 #[v, .agg #[.string k, .bool d, .string x]] w fun e w' => ∃ v, e = .returned v ∧ Own 5 base w' v (pre ++ wrB (k, d, x)) ∧ Below base w w' := by
  obtain ⟨i8, hi, hz0, hz1, hz2⟩ := info_parts info8
  have h10 := num_le10 (n := k.size) (by omega)
  have hwl : (words (strB k)).length ≤ 10 + k.size := by simp [words, strB_length]; omega
  have HP : Hid (∀ x ∈ pre, x < 256) := hpre
  have HO : Hid (w.ownsRow base 5 1 v pre.length (cellsB pre)) := hown
  clear hown hpre
  cases d with
  | true =>
    have HOW : Hid ((((w.alloc (boxW k true x)).alloc (oneB 1)).drew).ownsRow base 5 1 v pre.length (cellsB pre)) := World.ownsRow.drew ((HO.out.alloc _).alloc _)
    have HNW : Hid (∀ (j : Nat) (u : Value), [Value.int .u8 ((1 : Nat) : Int)][j]? = some u → (((w.alloc (boxW k true x)).alloc (oneB 1)).drew).cell? ((⟨w.heap.size + 1, 0, none⟩ : Addr).add j) = some u) := by
      have h := news_one (w.alloc (boxW k true x)) 1 (by omega)
      rw [show (w.alloc (boxW k true x)).heap.size = w.heap.size + 1 by simp] at h
      exact h
    have HC : ∀ j u, #[Value.string k, Value.bool true, Value.string x][j]? = some u → (((w.alloc (boxW k true x)).alloc (oneB 1)).drew).cell? ⟨w.heap.size, j, none⟩ = some u := by
      intro j u hu
      have h1 : (w.alloc (boxW k true x)).cell? ⟨w.heap.size, j, none⟩ = some u := by rw [World.cell?_alloc_at _ _ _ _ rfl]; exact hu
      exact (((Below.refl (w.alloc (boxW k true x)).heap.size _).alloc (Nat.le_refl _) (oneB 1)).drew.cell (p := ⟨w.heap.size, j, none⟩) (by simp)).trans h1
    have HS3 : Hid (∀ w3, (((w.alloc (boxW k true x)).alloc (oneB 1)).drew).grownBy w3 v.ownBlock → w3.cell? ⟨w.heap.size, 0, none⟩ = some (.string k) ∧ w3.cell? ⟨w.heap.size, 2, none⟩ = some (.string x)) := fun w3 hg => by
      have hr : v.ownBlock ≠ some w.heap.size := fun e => by have := (HO.out.lt _ e).2; omega
      exact ⟨grown_cell (p := ⟨w.heap.size, 0, none⟩) hg (by simp; omega) hr (HC 0 _ rfl), grown_cell (p := ⟨w.heap.size, 2, none⟩) hg (by simp; omega) hr (HC 2 _ rfl)⟩
    clear HC
    go_enter Tryd.func19, Tryd.ntmps19
    go_wp2
    go_region_held3 (fun W => W.cell? ⟨w.heap.size, 0, none⟩ = some (.string k) ∧ W.cell? ⟨w.heap.size, 2, none⟩ = some (.string x)) (first | assumption | (simp [go_sem, World.cell?_alloc_past, World.cell?_alloc_at, *]; done) | go_keep)
      (first
        | (refine step_app _ (by rfl) (.tmp 7) (.tmp 8) 23 (by rfl) base 5 i8 _ 1 1 Tryd.underlying23 hi hz0 hz1 hz2 rfl (by omega) v pre.length (cellsB pre) (by rfl) HOW.out ⟨w.heap.size + 1, 0, none⟩ 1 1 [.int .u8 ((1 : Nat) : Int)] (by rfl) (by rfl) HNW.out (by simp [Value.oneCell']) (by intro _; omega) (by unfold maxLen; omega) (by omega) (by simp; omega) (w.heap.size + 2) (by simp) ?_; intro g3 c3 w3 hown3 hgr3 hat3 hlt3; have HO3 : Hid (w3.ownsRow base 5 1 (.slice (some ⟨g3, 0, none⟩) (pre.length + 1) c3) (pre.length + 1) (cellsB (pre ++ [1])) ∧ Below base w w3) := ⟨by rw [cellsB_append]; exact hown3, below_of ((((Below.refl _ _).alloc hbase _).alloc (by simp; omega) _).drew) hgr3 hbase (fun j hj => (HO.out.lt j hj).1)⟩; have hS3 : w3.cell? ⟨w.heap.size, 0, none⟩ = some (.string k) ∧ w3.cell? ⟨w.heap.size, 2, none⟩ = some (.string x) := HS3.out w3 hgr3; have hs3 := HO3.out.2.size; have hne3 : g3 ≠ w.heap.size := (by intro e; subst e; rcases hat3 with h | h; exact absurd (HO.out.lt _ h).2 (by omega); omega); have hlt3' : w.heap.size + 1 < w3.heap.size := (by have := hgr3.size; simp at this; omega); clear hown3 hgr3 hat3 hlt3)
        | (go_at_call 30; refine (appendText_any base _ (pre ++ [1]) k w3 (by rw [List.length_append]; exact HO3.out.1) (byte_app HP.out (by simp)) (by omega) (by simp; omega)).mono ?_; rintro e w4 ⟨v4, rfl, ho4, hb4, hk4, hf4⟩; have HR : Hid (Own 5 base w4 v4 (pre ++ [1] ++ words (strB k)) ∧ Below base w w4) := ⟨ho4, HO3.out.2.trans hb4⟩; have hS4 := box_keep hk4 (by omega) (by simpa [Value.ownBlock] using hne3) hS3; clear ho4 hb4 hk4 hf4))
    all_goals go_wp2
    all_goals go_ret
    all_goals exact ⟨v4, rfl, by rw [wrB_true, ← List.append_assoc]; exact HR.out.1, HR.out.2⟩
  | false =>
    have HOW : Hid ((((w.alloc (boxW k false x)).alloc (oneB 0)).drew).ownsRow base 5 1 v pre.length (cellsB pre)) := World.ownsRow.drew ((HO.out.alloc _).alloc _)
    have HNW : Hid (∀ (j : Nat) (u : Value), [Value.int .u8 ((0 : Nat) : Int)][j]? = some u → (((w.alloc (boxW k false x)).alloc (oneB 0)).drew).cell? ((⟨w.heap.size + 1, 0, none⟩ : Addr).add j) = some u) := by
      have h := news_one (w.alloc (boxW k false x)) 0 (by omega)
      rw [show (w.alloc (boxW k false x)).heap.size = w.heap.size + 1 by simp] at h
      exact h
    have HC : ∀ j u, #[Value.string k, Value.bool false, Value.string x][j]? = some u → (((w.alloc (boxW k false x)).alloc (oneB 0)).drew).cell? ⟨w.heap.size, j, none⟩ = some u := by
      intro j u hu
      have h1 : (w.alloc (boxW k false x)).cell? ⟨w.heap.size, j, none⟩ = some u := by rw [World.cell?_alloc_at _ _ _ _ rfl]; exact hu
      exact (((Below.refl (w.alloc (boxW k false x)).heap.size _).alloc (Nat.le_refl _) (oneB 0)).drew.cell (p := ⟨w.heap.size, j, none⟩) (by simp)).trans h1
    have HS3 : Hid (∀ w3, (((w.alloc (boxW k false x)).alloc (oneB 0)).drew).grownBy w3 v.ownBlock → w3.cell? ⟨w.heap.size, 0, none⟩ = some (.string k) ∧ w3.cell? ⟨w.heap.size, 2, none⟩ = some (.string x)) := fun w3 hg => by
      have hr : v.ownBlock ≠ some w.heap.size := fun e => by have := (HO.out.lt _ e).2; omega
      exact ⟨grown_cell (p := ⟨w.heap.size, 0, none⟩) hg (by simp; omega) hr (HC 0 _ rfl), grown_cell (p := ⟨w.heap.size, 2, none⟩) hg (by simp; omega) hr (HC 2 _ rfl)⟩
    clear HC
    go_enter Tryd.func19, Tryd.ntmps19
    go_wp2
    have HT5 : Hid (∀ (pv : Value) (W : World), Own 5 base W pv (pre ++ [0] ++ words (strB k)) → Below base w W → Calls Tryd.prog 30 #[pv, .string x] W fun e w' => ∃ v, e = .returned v ∧ Own 5 base w' v (pre ++ [0] ++ words (strB k) ++ words (strB x)) ∧ Below base W w' ∧ Keep pv.ownBlock.toList W w') := fun pv W ho hb => (appendText_any base pv (pre ++ [0] ++ words (strB k)) x W ho.row ho.byte (by have := hb.size; omega) (by simp; omega)).mono fun e w' ⟨v, h1, h2, h3, h4, _⟩ => ⟨v, h1, h2, h3, h4⟩
    go_region_held3 (fun W => W.cell? ⟨w.heap.size, 0, none⟩ = some (.string k) ∧ W.cell? ⟨w.heap.size, 2, none⟩ = some (.string x)) (first | assumption | (simp [go_sem, World.cell?_alloc_past, World.cell?_alloc_at, *]; done) | go_keep)
      (first
        | (refine step_app _ (by rfl) (.tmp 13) (.tmp 14) 23 (by rfl) base 5 i8 _ 1 1 Tryd.underlying23 hi hz0 hz1 hz2 rfl (by omega) v pre.length (cellsB pre) (by rfl) HOW.out ⟨w.heap.size + 1, 0, none⟩ 1 1 [.int .u8 ((0 : Nat) : Int)] (by rfl) (by rfl) HNW.out (by simp [Value.oneCell']) (by intro _; omega) (by unfold maxLen; omega) (by omega) (by simp; omega) (w.heap.size + 2) (by simp) ?_; intro g3 c3 w3 hown3 hgr3 hat3 hlt3; have HO3 : Hid (w3.ownsRow base 5 1 (.slice (some ⟨g3, 0, none⟩) (pre.length + 1) c3) (pre.length + 1) (cellsB (pre ++ [0])) ∧ Below base w w3) := ⟨by rw [cellsB_append]; exact hown3, below_of ((((Below.refl _ _).alloc hbase _).alloc (by simp; omega) _).drew) hgr3 hbase (fun j hj => (HO.out.lt j hj).1)⟩; have hS3 : w3.cell? ⟨w.heap.size, 0, none⟩ = some (.string k) ∧ w3.cell? ⟨w.heap.size, 2, none⟩ = some (.string x) := HS3.out w3 hgr3; have hs3 := HO3.out.2.size; have hne3 : g3 ≠ w.heap.size := (by intro e; subst e; rcases hat3 with h | h; exact absurd (HO.out.lt _ h).2 (by omega); omega); have hlt3' : w.heap.size + 1 < w3.heap.size := (by have := hgr3.size; simp at this; omega); clear hown3 hgr3 hat3 hlt3)
        | (go_at_call_of 30 k; refine (appendText_any base _ (pre ++ [0]) k w3 (by rw [List.length_append]; exact HO3.out.1) (byte_app HP.out (by simp)) (by omega) (by simp; omega)).mono ?_; rintro e w4 ⟨v4, rfl, ho4, hb4, hk4, hf4⟩; have HR : Hid (Own 5 base w4 v4 (pre ++ [0] ++ words (strB k)) ∧ Below base w w4) := ⟨ho4, HO3.out.2.trans hb4⟩; have hS4 := box_keep hk4 (by omega) (by simpa [Value.ownBlock] using hne3) hS3; have hs4 := hb4.size; have HF4 : Hid (v4.ownBlock ≠ some w.heap.size) := (fun e => by rcases hf4 _ e with h | h; exact hne3 (by simpa [Value.ownBlock] using h); omega); clear ho4 hb4 hk4 hf4)
        | (go_at_call_of 30 x; refine (HT5.out v4 w4 HR.out.1 HR.out.2).mono ?_; rintro e w5 ⟨v5, rfl, ho5, hb5, hk5⟩; have HR5 : Hid (Own 5 base w5 v5 (pre ++ [0] ++ words (strB k) ++ words (strB x)) ∧ Below base w w5) := ⟨ho5, HR.out.2.trans hb5⟩; have hS5 := box_keep hk5 (by omega) HF4.out hS4; clear ho5 hb5 hk5))
    all_goals go_wp2
    all_goals go_ret
    all_goals exact ⟨v5, rfl, by rw [wrB_false, ← List.append_assoc, ← List.append_assoc]; exact HR5.out.1, HR5.out.2⟩

end Lgp
end Go.Proofs.YtcmbogogakdeoaaDoor
