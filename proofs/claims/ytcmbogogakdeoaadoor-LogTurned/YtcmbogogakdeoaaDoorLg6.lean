import Derived.Test.YtcmbogogakdeoaaDoorLg5
import Derived.Deep.QuietTactic
import Derived.BigQuiet
namespace Go.Proofs.YtcmbogogakdeoaaDoor
namespace Lgg
open Go.RowKit CMath Byt Cod Lg Laws Grp Crw
set_option linter.unusedVariables false
set_option linter.unusedSimpArgs false
set_option maxRecDepth 20000

theorem getErr_eq (b : List Nat) : getErr b = if (rd b 0 0).2.2 ≠ 0 then (rd b 0 0).2.2 else if (grp (b.drop (rd b 0 0).2.1) 0).2.2 ≠ 0 then (grp (b.drop (rd b 0 0).2.1) 0).2.2 else if (grp (b.drop (rd b 0 0).2.1) 0).2.1 ≠ [] then 21 else if Fit (rd b 0 0).1 (cntW (grp (b.drop (rd b 0 0).2.1) 0).1) then 0 else 22 := by
  unfold getErr grp
  by_cases h1 : (rd b 0 0).2.2 = 0
  · by_cases h2 : (rd (b.drop (rd b 0 0).2.1) 0 0).2.2 = 0
    · simp [h1, h2]
    · simp [h1, h2]
  · simp [h1]
theorem getGs_eq (b : List Nat) : getGs b = if getErr b ≠ 0 then [] else (grp (b.drop (rd b 0 0).2.1) 0).1 := by
  by_cases h : getErr b = 0
  · unfold getGs
    rw [if_neg (by simpa using h), if_neg (by simpa using h)]
    have h2 : (rd (b.drop (rd b 0 0).2.1) 0 0).2.2 = 0 := by
      have h0 := h
      unfold getErr at h0
      split at h0
      · rename_i hh; exact absurd h0 hh
      · split at h0
        · rename_i hh; exact absurd h0 hh
        · rename_i hh; simpa using hh
    unfold grp
    simp [h2]
  · unfold getGs
    rw [if_pos h, if_pos h]

set_option maxHeartbeats 1000000 in
theorem fit_any (first n : Nat) (w : World) (hf : first < 18446744073709551616) (hn : n ≤ 16000000000000) :
    Calls Tryd.prog 25 #[.int .u64 first, .int .i64 (n : Int)] w fun r w' => r = .returned (.bool (Fit first n)) ∧ w' = w := by
  by_cases h0 : n = 0
  · subst h0
    have e : Fit first 0 = true := by simp [Fit]
    rw [e]
    go_enter Tryd.func25, Tryd.ntmps25
    go_wp2
    go_ret
    exact ⟨rfl, rfl⟩
  · have q0 : ¬ (n : Int) = 0 := by omega
    have q1 : ((n : Int) == 0) = false := by simp; omega
    by_cases h1 : first ≤ 72057594037927935
    · have q2 : (first : Int) ≤ 72057594037927935 := by omega
      have q3 : 0 ≤ (n : Int) - 1 := by omega
      by_cases h2 : n - 1 ≤ 72057594037927935 - first
      · have e : Fit first n = true := by simp [Fit]; omega
        rw [e]
        have q4 : (first : Int) + ((n : Int) - 1) ≤ 72057594037927935 := by omega
        go_enter Tryd.func25, Tryd.ntmps25
        go_wp2
        go_ret
        exact ⟨rfl, rfl⟩
      · have e : Fit first n = false := by simp [Fit]; omega
        rw [e]
        have q4 : ¬ (first : Int) + ((n : Int) - 1) ≤ 72057594037927935 := by omega
        go_enter Tryd.func25, Tryd.ntmps25
        go_wp2
        go_ret
        exact ⟨rfl, rfl⟩
    · have e : Fit first n = false := by simp [Fit]; omega
      rw [e]
      have q2 : ¬ (first : Int) ≤ 72057594037927935 := by omega
      go_enter Tryd.func25, Tryd.ntmps25
      go_wp2
      go_ret
      exact ⟨rfl, rfl⟩

/-- what Get answers -/
def GtIs (w w' : World) (gs : List (List W3)) (v : Value) : Prop := Below w.heap.size w w' ∧ ∃ a c, v = .slice a gs.length c ∧ IsG w' a gs ∧ gs.length ≤ 1000000000000
theorem GtIs.nil {w w' : World} (h : Below w.heap.size w w') : GtIs w w' [] (.slice none 0 0) := ⟨h, none, 0, rfl, ⟨[], rfl, IsK.nil _ _, fun i v ws hv => by simp at hv⟩, by simp⟩
theorem below_rd {w w' : World} {o : Obj} (h : Keep [w.heap.size] (w.alloc o) w') : Below w.heap.size w w' :=
  ((Below.refl _ _).alloc (Nat.le_refl _) o).trans ⟨h.os, h.tape, h.output, h.size, fun i hi => h.block i (by simp; omega) (by simp; omega)⟩
theorem rd_new (a : Option Addr) (cap : Nat) (l : List Nat) (w : World) (h : IsB w a l) (hcap : l.length ≤ cap) (hmx : cap ≤ 9223372036854775807) (ha : (a = none ∧ l = [] ∧ cap = 0) ∨ ∃ b off, a = some ⟨b, off, none⟩ ∧ b < w.heap.size) :
    Rd (w.alloc (.cells #[.slice a l.length cap, .int .i64 0] 59)) w.heap.size l 0 := by
  have hb := h.below (((Below.refl w.heap.size w).alloc (Nat.le_refl _) (.cells #[.slice a l.length cap, .int .i64 0] 59)))
  have c0 : (w.alloc (.cells #[.slice a l.length cap, .int .i64 0] 59)).cell? ⟨w.heap.size, 0, none⟩ = some (.slice a l.length cap) := by rw [World.cell?_alloc_at _ _ _ _ rfl]; rfl
  refine ⟨by simp, ?_, by rw [World.cell?_alloc_at _ _ _ _ rfl]; rfl, fun j => World.frozen?_alloc_at _ _ _ _ rfl, h.2⟩
  rcases ha with ⟨rfl, rfl, rfl⟩ | ⟨b, off, rfl, hlt⟩
  · exact .inl ⟨c0, rfl⟩
  · exact .inr ⟨b, off, cap, c0, hcap, hmx, hlt, hb⟩

set_option maxHeartbeats 2000000 in
theorem get_any (a : Option Addr) (cap n : Nat) (l : List Nat) (w : World) (h : IsB w a l) (hn : n = l.length) (hcap : l.length ≤ cap) (hmx : cap ≤ 9223372036854775807) (ha : (a = none ∧ l = [] ∧ cap = 0) ∨ ∃ b off, a = some ⟨b, off, none⟩ ∧ b < w.heap.size) (h40 : l.length ≤ 1000000000000) :
    Calls Tryd.prog 14 #[.slice a n cap] w fun r w' => ∃ v, r = .returned (.tuple #[.int .u64 ((getN l : Nat) : Int), v, .int .i64 ((getErr l : Nat) : Int)]) ∧ GtIs w w' (getGs l) v := by
  subst hn
  have HR0 : Hid (Rd (w.alloc (.cells #[.slice a l.length cap, .int .i64 0] 59)) w.heap.size l 0) := rd_new a cap l w h hcap hmx ha
  have HN := fun W (hW : Rd W w.heap.size l 0) => number_any w.heap.size l W hW
  obtain ⟨⟨n1, k1, f1⟩, hr⟩ : ∃ x, rd l 0 0 = x := ⟨_, rfl⟩
  have hk := rd_k h.2 hr
  have hE := getErr_eq l
  have hGs := getGs_eq l
  have hNn : getN l = if getErr l ≠ 0 then 0 else n1 := by unfold getN; rw [hr]
  rw [hr] at hE hGs HN
  dsimp only at hE hGs HN
  have HNN : Hid (∀ W, Rd W w.heap.size l 0 → Calls Tryd.prog 23 #[.pointer (some ⟨w.heap.size, 0, none⟩)] W fun r w' => r = .returned (.int .u64 (n1 : Nat)) ∧ Rd w' w.heap.size (l.drop k1) f1 ∧ Keep [w.heap.size] W w') := HN
  have HGG : Hid (∀ W, Rd W w.heap.size (l.drop k1) f1 → Calls Tryd.prog 24 #[.pointer (some ⟨w.heap.size, 0, none⟩)] W fun r w' => ∃ (v : Value) (n : Int), r = .returned (.tuple #[v, .int .i64 n]) ∧ GrIs W w' w.heap.size (grp (l.drop k1) f1) v n) := fun W hW => group_any w.heap.size _ _ W hW (by simp; omega)
  clear HN hr h ha hcap hmx
  by_cases hf : f1 = 0
  · subst hf
    rw [if_neg (by simp)] at hE
    obtain ⟨⟨gs, lr, f2⟩, hg⟩ : ∃ x, grp (l.drop k1) 0 = x := ⟨_, rfl⟩
    rw [hg] at hE hGs HGG
    dsimp only at hE hGs
    clear hg
    by_cases hf2 : f2 = 0
    · subst hf2
      rw [if_neg (by simp)] at hE
      by_cases hlr : lr = []
      · subst hlr
        rw [if_neg (by simp)] at hE
        by_cases hft : Fit n1 (cntW gs) = true
        · rw [if_pos hft] at hE
          rw [hE, if_neg (by simp)] at hGs hNn
          rw [hGs, hNn, hE]
          have HFT := fun W hc => fit_any n1 (cntW gs) W hk.2.2.1 hc
          rw [hft] at HFT
          have HFF : Hid (∀ W, cntW gs ≤ 16000000000000 → Calls Tryd.prog 25 #[.int .u64 n1, .int .i64 (cntW gs : Int)] W fun r w' => r = .returned (.bool true) ∧ w' = W) := HFT
          clear HFT hft
          go_enter Tryd.func14, Tryd.ntmps14
          go_wp2_with (first
        | (go_at_call 23; refine (HNN.out _ HR0.out).mono ?_; rintro r w1 ⟨rfl, hr1, hk1⟩; have HP : Hid (Rd w1 w.heap.size (l.drop k1) 0 ∧ Below w.heap.size w w1) := ⟨hr1, below_rd hk1⟩; have HK1 : Hid (Keep [w.heap.size] (w.alloc (.cells #[.slice a l.length cap, .int .i64 0] 59)) w1) := hk1; clear hr1 hk1)
        | (go_at_call 24; refine (HGG.out _ HP.out.1).mono ?_; rintro r w2 ⟨v2, n2, rfl, l2, hr2, hk2, hb2⟩; obtain ⟨hl2, rfl, hcm, a2, c2, rfl, hig, hgl⟩ := hb2 rfl; obtain rfl := hl2.symm; have HP2 : Hid (Rd w2 w.heap.size [] 0 ∧ Below w.heap.size w w2 ∧ IsG w2 a2 gs ∧ gs.length ≤ 1000000000000) := ⟨hr2, below_rd (HK1.out.trans hk2), hig, hgl⟩; have d1 := hr2.c1; have g1 := hr2.fr 1; have hl3 := hr2.lt; obtain ⟨ar, cr, d0, _, _, _⟩ := hr2.sl; clear hr2 hk2 hb2 hig hgl; try dsimp only at d1; try dsimp only at d0; try dsimp only)
        | (go_at_call 25; refine (HFF.out _ hcm).mono ?_; rintro r w3 ⟨rfl, hw3⟩; obtain rfl := hw3.symm))
          go_ret3
          exact ⟨_, rfl, HP2.out.2.1, a2, c2, rfl, HP2.out.2.2.1, HP2.out.2.2.2⟩
        · rw [if_neg hft] at hE
          rw [hE, if_pos (by simp)] at hGs hNn
          rw [hGs, hNn, hE]
          have hft2 : Fit n1 (cntW gs) = false := by simpa using hft
          have HFT := fun W hc => fit_any n1 (cntW gs) W hk.2.2.1 hc
          rw [hft2] at HFT
          have HFF : Hid (∀ W, cntW gs ≤ 16000000000000 → Calls Tryd.prog 25 #[.int .u64 n1, .int .i64 (cntW gs : Int)] W fun r w' => r = .returned (.bool false) ∧ w' = W) := HFT
          clear HFT hft hft2
          go_enter Tryd.func14, Tryd.ntmps14
          go_wp2_with (first
        | (go_at_call 23; refine (HNN.out _ HR0.out).mono ?_; rintro r w1 ⟨rfl, hr1, hk1⟩; have HP : Hid (Rd w1 w.heap.size (l.drop k1) 0 ∧ Below w.heap.size w w1) := ⟨hr1, below_rd hk1⟩; have HK1 : Hid (Keep [w.heap.size] (w.alloc (.cells #[.slice a l.length cap, .int .i64 0] 59)) w1) := hk1; clear hr1 hk1)
        | (go_at_call 24; refine (HGG.out _ HP.out.1).mono ?_; rintro r w2 ⟨v2, n2, rfl, l2, hr2, hk2, hb2⟩; obtain ⟨hl2, rfl, hcm, a2, c2, rfl, hig, hgl⟩ := hb2 rfl; obtain rfl := hl2.symm; have HP2 : Hid (Rd w2 w.heap.size [] 0 ∧ Below w.heap.size w w2 ∧ IsG w2 a2 gs ∧ gs.length ≤ 1000000000000) := ⟨hr2, below_rd (HK1.out.trans hk2), hig, hgl⟩; have d1 := hr2.c1; have g1 := hr2.fr 1; have hl3 := hr2.lt; obtain ⟨ar, cr, d0, _, _, _⟩ := hr2.sl; clear hr2 hk2 hb2 hig hgl; try dsimp only at d1; try dsimp only at d0; try dsimp only)
        | (go_at_call 25; refine (HFF.out _ hcm).mono ?_; rintro r w3 ⟨rfl, hw3⟩; obtain rfl := hw3.symm))
          have e1 : (w2.setCell ⟨w.heap.size, 1, none⟩ (.int .i64 22)).cell? ⟨w.heap.size, 1, none⟩ = some (.int .i64 22) := (HP2.out.1.err 22).c1
          have HBL : Hid (Below w.heap.size w (w2.setCell ⟨w.heap.size, 1, none⟩ (.int .i64 22))) := HP2.out.2.1.setCell (p := ⟨w.heap.size, 1, none⟩) (Nat.le_refl _) _
          generalize w2.setCell ⟨w.heap.size, 1, none⟩ (.int .i64 22) = w9 at *
          go_quiet (fail)
          go_wp2
          go_ret3
          exact ⟨_, rfl, GtIs.nil (by first | exact HBL.out | exact HBL.out.drew | exact below_drewN HBL.out _)⟩
      · rw [if_pos hlr] at hE
        rw [hE, if_pos (by simp)] at hGs hNn
        rw [hGs, hNn, hE]
        have q1 : (0 : Int) < (lr.length : Int) := by have := List.length_pos_iff.2 hlr; omega
        have q2 : 0 < lr.length := List.length_pos_iff.2 hlr
        go_enter Tryd.func14, Tryd.ntmps14
        go_wp2_with (first
        | (go_at_call 23; refine (HNN.out _ HR0.out).mono ?_; rintro r w1 ⟨rfl, hr1, hk1⟩; have HP : Hid (Rd w1 w.heap.size (l.drop k1) 0 ∧ Below w.heap.size w w1) := ⟨hr1, below_rd hk1⟩; have HK1 : Hid (Keep [w.heap.size] (w.alloc (.cells #[.slice a l.length cap, .int .i64 0] 59)) w1) := hk1; clear hr1 hk1)
        | (go_at_call 24; refine (HGG.out _ HP.out.1).mono ?_; rintro r w2 ⟨v2, n2, rfl, l2, hr2, hk2, hb2⟩; obtain ⟨hl2, rfl, hcm, a2, c2, rfl, hig, hgl⟩ := hb2 rfl; obtain rfl := hl2.symm; have HP2 : Hid (Rd w2 w.heap.size lr 0 ∧ Below w.heap.size w w2 ∧ IsG w2 a2 gs ∧ gs.length ≤ 1000000000000) := ⟨hr2, below_rd (HK1.out.trans hk2), hig, hgl⟩; have d1 := hr2.c1; have g1 := hr2.fr 1; have hl3 := hr2.lt; obtain ⟨ar, cr, d0, _, _, _⟩ := hr2.sl; clear hr2 hk2 hb2 hig hgl; try dsimp only at d1; try dsimp only at d0; try dsimp only))
        have e1 : (w2.setCell ⟨w.heap.size, 1, none⟩ (.int .i64 21)).cell? ⟨w.heap.size, 1, none⟩ = some (.int .i64 21) := (HP2.out.1.err 21).c1
        have HBL : Hid (Below w.heap.size w (w2.setCell ⟨w.heap.size, 1, none⟩ (.int .i64 21))) := HP2.out.2.1.setCell (p := ⟨w.heap.size, 1, none⟩) (Nat.le_refl _) _
        generalize w2.setCell ⟨w.heap.size, 1, none⟩ (.int .i64 21) = w9 at *
        go_quiet (fail)
        go_wp2
        go_ret3
        exact ⟨_, rfl, GtIs.nil (by first | exact HBL.out | exact HBL.out.drew | exact below_drewN HBL.out _)⟩
    · rw [if_pos hf2] at hE
      rw [hE, if_pos hf2] at hGs hNn
      rw [hGs, hNn, hE]
      have q1 : ¬ (f2 : Int) = 0 := by omega
      have q2 : ((f2 : Int) == 0) = false := by simp; omega
      have q3 : ((f2 : Int) != 0) = true := by simp; omega
      go_enter Tryd.func14, Tryd.ntmps14
      go_wp2_with (first
        | (go_at_call 23; refine (HNN.out _ HR0.out).mono ?_; rintro r w1 ⟨rfl, hr1, hk1⟩; have HP : Hid (Rd w1 w.heap.size (l.drop k1) 0 ∧ Below w.heap.size w w1) := ⟨hr1, below_rd hk1⟩; have HK1 : Hid (Keep [w.heap.size] (w.alloc (.cells #[.slice a l.length cap, .int .i64 0] 59)) w1) := hk1; clear hr1 hk1)
        | (go_at_call 24; refine (HGG.out _ HP.out.1).mono ?_; rintro r w2 ⟨v2, n2, rfl, l2, hr2, hk2, _⟩; have HP2 : Hid (Rd w2 w.heap.size l2 f2 ∧ Below w.heap.size w w2) := ⟨hr2, below_rd (HK1.out.trans hk2)⟩; have d1 := hr2.c1; clear hr2 hk2; try dsimp only at d1))
      go_quiet (fail)
      go_wp2
      go_ret3
      exact ⟨_, rfl, GtIs.nil (by first | exact HP2.out.2 | exact HP2.out.2.drew | exact below_drewN HP2.out.2 _)⟩
  · rw [if_pos hf] at hE
    rw [hE, if_pos hf] at hGs hNn
    rw [hGs, hNn, hE]
    have q1 : ¬ (f1 : Int) = 0 := by omega
    have q2 : ((f1 : Int) == 0) = false := by simp; omega
    have q3 : ((f1 : Int) != 0) = true := by simp; omega
    have hg : grp (l.drop k1) f1 = ([], l.drop k1, f1) := by unfold grp; rw [if_pos hf]
    rw [hg] at HGG
    go_enter Tryd.func14, Tryd.ntmps14
    go_wp2_with (first
        | (go_at_call 23; refine (HNN.out _ HR0.out).mono ?_; rintro r w1 ⟨rfl, hr1, hk1⟩; have HP : Hid (Rd w1 w.heap.size (l.drop k1) f1 ∧ Below w.heap.size w w1) := ⟨hr1, below_rd hk1⟩; have HK1 : Hid (Keep [w.heap.size] (w.alloc (.cells #[.slice a l.length cap, .int .i64 0] 59)) w1) := hk1; clear hr1 hk1)
        | (go_at_call 24; refine (HGG.out _ HP.out.1).mono ?_; rintro r w2 ⟨v2, n2, rfl, l2, hr2, hk2, _⟩; have HP2 : Hid (Rd w2 w.heap.size l2 f1 ∧ Below w.heap.size w w2) := ⟨hr2, below_rd (HK1.out.trans hk2)⟩; have d1 := hr2.c1; clear hr2 hk2; try dsimp only at d1))
    go_quiet (fail)
    go_wp2
    go_ret3
    exact ⟨_, rfl, GtIs.nil (by first | exact HP2.out.2 | exact HP2.out.2.drew | exact below_drewN HP2.out.2 _)⟩

end Lgg
end Go.Proofs.YtcmbogogakdeoaaDoor
