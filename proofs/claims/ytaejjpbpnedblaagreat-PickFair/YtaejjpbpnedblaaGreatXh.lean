import Derived.Test.YtaejjpbpnedblaaGreatXd
import Derived.Test.YtaejjpbpnedblaaGreatVv
namespace Go.Proofs.YtaejjpbpnedblaaGreat
namespace Vr
open Go.Shelf Go.RowKit Go.Lib Go.Sort Go.Maps Go.ChangeMaps Go.MapKept Laws Irw Crw
set_option linter.unusedVariables false
set_option linter.unusedSimpArgs false
set_option maxRecDepth 20000
set_option maxHeartbeats 1000000 in
theorem sort64_one (a : Option Addr) (cap : Nat) (w : World) : Calls Tryz.prog 95 #[.slice a 1 cap] w fun e w' => e = .returned (.tuple #[]) ∧ w' = w := by
  have HI : Hid (Calls Tryz.prog 126 #[.slice a 1 cap, .int .i64 0, .int .i64 1] w fun e w' => e = .returned (.tuple #[]) ∧ w' = w) := by
    go_enter Tryz.func126, Tryz.ntmps126
    go_wp2
    go_loopw [6] (fun i wr => i = .int .i64 1 ∧ wr = w) (fun _ _ => 0)
    case atStart => exact ⟨rfl, rfl⟩
    case round =>
      obtain ⟨rfl, rfl⟩ := hrel
      go_wp2
      go_end0
      exact ⟨rfl, rfl⟩
  have HP : Hid (∀ x : Int, Calls Tryz.prog 114 #[.slice a 1 cap, .int .i64 0, .int .i64 1, .int .i64 x] w fun e w' => e = .returned (.tuple #[]) ∧ w' = w) := fun x => by
    go_enter Tryz.func114, Tryz.ntmps114
    go_wp2
    go_loopw [1, 2] (fun a b wr => a = .int .i64 0 ∧ b = .int .i64 1 ∧ wr = w) (fun _ _ _ => 0)
    case atStart => exact ⟨rfl, rfl, rfl⟩
    case round =>
      obtain ⟨rfl, rfl, rfl⟩ := hrel
      go_wp2_with (go_at_call 126; go_loud (refine HI.out.mono ?_; rintro e w1 ⟨rfl, hw⟩; have hw := hw.symm; subst hw))
      refine bodyPost_ret (results_none rfl _ _ _) rfl ?_
      exact ⟨rfl, rfl⟩
  have hlen : Calls Tryz.prog 115 #[.int .u64 1] w fun e w' => (∃ x : Int, e = .returned (.int .i64 x)) ∧ w' = w := (Any.bits_Len Tryz.bitsLen 1 w (by omega) (by omega)).mono fun _ _ ⟨he, hw⟩ => ⟨⟨_, he⟩, hw⟩
  go_enter Tryz.func95, Tryz.ntmps95
  go_wp2_with (first
    | (go_at_call 115; go_loud (refine hlen.mono ?_; rintro e w1 ⟨⟨x, rfl⟩, hw⟩; have hw := hw.symm; subst hw))
    | (go_at_call 114; go_loud (refine (HP.out x).mono ?_; rintro e w1 ⟨rfl, hw⟩; have hw := hw.symm; subst hw)))
  go_end0
  exact ⟨rfl, rfl⟩
set_option maxHeartbeats 1000000 in
theorem sorted_one (w : World) (Bs b off lc : Nat) (x : Int) (hBs : Bs < w.heap.size) (hb : b < w.heap.size) (hc : w.cell? ⟨Bs, 0, none⟩ = some (.slice (some ⟨b, off, none⟩) 1 lc)) (hcs : w.cell? ⟨b, off, none⟩ = some (.int .u64 x)) :
    Calls Tryz.prog 96 #[.func (.func 117) #[] #[.pointer (some ⟨Bs, 0, none⟩)]] w fun e w' => ∃ g cap, e = .returned (.slice (some ⟨g, 0, none⟩) 1 cap) ∧ Zb w' g [.int .u64 x] ∧ RowKit.Below w.heap.size w w' := by
  have HK : Hid (Calls Tryz.prog 116 #[.func (.func 117) #[] #[.pointer (some ⟨Bs, 0, none⟩)]] w fun e w' => ∃ g cap, e = .returned (.slice (some ⟨g, 0, none⟩) 1 cap) ∧ Zb w' g [.int .u64 x] ∧ RowKit.Below w.heap.size w w') :=
    (collectU Bs b off lc [x] (by simp) w hBs hb hc (fun j hj => by
      have : j = 0 := by simp at hj; omega
      subst this
      exact hcs)).mono fun e w' ⟨v, he, ho, hb⟩ => by
      obtain ⟨g, cap, rfl, hg, hcap, hz⟩ := own3 ho (by simp)
      exact ⟨g, cap, he, hz, hb⟩
  clear hc hcs
  go_enter Tryz.func96, Tryz.ntmps96
  go_wp2_with (first
    | (go_at_call 116; go_loud (refine HK.out.mono ?_; rintro e w2 ⟨g, cap, rfl, hh⟩; have HH := hidV hh; clear hh))
    | (go_at_call 95; go_loud (refine (sort64_one _ _ _).mono ?_; rintro e w99 ⟨rfl, hw99⟩; have hw98 := hw99.symm; clear hw99; subst hw98)))
  go_ret
  exact ⟨g, cap, rfl, HH.out⟩
theorem isNaN64 (x : Int) (w : World) : Calls Tryz.prog 119 #[.int .u64 x] w fun e w' => e = .returned (.bool false) ∧ w' = w := by
  go_enter Tryz.func119, Tryz.ntmps119
  go_wp2
  go_ret
  exact ⟨by simp, rfl⟩
theorem cisNaN64 (x : Int) (w : World) : Calls Tryz.prog 137 #[.int .u64 x] w fun e w' => e = .returned (.bool false) ∧ w' = w := by
  go_enter Tryz.func137, Tryz.ntmps137
  go_wp2
  go_ret
  exact ⟨by simp, rfl⟩
set_option maxHeartbeats 1000000 in
theorem less64 (x y : Int) (w : World) : Calls Tryz.prog 118 #[.int .u64 x, .int .u64 y] w fun e w' => e = .returned (.bool (decide (x < y))) ∧ w' = w := by
  go_enter Tryz.func118, Tryz.ntmps118
  go_wp2_with (go_at_call 137; go_loud (refine (cisNaN64 _ _).mono ?_; rintro e w99 ⟨rfl, hw99⟩; have hw98 := hw99.symm; clear hw99; subst hw98))
  go_ret
  exact ⟨rfl, rfl⟩
def BsIs (x y : Int) (w : World) (e : Ending) (w' : World) : Prop := ∃ i : Int, e = .returned (.tuple #[.int .i64 i, .bool (decide (x = y))]) ∧ w' = w
set_option maxHeartbeats 2000000 in
theorem bs_one (g cap : Nat) (x y : Int) (w : World) (hz : Zb w g [.int .u64 x]) :
    Calls Tryz.prog 98 #[.slice (some ⟨g, 0, none⟩) 1 cap, .int .u64 y] w fun e w' => BsIs x y w e w' := by
  have c0 := hz.2.1 0 _ rfl
  clear hz
  have HL := hidV (fun W => less64 x y W)
  have HN := hidV (fun z W => isNaN64 z W)
  go_enter Tryz.func98, Tryz.ntmps98
  go_wp2
  go_loopw [7, 8] (fun i j wr => wr = w ∧ ((i = .int .i64 0 ∧ j = .int .i64 1) ∨ (i = .int .i64 1 ∧ j = .int .i64 1 ∧ Hid (x < y)) ∨ (i = .int .i64 0 ∧ j = .int .i64 0 ∧ Hid (y ≤ x)))) (fun i j _ => (intOf j).toNat - (intOf i).toNat)
  case atStart => exact ⟨rfl, .inl ⟨rfl, rfl⟩⟩
  case round =>
    obtain ⟨rfl, ⟨rfl, rfl⟩ | ⟨rfl, rfl, HLT⟩ | ⟨rfl, rfl, HLT⟩⟩ := hrel
    · by_cases hlt : x < y
      · have hd : decide (x < y) = true := by simp [hlt]
        have HLT := hidV hlt
        have HL2 : Hid (∀ W, Calls Tryz.prog 118 #[.int .u64 x, .int .u64 y] W fun e w' => e = .returned (.bool true) ∧ w' = W) := fun W => by rw [← hd]; exact HL.out W
        clear hlt hd HL
        go_wp2_with (go_at_call 118; go_loud (refine (HL2.out _).mono ?_; rintro e w99 ⟨rfl, hw99⟩; have hw98 := hw99.symm; clear hw99; subst hw98))
        go_roundw
        case rel => exact ⟨trivial, .inr (.inl ⟨by go_num, rfl, HLT⟩)⟩
        case measure => simp [intOf]
      · have hd : decide (x < y) = false := by simp [hlt]
        have HLT := hidV (Int.not_lt.1 hlt)
        have HL2 : Hid (∀ W, Calls Tryz.prog 118 #[.int .u64 x, .int .u64 y] W fun e w' => e = .returned (.bool false) ∧ w' = W) := fun W => by rw [← hd]; exact HL.out W
        clear hlt hd HL
        go_wp2_with (go_at_call 118; go_loud (refine (HL2.out _).mono ?_; rintro e w99 ⟨rfl, hw99⟩; have hw98 := hw99.symm; clear hw99; subst hw98))
        go_roundw
        case rel => exact ⟨trivial, .inr (.inr ⟨rfl, by go_num, HLT⟩)⟩
        case measure => simp [intOf]
    · have HD : Hid (decide (x = y) = false) := by
        have := HLT.out
        show decide (x = y) = false
        rw [decide_eq_false_iff_not]
        omega
      go_wp2
      go_ret2
      exact ⟨_, by rw [HD.out]; rfl, rfl⟩
    · by_cases he : x = y
      · have HD : Hid (decide (x = y) = true) := by show decide (x = y) = true; simp [he]
        go_wp2_with (go_at_call 119; go_loud (refine (HN.out _ _).mono ?_; rintro e w99 ⟨rfl, hw99⟩; have hw98 := hw99.symm; clear hw99; subst hw98))
        go_ret2
        exact ⟨_, by rw [HD.out]; rfl, rfl⟩
      · have HD : Hid (decide (x = y) = false) := by show decide (x = y) = false; simp [he]
        have hd : (x == y) = false := by simp [he]
        go_wp2_with (go_at_call 119; go_loud (refine (HN.out _ _).mono ?_; rintro e w99 ⟨rfl, hw99⟩; have hw98 := hw99.symm; clear hw99; subst hw98))
        go_ret2
        exact ⟨_, by rw [HD.out]; rfl, rfl⟩
end Vr
end Go.Proofs.YtaejjpbpnedblaaGreat
