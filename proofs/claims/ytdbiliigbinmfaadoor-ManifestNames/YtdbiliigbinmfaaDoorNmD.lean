import Derived.Test.YtdbiliigbinmfaaDoorNmC
namespace Go.Proofs.YtdbiliigbinmfaaDoor
namespace Nms
open Go.RowKit Go.Sort CMath Byt Cod Laws
set_option linter.unusedVariables false
set_option linter.unusedSimpArgs false
set_option maxRecDepth 20000
set_option maxHeartbeats 1000000 in
theorem points_any (a : Option Addr) (cap : Nat) (l : List Nat) (w : World) (ha : IsB w a l) (ht : Tab w) (h3 : Lib3 w) (hcap : l.length ≤ cap) (hlen : cap ≤ 9223372036854775807) :
    Calls Tryd.prog 12 #[.slice a l.length cap] w fun e w' => e = .returned (.tuple #[.string (pts l).1, .int .i64 (pts l).2]) ∧ RowKit.Below w.heap.size w w' := by
  have C := unframe_any a cap l.length l w ha ht hcap hlen rfl
  unfold unfV at C
  have hpt : pts l = if ((unframe l).2.2 == 0 && (unframe l).2.1 == l.length && isM (ofB (unframe l).1)) = true then (ofB (unframe l).1, 0) else (⟨#[]⟩, 140) := rfl
  obtain ⟨B, T, E, hu⟩ : ∃ B T E, unframe l = (B, T, E) := ⟨_, _, _, rfl⟩
  rw [hu] at C hpt
  simp only at C hpt
  obtain ⟨S, hS⟩ : ∃ S, S = ofB B := ⟨_, rfl⟩
  rw [← hS] at hpt
  have hcV : ∀ {a1 : Option Addr} {c1 : Nat} {w1 : World}, New 5 w.heap.size w1 a1 c1 B → (convert 23 9 (.slice a1 B.length c1)).run Tryd.prog w1 = .ok (.string S) w1 := fun h => by
    rw [hS]; exact new_conv h
  have HC := Lib.hid C
  clear C hu hS
  have H3 : Hid (Lib3 w) := h3
  clear h3
  clear ht ha hcap
  obtain ⟨n, hln⟩ : ∃ n, n = l.length := ⟨_, rfl⟩
  rw [← hln] at hpt HC ⊢
  clear hln hlen
  by_cases hE : E = 0
  · subst hE
    by_cases hT : (T : Int) = (n : Int)
    · cases hn : numB S with
      | none =>
        have HP : Hid (pts l = (⟨#[]⟩, 140)) := by
          show _ = _
          rw [hpt, if_neg (by simp [isM, hn])]
        have eN : numO (numB S) = .tuple #[.int .u8 0, .int .u64 0, .bool false] := by rw [hn]; rfl
        clear hpt hn
        go_enter Tryd.func12, Tryd.ntmps12
        go_wp2_with (first | (go_at_call 22; refine HC.out.mono ?_; rintro e w1 ⟨a1, c1, rfl, hN1, hb1⟩; have hcv := hcV hN1; clear hN1) | (go_at_call 4; refine (number_any S _ (H3.out.below hb1)).mono ?_; rw [eN]; rintro e w2 ⟨rfl, hb2⟩))
        go_ret2
        exact ⟨by rw [HP.out]; rfl, bl_st hb1 hb2⟩
      | some kn =>
        obtain ⟨k, m⟩ := kn
        have eN : numO (numB S) = .tuple #[.int .u8 (k : Int), .int .u64 (m : Int), .bool true] := by rw [hn]; rfl
        by_cases hk : (k : Int) = 109
        · have HP : Hid (pts l = (S, 0)) := by
            show _ = _
            have : k = 109 := by omega
            have hT' : T = n := by omega
            rw [hpt, if_pos (by simp [isM, hn, this, hT'])]
          clear hpt hn
          go_enter Tryd.func12, Tryd.ntmps12
          go_wp2_with (first | (go_at_call 22; refine HC.out.mono ?_; rintro e w1 ⟨a1, c1, rfl, hN1, hb1⟩; have hcv := hcV hN1; clear hN1) | (go_at_call 4; refine (number_any S _ (H3.out.below hb1)).mono ?_; rw [eN]; rintro e w2 ⟨rfl, hb2⟩))
          go_ret2
          exact ⟨by rw [HP.out]; rfl, bl_st hb1 hb2⟩
        · have HP : Hid (pts l = (⟨#[]⟩, 140)) := by
            show _ = _
            have : ¬ k = 109 := by omega
            rw [hpt, if_neg (by simp [isM, hn, this])]
          clear hpt hn
          go_enter Tryd.func12, Tryd.ntmps12
          go_wp2_with (first | (go_at_call 22; refine HC.out.mono ?_; rintro e w1 ⟨a1, c1, rfl, hN1, hb1⟩; have hcv := hcV hN1; clear hN1) | (go_at_call 4; refine (number_any S _ (H3.out.below hb1)).mono ?_; rw [eN]; rintro e w2 ⟨rfl, hb2⟩))
          go_ret2
          exact ⟨by rw [HP.out]; rfl, bl_st hb1 hb2⟩
    · have HP : Hid (pts l = (⟨#[]⟩, 140)) := by
        show _ = _
        have : ¬ T = n := by omega
        rw [hpt, if_neg (by simp [this])]
      clear hpt
      go_enter Tryd.func12, Tryd.ntmps12
      go_wp2_with (go_at_call 22; refine HC.out.mono ?_; rintro e w1 ⟨a1, c1, rfl, hN1, hb1⟩; have hcv := hcV hN1; clear hN1)
      go_ret2
      exact ⟨by rw [HP.out]; rfl, hb1⟩
  · have hE2 : ¬ (E : Int) = 0 := by omega
    have HP : Hid (pts l = (⟨#[]⟩, 140)) := by
      show _ = _
      rw [hpt, if_neg (by simp [hE])]
    clear hpt
    go_enter Tryd.func12, Tryd.ntmps12
    go_wp2_with (go_at_call 22; refine HC.out.mono ?_; rintro e w1 ⟨a1, c1, rfl, hN1, hb1⟩; have hcv := hcV hN1; clear hN1)
    go_ret2
    exact ⟨by rw [HP.out]; rfl, hb1⟩
set_option maxHeartbeats 1000000 in
theorem rpoints_any (a : Option Addr) (cap : Nat) (l : List Nat) (w : World) (ha : IsB w a l) (hcap : l.length ≤ cap) (hlen : cap ≤ 9223372036854775807) :
    Calls Tryd.prog 13 #[.slice a l.length cap] w fun e w' => e = .returned (.tuple #[.string (pts l).1, .int .i64 (pts l).2]) ∧ RowKit.Below w.heap.size w w' := by
  have C := refUnframe_any a cap l.length l w ha hcap hlen rfl
  unfold unfV at C
  have hpt : pts l = if ((unframe l).2.2 == 0 && (unframe l).2.1 == l.length && isM (ofB (unframe l).1)) = true then (ofB (unframe l).1, 0) else (⟨#[]⟩, 140) := rfl
  obtain ⟨B, T, E, hu⟩ : ∃ B T E, unframe l = (B, T, E) := ⟨_, _, _, rfl⟩
  rw [hu] at C hpt
  simp only at C hpt
  obtain ⟨S, hS⟩ : ∃ S, S = ofB B := ⟨_, rfl⟩
  rw [← hS] at hpt
  have hcV : ∀ {a1 : Option Addr} {c1 : Nat} {w1 : World}, New 5 w.heap.size w1 a1 c1 B → (convert 23 9 (.slice a1 B.length c1)).run Tryd.prog w1 = .ok (.string S) w1 := fun h => by
    rw [hS]; exact new_conv h
  have HC := Lib.hid C
  clear C hu hS
  clear ha hcap
  obtain ⟨n, hln⟩ : ∃ n, n = l.length := ⟨_, rfl⟩
  rw [← hln] at hpt HC ⊢
  clear hln hlen
  by_cases hE : E = 0
  · subst hE
    by_cases hT : (T : Int) = (n : Int)
    · cases hn : numB S with
      | none =>
        have HP : Hid (pts l = (⟨#[]⟩, 140)) := by
          show _ = _
          rw [hpt, if_neg (by simp [isM, hn])]
        have eN : numO (numB S) = .tuple #[.int .u8 0, .int .u64 0, .bool false] := by rw [hn]; rfl
        clear hpt hn
        go_enter Tryd.func13, Tryd.ntmps13
        go_wp2_with (first | (go_at_call 23; refine HC.out.mono ?_; rintro e w1 ⟨a1, c1, rfl, hN1, hb1⟩; have hcv := hcV hN1; clear hN1) | (go_at_call 5; refine (rnum_any S _).mono ?_; rw [eN]; rintro e w2 ⟨rfl, rfl⟩))
        go_ret2
        exact ⟨by rw [HP.out]; rfl, hb1⟩
      | some kn =>
        obtain ⟨k, m⟩ := kn
        have eN : numO (numB S) = .tuple #[.int .u8 (k : Int), .int .u64 (m : Int), .bool true] := by rw [hn]; rfl
        by_cases hk : (k : Int) = 109
        · have HP : Hid (pts l = (S, 0)) := by
            show _ = _
            have : k = 109 := by omega
            have hT' : T = n := by omega
            rw [hpt, if_pos (by simp [isM, hn, this, hT'])]
          clear hpt hn
          go_enter Tryd.func13, Tryd.ntmps13
          go_wp2_with (first | (go_at_call 23; refine HC.out.mono ?_; rintro e w1 ⟨a1, c1, rfl, hN1, hb1⟩; have hcv := hcV hN1; clear hN1) | (go_at_call 5; refine (rnum_any S _).mono ?_; rw [eN]; rintro e w2 ⟨rfl, rfl⟩))
          go_ret2
          exact ⟨by rw [HP.out]; rfl, hb1⟩
        · have HP : Hid (pts l = (⟨#[]⟩, 140)) := by
            show _ = _
            have : ¬ k = 109 := by omega
            rw [hpt, if_neg (by simp [isM, hn, this])]
          clear hpt hn
          go_enter Tryd.func13, Tryd.ntmps13
          go_wp2_with (first | (go_at_call 23; refine HC.out.mono ?_; rintro e w1 ⟨a1, c1, rfl, hN1, hb1⟩; have hcv := hcV hN1; clear hN1) | (go_at_call 5; refine (rnum_any S _).mono ?_; rw [eN]; rintro e w2 ⟨rfl, rfl⟩))
          go_ret2
          exact ⟨by rw [HP.out]; rfl, hb1⟩
    · have HP : Hid (pts l = (⟨#[]⟩, 140)) := by
        show _ = _
        have : ¬ T = n := by omega
        rw [hpt, if_neg (by simp [this])]
      clear hpt
      go_enter Tryd.func13, Tryd.ntmps13
      go_wp2_with (go_at_call 23; refine HC.out.mono ?_; rintro e w1 ⟨a1, c1, rfl, hN1, hb1⟩; have hcv := hcV hN1; clear hN1)
      go_ret2
      exact ⟨by rw [HP.out]; rfl, hb1⟩
  · have hE2 : ¬ (E : Int) = 0 := by omega
    have HP : Hid (pts l = (⟨#[]⟩, 140)) := by
      show _ = _
      rw [hpt, if_neg (by simp [hE])]
    clear hpt
    go_enter Tryd.func13, Tryd.ntmps13
    go_wp2_with (go_at_call 23; refine HC.out.mono ?_; rintro e w1 ⟨a1, c1, rfl, hN1, hb1⟩; have hcv := hcV hN1; clear hN1)
    go_ret2
    exact ⟨by rw [HP.out]; rfl, hb1⟩
end Nms
end Go.Proofs.YtdbiliigbinmfaaDoor
