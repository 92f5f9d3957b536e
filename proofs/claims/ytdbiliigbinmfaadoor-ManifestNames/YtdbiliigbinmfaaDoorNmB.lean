import Derived.Test.YtdbiliigbinmfaaDoorNmA
namespace Go.Proofs.YtdbiliigbinmfaaDoor
namespace Nms
open Go.RowKit Go.Sort CMath Byt Cod Laws
set_option linter.unusedVariables false
set_option linter.unusedSimpArgs false
set_option maxRecDepth 20000
theorem var_b {w w' : World} {n : String} {cs : Array Value} (hb : RowKit.Below w.heap.size w w') (h : w.var? Tryd.prog n = some cs) : w'.var? Tryd.prog n = some cs := by
  unfold World.var? at h ⊢
  cases hg : Tryd.prog.globalNamed n with
  | none => rw [hg] at h; simp at h
  | some g =>
    rw [hg] at h
    simp only [Option.bind_some] at h ⊢
    rcases Nat.lt_or_ge g w.heap.size with hlt | hge
    · rw [hb.block g hlt]; exact h
    · rw [Array.getElem?_eq_none hge] at h
      simp at h
theorem Lib3.below {w w' : World} (h : Lib3 w) (hb : RowKit.Below w.heap.size w w') : Lib3 w' :=
  ⟨var_b hb h.tab, h.syn.elim fun t ⟨p, e⟩ => ⟨t, p, var_b hb e⟩, h.ran.elim fun t ⟨p, e⟩ => ⟨t, p, var_b hb e⟩⟩
theorem name_any (k u : Nat) (hk : k < 256) (hu : u < 18446744073709551616) (w : World) (h3 : Lib3 w) : Calls Tryd.prog 6 #[.int .u8 (k : Int), .int .u64 (u : Int)] w fun e w' => e = .returned (.string (nm k u)) ∧ RowKit.Below w.heap.size w w' := by
  by_cases h : (kindOk k && decide (u < 1000000000000)) = true
  · have h' := h
    rw [Bool.and_eq_true, decide_eq_true_eq] at h'
    exact name_yes k u h'.1 h'.2 w h3.tab
  · refine (name_no k u hk hu (by simpa using h) w).mono ?_
    rintro e w' ⟨rfl, rfl⟩
    refine ⟨?_, RowKit.Below.refl _ _⟩
    unfold nm nameB
    rw [if_neg h]
    rfl
theorem rname_any (k u : Nat) (hk : k < 256) (hu : u < 18446744073709551616) (w : World) : Calls Tryd.prog 7 #[.int .u8 (k : Int), .int .u64 (u : Int)] w fun e w' => e = .returned (.string (nm k u)) ∧ RowKit.Below w.heap.size w w' := by
  by_cases h : (kindOk k && decide (u < 1000000000000)) = true
  · have h' := h
    rw [Bool.and_eq_true, decide_eq_true_eq] at h'
    unfold nm nameB
    rw [if_pos h]
    exact rname_yes k u h'.1 h'.2 w
  · refine (rname_no k u hk hu (by simpa using h) w).mono ?_
    rintro e w' ⟨rfl, rfl⟩
    refine ⟨?_, RowKit.Below.refl _ _⟩
    unfold nm nameB
    rw [if_neg h]
    rfl
theorem toList_ne {a b : ByteArray} (h : ¬ a = b) : (a.toList == b.toList) = false := by
  rw [ByteArray.toList_eq, ByteArray.toList_eq, beq_eq_false_iff_ne]
  intro e
  exact h (ByteArray.ext (Array.toList_inj.1 e))
set_option maxHeartbeats 1000000 in
theorem number_any (s : ByteArray) (w : World) (h3 : Lib3 w) : Calls Tryd.prog 4 #[.string s] w fun e w' => e = .returned (numO (numB s)) ∧ RowKit.Below w.heap.size w w' := by
  by_cases h : (s.size : Int) = 14
  · have hs : s.size = 14 := by omega
    have g2 : (2 : Int) ≤ (s.size : Int) := by omega
    have b0 : ((s[0]'(by omega)).toNat : Int) = (bt s 0 : Int) := by rw [bt_at]
    have hx : (s.extract 2 14).data.toList = s.data.toList.drop 2 := by
      have hl : s.data.toList.length = 14 := hs
      rw [ByteArray.data_extract, Array.toList_extract]
      simp [List.extract_eq_take_drop, List.take_of_length_le, hl]
    have P := Lib.hid (parse_any (s.extract 2 14) (by rw [ByteArray.size_extract]; omega) w h3)
    have H3 : Hid (Lib3 w) := h3
    have HX : Hid ((s.extract 2 14).data.toList = s.data.toList.drop 2) := hx
    by_cases hok : ∃ u, Lib.parseUintB 64 (s.data.toList.drop 2) = .ok u
    · obtain ⟨u, hp⟩ := hok
      have P2 : Calls Tryd.prog 15 #[.string (s.extract 2 14), .int .i64 10, .int .i64 64] w fun e w' => e = .returned (.tuple #[.int .u64 (u : Int), .nilIface]) ∧ RowKit.Below w.heap.size w w' := by
        refine P.out.mono ?_
        rintro e w' ⟨hb, ⟨v, hv, h1, rfl⟩ | ⟨h1, _⟩⟩
        · rw [hx, hp] at h1
          injection h1 with h1
          subst h1
          exact ⟨rfl, hb⟩
        · rw [hx] at h1
          exact absurd hp (h1 u)
      have hu : u < 18446744073709551616 := Nat.lt_of_le_of_lt (Lib.parseUintB_le hp) (by decide)
      have HU : Hid (u < 18446744073709551616) := hu
      have hN := num_ok s u hs hp
      have HP := Lib.hid P2
      have HK : Hid (bt s 0 < 256) := bt_lt _ _
      by_cases he : nm (bt s 0) u = s
      · rw [if_pos he] at hN
        have HN := Lib.hid hN
        have hq : ((nm (bt s 0) u).toList == s.toList) = true := by rw [he]; simp
        clear hx h3 P hN P2 hu hp he HX
        go_enter Tryd.func4, Tryd.ntmps4
        go_wp2_with (first | (go_at_call 15; refine HP.out.mono ?_; rintro e w1 ⟨rfl, hb1⟩) | (go_at_call 6; refine (name_any (bt s 0) u HK.out HU.out _ (H3.out.below hb1)).mono ?_; rintro e w2 ⟨rfl, hb2⟩))
        go_ret3
        exact ⟨by rw [HN.out]; rfl, bl_st hb1 hb2⟩
      · rw [if_neg he] at hN
        have HN := Lib.hid hN
        have hq : ((nm (bt s 0) u).toList == s.toList) = false := toList_ne he
        clear hx h3 P hN P2 hu hp he HX
        go_enter Tryd.func4, Tryd.ntmps4
        go_wp2_with (first | (go_at_call 15; refine HP.out.mono ?_; rintro e w1 ⟨rfl, hb1⟩) | (go_at_call 6; refine (name_any (bt s 0) u HK.out HU.out _ (H3.out.below hb1)).mono ?_; rintro e w2 ⟨rfl, hb2⟩))
        go_ret3
        exact ⟨by rw [HN.out]; rfl, bl_st hb1 hb2⟩
    · have P2 : Calls Tryd.prog 15 #[.string (s.extract 2 14), .int .i64 10, .int .i64 64] w fun e w' => ∃ (x : Int) (tt : TypeId) (v : Value), e = .returned (.tuple #[.int .u64 x, .iface tt v]) ∧ RowKit.Below w.heap.size w w' := by
        refine P.out.mono ?_
        rintro e w' ⟨hb, ⟨v, hv, h1, rfl⟩ | ⟨h1, x, tt, v, rfl⟩⟩
        · rw [hx] at h1
          exact absurd ⟨v, h1⟩ hok
        · exact ⟨x, tt, v, rfl, hb⟩
      have HN := Lib.hid (num_bad s hs fun u e => hok ⟨u, e⟩)
      have HP := Lib.hid P2
      clear hx h3 P P2 hok HX
      go_enter Tryd.func4, Tryd.ntmps4
      go_wp2_with (go_at_call 15; refine HP.out.mono ?_; rintro e w1 ⟨x, tt, v, rfl, hb1⟩)
      go_ret3
      exact ⟨by rw [HN.out]; rfl, hb1⟩
  · have HD : Hid (numB s = none) := by
      show _ = _
      have h2 : ¬ s.size = 14 := by omega
      unfold numB; simp [h2]
    clear h3
    go_enter Tryd.func4, Tryd.ntmps4
    go_wp2
    go_ret3
    exact ⟨by rw [HD.out]; rfl, RowKit.Below.refl _ _⟩
end Nms
end Go.Proofs.YtdbiliigbinmfaaDoor
