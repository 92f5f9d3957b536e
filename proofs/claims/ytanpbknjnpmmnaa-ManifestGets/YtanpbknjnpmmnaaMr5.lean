import Derived.Test.YtanpbknjnpmmnaaMr4
namespace Go.Proofs.Ytanpbknjnpmmnaa
namespace Mnf
open Go.RowKit CMath Byt Cod Crw Irw Laws
set_option linter.unusedVariables false
set_option linter.unusedSimpArgs false
set_option maxRecDepth 20000
/-- the arrays of a table that is read -/
structure Pa (w wr : World) (B5 : Nat) (p : Pl) (B7 : Nat) (vs : List Value) : Prop where
  z0 : Zb wr w.heap.size zPd
  z5 : Zb wr B5 [.int .i64 p.1, .int .u64 (p.2 : Int)]
  z7 : Zb wr B7 vs
  b : Below w.heap.size w wr
  lt5 : w.heap.size < B5
  lt7 : B5 < B7
theorem Pa.below {w wr w' : World} {B5 B7 : Nat} {p : Pl} {vs : List Value} (h : Pa w wr B5 p B7 vs) (hb : Below wr.heap.size wr w') : Pa w w' B5 p B7 vs :=
  ⟨h.z0.below hb, h.z5.below hb, h.z7.below hb, h.b.trans (hb.mono h.b.size), h.lt5, h.lt7⟩
theorem Pa.set {w wr : World} {B5 B7 : Nat} {p : Pl} {vs : List Value} (h : Pa w wr B5 p B7 vs) (k : Nat) (v : Value) : Pa w (wr.setCell ⟨B7, k, none⟩ v) B5 p B7 (vs.set k v) :=
  have h5 := h.lt5
  have h7 := h.lt7
  ⟨h.z0.other (w' := wr) _ _ (by omega), h.z5.other (w' := wr) _ _ (by omega), h.z7.set k v, h.b.setCell (p := ⟨B7, k, none⟩) (by show w.heap.size ≤ B7; omega) _, h5, h7⟩
theorem Pa.set9 {w wr : World} {B5 B7 B9 : Nat} {p : Pl} {vs : List Value} (h : Pa w wr B5 p B7 vs) (k : Nat) (v : Value) (h9 : B7 < B9) : Pa w (wr.setCell ⟨B9, k, none⟩ v) B5 p B7 vs :=
  have h5 := h.lt5
  have h7 := h.lt7
  ⟨h.z0.other (w' := wr) _ _ (by omega), h.z5.other (w' := wr) _ _ (by omega), h.z7.other (w' := wr) _ _ (by omega), h.b.setCell (p := ⟨B9, k, none⟩) (by show w.heap.size ≤ B9; omega) _, h5, h7⟩
theorem Pa.end_ {w wr : World} {B5 B7 : Nat} {p : Pl} {vs : List Value} (h : Pa w wr B5 p B7 vs) (x : Pd) : Zb (sets wr w.heap.size 0 (pdC x)) w.heap.size (pdC x) ∧ Below w.heap.size w (sets wr w.heap.size 0 (pdC x)) :=
  ⟨h.z0.sets (by simp [pdC, zPd]), sets_below w.heap.size (Nat.le_refl _) _ 0 h.b⟩
set_option maxHeartbeats 2000000 in
theorem readPlaced_ok1 (a : Option Addr) (L : Nat) (l : List Nat) (p : Pl) (r1 : List Nat) (w : World) (h : IsB w a l) (hL : l.length = L) (hm : L ≤ 9223372036854775807) (hr : rdPl l = some (p, r1)) :
    Calls Try.prog 46 #[.slice a L L] w fun e w' => RdIs a l pdV (pdV noPd) (rdPd l) w e w' := by
  subst hL
  have HI : Hid (IsB w a l) := h
  have HR : Hid (rdPl l = some (p, r1)) := hr
  clear h hr
  go_enter Try.func46, Try.ntmps46
  go_wp2_with (first
    | (go_at_call 44; go_loud (refine (readPlace_ok a _ l p r1 _ (HI.out.below ((Below.refl _ _).alloc (Nat.le_refl _) _)) rfl hm HR.out).mono ?_; rintro e w1 ⟨a1, he, hs1, hb1⟩; subst he; unfold plV; have HX : Hid (Zb w1 w.heap.size zPd ∧ Below w.heap.size w w1 ∧ Sub a l a1 r1) := ⟨(Zb.new w #[.int .i64 0, .int .u64 0, .int .i64 0, .int .i64 0, .int .i64 0, .string ⟨#[]⟩, .string ⟨#[]⟩] _).below hb1, ((Below.refl _ _).alloc (Nat.le_refl _) _).trans (hb1.mono (by simp)), hs1⟩; have hlt := HX.out.1.1; clear hb1 hs1)))
  obtain ⟨W, hW⟩ : ∃ W, (w1.alloc (.cells #[.int .i64 p.1, .int .u64 (p.2 : Int)] 83)).alloc (.cells #[.int .i64 0, .int .i64 0, .int .i64 0] 136) = W := ⟨_, rfl⟩
  rw [hW]
  have HP : Hid (Pa w W w1.heap.size p (w1.heap.size + 1) [.int .i64 0, .int .i64 0, .int .i64 0]) := by
    have h1 := Zb.new w1 #[.int .i64 p.1, .int .u64 (p.2 : Int)] 83
    have h2 := Zb.new (w1.alloc (.cells #[.int .i64 p.1, .int .u64 (p.2 : Int)] 83)) #[.int .i64 0, .int .i64 0, .int .i64 0] 136
    have hb : Below w1.heap.size w1 W := by rw [← hW]; exact ((Below.refl _ _).alloc (Nat.le_refl _) _).alloc (by simp) _
    rw [hW] at h2
    refine ⟨HX.out.1.below hb, ?_, by simpa using h2, HX.out.2.1.trans (hb.mono HX.out.2.1.size), hlt, by omega⟩
    rw [← hW]
    exact h1.below ((Below.refl _ _).alloc (Nat.le_refl _) _)
  have HS : Hid (Sub a l a1 r1) := HX.out.2.2
  clear hW HX
  obtain ⟨B5, hB5⟩ : ∃ B, w1.heap.size = B := ⟨_, rfl⟩
  rw [hB5] at HP hlt ⊢
  clear hB5
  obtain ⟨B7, hB7⟩ : ∃ B, B5 + 1 = B := ⟨_, rfl⟩
  rw [hB7] at HP ⊢
  clear hB7
  have hlr := HS.out.len
  go_loopw [0, 21] (fun b i wr => ∃ (k : Nat) (ns : List Int) (r : List Nat) (a2 : Option Addr), k ≤ 3 ∧ b = .slice a2 r.length r.length ∧ i = .int .i64 (k : Int) ∧ r.length ≤ l.length ∧ Hid (Rk (rdI M63) 3 r1 k ns r ∧ Sub a l a2 r ∧ (∃ vs, vs.length = 3 ∧ vs.take k = ints ns ∧ Pa w wr B5 p B7 vs))) (fun _ i _ => 3 - (intOf i).toNat)
  case atStart => exact ⟨0, [], r1, a1, by omega, rfl, rfl, hlr, Rk.start _ _ _, HS.out, ⟨_, rfl, rfl, HP.out⟩⟩
  case round =>
    clear HP HS hlr
    obtain ⟨k, ns, r, a2, hk, rfl, rfl, hrl, HX⟩ := hrel
    rename World => wr
    by_cases hlt3 : k < 3
    · have q1 : (k : Int) < 3 := by omega
      obtain ⟨vs, hv1, hv2, hv3⟩ := HX.out.2.2
      have HV : Hid (vs.take k = ints ns ∧ vs.length = 3) := ⟨hv2, hv1⟩
      have HPA : Hid (Pa w wr B5 p B7 vs) := hv3
      have hB := (HX.out.2.1.isB HI.out).below hv3.b
      clear hv1 hv2 hv3
      cases hrd : rdI M63 r with
      | some y =>
        obtain ⟨y1, y2⟩ := y
        have HC : Hid (Calls Try.prog 56 #[.slice a2 r.length r.length, .int .i64 9223372036854775807] wr fun e w' => RdOk a2 r (.int .i64 y1) y2 wr e w') := readInt_ok a2 r.length r M63 y1 _ y2 wr hB rfl (by omega) (Nat.le_refl _) rfl hrd
        have HRR : Hid (rdI M63 r = some (y1, y2)) := hrd
        clear hB hrd
        go_wp2_with (go_at_call 56; go_loud (refine HC.out.mono ?_; rintro e w3 ⟨a3, rfl, hs3, hb3⟩; have HY : Hid (Sub a l a3 y2 ∧ Pa w w3 B5 p B7 vs) := ⟨HX.out.2.1.trans hs3, HPA.out.below hb3⟩; obtain ⟨u0, d0⟩ := HY.out.2.z7.some (k := k) (by rw [HV.out.2]; exact hlt3); have f0 := HY.out.2.z7.2.2 k; have hsl := hs3.len; clear hs3 hb3))
        go_roundw
        case rel =>
          refine ⟨k + 1, ns ++ [y1], y2, a3, by omega, rfl, by go_num, by omega, HX.out.1.step hlt3 HRR.out, HY.out.1, ⟨vs.set k (.int .i64 y1), by rw [List.length_set]; exact HV.out.2, ?_, HY.out.2.set k _⟩⟩
          rw [take_set HV.out.1 (by rw [HV.out.2]; exact hlt3)]
          simp [ints]
        case measure => simp [intOf]; omega
      | none =>
        have HC : Hid (Calls Try.prog 56 #[.slice a2 r.length r.length, .int .i64 9223372036854775807] wr fun e w' => RdNo (.int .i64 0) wr e w') := readInt_no a2 r.length r M63 _ wr hB rfl (by omega) (Nat.le_refl _) rfl hrd
        have HRR : Hid (rdPd l = none) := by
          show _ = _
          rw [rdPd_L, HR.out]
          simp only [Option.bind_some]
          rw [HX.out.1.no hlt3 hrd]
          rfl
        clear hB hrd
        go_wp2_with (go_at_call 56; go_loud (refine HC.out.mono ?_; rintro e w3 ⟨rfl, hb3⟩; have HY : Hid (Pa w w3 B5 p B7 vs) := HPA.out.below hb3; obtain ⟨u0, d0⟩ := HY.out.z7.some (k := k) (by rw [HV.out.2]; exact hlt3); have f0 := HY.out.z7.2.2 k; have l5 := HY.out.lt5; have l7 := HY.out.lt7; have e0 := HY.out.z0.2.1 0 _ rfl; have e1 := HY.out.z0.2.1 1 _ rfl; have e2 := HY.out.z0.2.1 2 _ rfl; have e3 := HY.out.z0.2.1 3 _ rfl; have e4 := HY.out.z0.2.1 4 _ rfl; have e5 := HY.out.z0.2.1 5 _ rfl; have e6 := HY.out.z0.2.1 6 _ rfl; have g0 := HY.out.z0.2.2 0; have g1 := HY.out.z0.2.2 1; have g2 := HY.out.z0.2.2 2; have g3 := HY.out.z0.2.2 3; have g4 := HY.out.z0.2.2 4; have g5 := HY.out.z0.2.2 5; have g6 := HY.out.z0.2.2 6; clear hb3))
        (try simp only [Exit.inBlock, Exit.then])
        have hz := (HY.out.set k (.int .i64 0)).end_ noPd
        refine bodyPost_ret (res_pd rfl _ _ w.heap.size noPd (by rfl) hz.1) rfl ?_
        exact .inr ⟨HRR.out, rfl, hz.2⟩
    · obtain rfl : k = 3 := by omega
      obtain ⟨vs, hv1, hv2, hv3⟩ := HX.out.2.2
      have hdone := HX.out.1.done
      obtain ⟨x, y, z, rfl⟩ : ∃ x y z, ns = [x, y, z] := by
        have := HX.out.1.1
        match ns, this with
        | [x, y, z], _ => exact ⟨x, y, z, rfl⟩
      rw [List.take_of_length_le (by omega)] at hv2
      subst hv2
      have HD : Hid (rdL (rdI M63) 3 r1 = some ([x, y, z], r)) := hdone
      have HS : Hid (Sub a l a2 r) := HX.out.2.1
      have HPA : Hid (Pa w wr B5 p B7 (ints [x, y, z])) := hv3
      clear hdone hv1 hv3 HX
      go_wp2
      obtain ⟨W2, hW2⟩ : ∃ W, wr.alloc (.cells #[.string ⟨#[]⟩, .string ⟨#[]⟩] 137) = W := ⟨_, rfl⟩
      rw [hW2]
      have HP2 : Hid (Pa w W2 B5 p B7 (ints [x, y, z]) ∧ Zb W2 wr.heap.size [.string ⟨#[]⟩, .string ⟨#[]⟩] ∧ B7 < wr.heap.size) := by
        have h2 := Zb.new wr #[.string ⟨#[]⟩, .string ⟨#[]⟩] 137
        have hb : Below wr.heap.size wr W2 := by rw [← hW2]; exact (Below.refl _ _).alloc (Nat.le_refl _) _
        rw [hW2] at h2
        exact ⟨HPA.out.below hb, h2, HPA.out.z7.1⟩
      obtain ⟨B9, hB9⟩ : ∃ B, wr.heap.size = B := ⟨_, rfl⟩
      rw [hB9] at HP2 ⊢
      clear hB9 hW2 HPA
      go_loopw [0, 36] (fun b i wq => ∃ (k : Nat) (ns : List ByteArray) (r2 : List Nat) (a3 : Option Addr), k ≤ 2 ∧ b = .slice a3 r2.length r2.length ∧ i = .int .i64 (k : Int) ∧ r2.length ≤ l.length ∧ Hid (Rk rdK 2 r k ns r2 ∧ Sub a l a3 r2 ∧ (∃ us, us.length = 2 ∧ us.take k = strs ns ∧ Pa w wq B5 p B7 (ints [x, y, z]) ∧ Zb wq B9 us ∧ B7 < B9))) (fun _ i _ => 2 - (intOf i).toNat)
      case atStart => exact ⟨0, [], r, a2, by omega, rfl, rfl, hrl, Rk.start _ _ _, HS.out, ⟨_, rfl, rfl, HP2.out.1, HP2.out.2.1, HP2.out.2.2⟩⟩
      case round =>
        clear HP2 HS hrl
        obtain ⟨k, ss, r2, a3, hk2, rfl, rfl, hrl, HX⟩ := hrel
        rename World => wq
        obtain ⟨us, hv1, hv2, hv3, hv4, hv5⟩ := HX.out.2.2
        have HV : Hid (us.take k = strs ss ∧ us.length = 2) := ⟨hv2, hv1⟩
        have HPA : Hid (Pa w wq B5 p B7 (ints [x, y, z]) ∧ Zb wq B9 us) := ⟨hv3, hv4⟩
        have hB := (HX.out.2.1.isB HI.out).below hv3.b
        clear hv1 hv2 hv3 hv4
        by_cases hlt2 : k < 2
        · have q1 : (k : Int) < 2 := by omega
          cases hrd : rdK r2 with
          | some y =>
            obtain ⟨y1, y2⟩ := y
            have HC : Hid (Calls Try.prog 48 #[.slice a3 r2.length r2.length] wq fun e w' => RdOk a3 r2 (.string y1) y2 wq e w') := readKey_ok a3 r2.length r2 y1 y2 wq hB rfl (by omega) hrd
            have HRR : Hid (rdK r2 = some (y1, y2)) := hrd
            clear hB hrd
            go_wp2_with (go_at_call 48; go_loud (refine HC.out.mono ?_; rintro e w3 ⟨a4, rfl, hs3, hb3⟩; have HY : Hid (Sub a l a4 y2 ∧ Pa w w3 B5 p B7 (ints [x, y, z]) ∧ Zb w3 B9 us) := ⟨HX.out.2.1.trans hs3, HPA.out.1.below hb3, HPA.out.2.below hb3⟩; obtain ⟨u0, d0⟩ := HY.out.2.2.some (k := k) (by rw [HV.out.2]; exact hlt2); have f0 := HY.out.2.2.2.2 k; have hsl := hs3.len; clear hs3 hb3))
            go_roundw
            case rel =>
              have htk : (us.set k (.string y1)).take (k + 1) = strs (ss ++ [y1]) := by
                rw [take_set HV.out.1 (by rw [HV.out.2]; exact hlt2)]
                simp [strs]
              repeat apply Exists.intro
              exact ⟨⟨k + 1, ss ++ [y1], y2, a4, by omega, rfl, by go_num, by omega, HX.out.1.step hlt2 HRR.out, HY.out.1, ⟨us.set k (.string y1), by rw [List.length_set]; exact HV.out.2, htk, HY.out.2.1.set9 k _ hv5, HY.out.2.2.set k _, hv5⟩⟩, rfl⟩
            case measure => simp [intOf]; omega
          | none =>
            have HC : Hid (Calls Try.prog 48 #[.slice a3 r2.length r2.length] wq fun e w' => RdNo (.string ⟨#[]⟩) wq e w') := readKey_no a3 r2.length r2 wq hB rfl (by omega) hrd
            have HRR : Hid (rdPd l = none) := by
              show _ = _
              rw [rdPd_L, HR.out]
              simp only [Option.bind_some]
              rw [HD.out]
              simp only [Option.bind_some]
              rw [HX.out.1.no hlt2 hrd]
              rfl
            clear hB hrd
            go_wp2_with (go_at_call 48; go_loud (refine HC.out.mono ?_; rintro e w3 ⟨rfl, hb3⟩; have HY : Hid (Pa w w3 B5 p B7 (ints [x, y, z]) ∧ Zb w3 B9 us) := ⟨HPA.out.1.below hb3, HPA.out.2.below hb3⟩; obtain ⟨u0, d0⟩ := HY.out.2.some (k := k) (by rw [HV.out.2]; exact hlt2); have f0 := HY.out.2.2.2 k; have l5 := HY.out.1.lt5; have l7 := HY.out.1.lt7; have e0 := HY.out.1.z0.2.1 0 _ rfl; have e1 := HY.out.1.z0.2.1 1 _ rfl; have e2 := HY.out.1.z0.2.1 2 _ rfl; have e3 := HY.out.1.z0.2.1 3 _ rfl; have e4 := HY.out.1.z0.2.1 4 _ rfl; have e5 := HY.out.1.z0.2.1 5 _ rfl; have e6 := HY.out.1.z0.2.1 6 _ rfl; have g0 := HY.out.1.z0.2.2 0; have g1 := HY.out.1.z0.2.2 1; have g2 := HY.out.1.z0.2.2 2; have g3 := HY.out.1.z0.2.2 3; have g4 := HY.out.1.z0.2.2 4; have g5 := HY.out.1.z0.2.2 5; have g6 := HY.out.1.z0.2.2 6; clear hb3))
            (try simp only [Exit.inBlock, Exit.then])
            have hz := (HY.out.1.set9 k (.string ⟨#[]⟩) hv5).end_ noPd
            refine bodyPost_ret (res_pd rfl _ _ w.heap.size noPd (by rfl) hz.1) rfl ?_
            exact .inr ⟨HRR.out, rfl, hz.2⟩
        · obtain rfl : k = 2 := by omega
          clear hB
          have hdone := HX.out.1.done
          obtain ⟨s, t, rfl⟩ : ∃ s t, ss = [s, t] := by
            have := HX.out.1.1
            match ss, this with
            | [s, t], _ => exact ⟨s, t, rfl⟩
          have hv2 := HV.out.1
          rw [List.take_of_length_le (by rw [HV.out.2]; exact Nat.le_refl _)] at hv2
          subst hv2
          have HRR : Hid (rdPd l = some (⟨p.1, p.2, x, y, z, s, t⟩, r2)) := by
            show _ = _
            rw [rdPd_L, HR.out]
            simp only [Option.bind_some]
            rw [HD.out]
            simp only [Option.bind_some]
            rw [hdone]
            rfl
          have l5 := HPA.out.1.lt5
          have l7 := HPA.out.1.lt7
          have l9 := HPA.out.2.1
          have c0 := HPA.out.1.z5.2.1 0 _ rfl
          have c1 := HPA.out.1.z5.2.1 1 _ rfl
          have a0 := HPA.out.1.z7.2.1 0 _ rfl
          have a1 := HPA.out.1.z7.2.1 1 _ rfl
          have a2 := HPA.out.1.z7.2.1 2 _ rfl
          have b0 := HPA.out.2.2.1 0 _ rfl
          have b1 := HPA.out.2.2.1 1 _ rfl
          have e0 := HPA.out.1.z0.2.1 0 _ rfl
          have e1 := HPA.out.1.z0.2.1 1 _ rfl
          have e2 := HPA.out.1.z0.2.1 2 _ rfl
          have e3 := HPA.out.1.z0.2.1 3 _ rfl
          have e4 := HPA.out.1.z0.2.1 4 _ rfl
          have e5 := HPA.out.1.z0.2.1 5 _ rfl
          have e6 := HPA.out.1.z0.2.1 6 _ rfl
          have g0 := HPA.out.1.z0.2.2 0
          have g1 := HPA.out.1.z0.2.2 1
          have g2 := HPA.out.1.z0.2.2 2
          have g3 := HPA.out.1.z0.2.2 3
          have g4 := HPA.out.1.z0.2.2 4
          have g5 := HPA.out.1.z0.2.2 5
          have g6 := HPA.out.1.z0.2.2 6
          have m0 : w.heap.size < wq.heap.size := by omega
          have m5 : B5 < wq.heap.size := by omega
          clear hdone
          go_wp2
          have hz := HPA.out.1.end_ ⟨p.1, p.2, x, y, z, s, t⟩
          have hz1 := hz.1.below ((Below.refl _ _).alloc (Nat.le_refl _) (.cells #[.int .u64 (p.2 : Int), .int .i64 x, .int .i64 y, .int .i64 z, .string s, .string t] 85))
          have hz2 := hz.2.alloc hz.2.size (.cells #[.int .u64 (p.2 : Int), .int .i64 x, .int .i64 y, .int .i64 z, .string s, .string t] 85)
          refine bodyPost_ret (res_pd rfl _ _ w.heap.size ⟨p.1, p.2, x, y, z, s, t⟩ (by rfl) hz1) rfl ?_
          exact .inl ⟨_, _, HRR.out, a3, rfl, HX.out.2.1, hz2⟩
theorem readPlaced_any (a : Option Addr) (L : Nat) (l : List Nat) (w : World) (h : IsB w a l) (hL : l.length = L) (hm : L ≤ 9223372036854775807) :
    Calls Try.prog 46 #[.slice a L L] w fun e w' => RdIs a l pdV (pdV noPd) (rdPd l) w e w' := by
  cases hr : rdPl l with
  | some x => exact readPlaced_ok1 a L l x.1 x.2 w h hL hm hr
  | none =>
    refine (readPlaced_no1 a L l w h hL hm hr).mono fun e w' hp => .inr ⟨?_, hp⟩
    rw [rdPd_L, hr]
    rfl
end Mnf
end Go.Proofs.Ytanpbknjnpmmnaa
