import Derived.Test.YtkebbmdghnplmaaDoorQr5
import Derived.Test.YtkebbmdghnplmaaDoorQb9
namespace Go.Proofs.YtkebbmdghnplmaaDoor
namespace Qb
open Go.RowKit CMath Byt Laws Irw Crw Cod
set_option linter.unusedVariables false
set_option linter.unusedSimpArgs false
set_option maxRecDepth 20000

theorem refBody_any (a : Option Addr) (cap n : Nat) (l : List En) (w : World) (r : Int) (hl : Erw.IsE w a l) (hn : n = l.length) (hm : n ≤ 100000) (hok : ∀ e ∈ l, Ok e ∧ 0 ≤ e.2.1) (hr : -9223372036854775808 ≤ r ∧ r ≤ 9223372036854775807) :
    Calls Tryd.prog 28 #[.slice a n cap, .int .i64 r] w fun e w' => BodyIs w (Rn r) l e w' := by
  by_cases h : r < 1
  · have : Rn r = 1 := by unfold Rn; omega
    rw [this]
    exact refBody_0 a cap n l w r hl hn hm hok h hr.1
  · have h1 := refBody_n a cap n l w r.toNat hl hn hm hok (by omega) (by omega)
    rw [Int.toNat_of_nonneg (by omega)] at h1
    have : Rn r = r.toNat := by unfold Rn; omega
    rw [this]
    exact h1
theorem RS.app {w0 : World} {T T' : Nat → Nat} {w w' : World} {v6 v7 v' : Value} {o o' ps : List Nat} (h : RS w0 T w v6 v7 o ps) (ho : OwnB 1 T' w' v' o') (hg : Goes (· = 1) T w T' w') : RS w0 T' w' v' v7 o' ps :=
  ⟨ho, h.pl.goes hg (by omega), h.go.trans (hg.mono fun x hx => .inl hx), h.hi.goes hg⟩
theorem placeB_len (ps : List Nat) : (placeB ps).length = 4 * ps.length := by
  induction ps with
  | nil => rfl
  | cons x t ih => simp only [placeB, List.map_cons, List.flatten_cons, List.length_append, List.length_cons] at ih ⊢; rw [ih, four_len]; omega
theorem placeB_take {ps : List Nat} {k x : Nat} (h : ps[k]? = some x) : placeB (ps.take (k + 1)) = placeB (ps.take k) ++ four x := by
  rw [List.take_add_one, h]
  exact placeB_snoc _ _
theorem own_lift {w : World} {T : Nat → Nat} {w' : World} {v : Value} {l : List Nat} (h : OwnB 1 T w' v l) (hg : Goes uB (fun _ => 0) w T w') (hl : 0 < l.length) : Byt.Own 5 w.heap.size w' v l :=
  own_from h hl (fun b hb => (hg.tag b hb (by unfold uB; omega)))
set_option maxHeartbeats 2000000 in
theorem refBytes_any (a : Option Addr) (cap n : Nat) (l : List En) (w : World) (r : Int) (hl : Erw.IsE w a l) (hn : n = l.length) (hm : n ≤ 100000) (hok : ∀ e ∈ l, Ok e ∧ 0 ≤ e.2.1) (hr : -9223372036854775808 ≤ r ∧ r ≤ 9223372036854775807) :
    Calls Tryd.prog 9 #[.slice a n cap, .int .i64 r] w fun e w' => ∃ v, e = .returned v ∧ Byt.Own 5 w.heap.size w' v (blk (pushes (Rn r) st0 l)) ∧ Below w.heap.size w w' := by
  have HB : Hid (Calls Tryd.prog 28 #[.slice a n cap, .int .i64 r] w fun e w' => BodyIs w (Rn r) l e w') := refBody_any a cap n l w r hl hn hm hok hr
  have hbl := pushes_len (Rn r) l hok
  have hpl := pushes_plen (Rn r) l st0
  have z1 : st0.p.length = 0 := rfl
  have hB : (pushes (Rn r) st0 l).b.length ≤ 70000000 := by omega
  have hP : (pushes (Rn r) st0 l).p.length ≤ 400000 := by omega
  clear hl hn hok hr hbl hpl z1
  have HB2 : Hid (Calls Tryd.prog 28 #[.slice a n cap, .int .i64 r] w fun e w' => ∃ a1 B c1 a2 P c2 T ps, e = .returned (.tuple #[.slice a1 B c1, .slice a2 P c2]) ∧ RS w T w' (.slice a1 B c1) (.slice a2 P c2) (pushes (Rn r) st0 l).b ps ∧ placeB ps = (pushes (Rn r) st0 l).p ∧ (∀ x ∈ ps, x ≤ (pushes (Rn r) st0 l).b.length)) := HB.out
  clear HB
  generalize pushes (Rn r) st0 l = S at *
  go_enter Tryd.func9, Tryd.ntmps9
  go_wp2_with (go_at_call 28; fail)
  refine HB2.out.mono ?_
  rintro e w1 ⟨a1, B, c1, a2, P, c2, T, ps, rfl, hrs, hps, hle⟩
  have HRS : Hid (RS w T w1 (.slice a1 B c1) (.slice a2 P c2) S.b ps) := hrs
  have HPS : Hid (placeB ps = S.p ∧ (∀ x ∈ ps, x ≤ S.b.length)) := ⟨hps, hle⟩
  obtain ⟨a1', c1', e1, _⟩ := hrs.own.form
  obtain ⟨a2', c2', e2, _⟩ := hrs.pl.form
  simp only [Value.slice.injEq] at e1 e2
  have hBB : B = S.b.length := e1.2.1
  have hPP : P = ps.length := by rw [e2.2.1, ints_len]
  have h4 : 4 * ps.length = S.p.length := by rw [← hps, placeB_len]
  have HBP : Hid (B = S.b.length ∧ P = ps.length ∧ 4 * P = S.p.length) := ⟨hBB, hPP, by omega⟩
  have hBm : B ≤ 70000000 := by omega
  have hPm : P ≤ 100000 := by omega
  clear hrs hps hle e1 e2 hBB hPP h4
  dsimp only
  go_wp2
  go_loopw [5, 7] (fun v5 i wr => ∃ (k : Nat) (aa : Option Addr) (N cc : Nat), k ≤ P ∧ N ≤ 80000000 ∧ v5 = .slice aa N cc ∧ i = .int .i64 (k : Int) ∧ Hid (N = B + 4 * k ∧ ∃ T', RS w T' wr (.slice aa N cc) (.slice a2 P c2) (S.b ++ placeB (ps.take k)) ps)) (fun _ i _ => P - (intOf i).toNat)
  case atStart => exact ⟨0, a1, B, c1, Nat.zero_le _, by omega, rfl, rfl, by omega, T, by simpa [placeB] using HRS.out⟩
  case round =>
    obtain ⟨k, aa, N, cc, hk, hNm, rfl, rfl, HK⟩ := hrel
    rename World => wr
    obtain ⟨hN, T', hst⟩ := HK.out
    have HST : Hid (RS w T' wr (.slice aa N cc) (.slice a2 P c2) (S.b ++ placeB (ps.take k)) ps) := hst
    have HNN : Hid (N = B + 4 * k) := hN
    have HLN : Hid ((S.b ++ placeB (ps.take k)).length = N) := by
      obtain ⟨_, _, e3, _⟩ := hst.own.form
      simp only [Value.slice.injEq] at e3
      exact e3.2.1.symm
    by_cases hlt : k < P
    · have q1 : (k : Int) < (P : Int) := by omega
      have hkl : k < ps.length := by have := HBP.out.2.1; omega
      have hii := hst.pl.isI.1
      obtain ⟨b2, o2, rfl, hrow⟩ := hii.at_ (by rw [ints_len]; omega)
      obtain ⟨x, hx⟩ : ∃ x, ps[k]? = some x := ⟨_, List.getElem?_eq_getElem hkl⟩
      have c0 := hrow.2 k (x : Int) (by simp [ints, hx])
      have hxl : x < 4294967296 := by have := HPS.out.2 x (List.mem_of_getElem? hx); omega
      have HPT : Hid (placeB (ps.take (k + 1)) = placeB (ps.take k) ++ four x) := placeB_take hx
      clear hst hN hkl hii hrow hx HK
      go_wp2_with (first
        | (go_at_call 29; go_loud (refine (refFour_any x wr hxl).mono ?_; rintro e w2 ⟨g2, d2, rfl, hi2, hb2⟩; have HF : Hid (IsB w2 (some ⟨g2, 0, none⟩) (four x) ∧ RS w T' w2 (.slice aa N cc) (.slice (some ⟨b2, o2, none⟩) P c2) (S.b ++ placeB (ps.take k)) ps) := ⟨hi2, HST.out.below hb2⟩; clear hi2 hb2))
        | (at_builtin; go_loud (refine wpList_app8n (N + 4) _ (by rfl) (.tmp 20) (.tmp 25) (by rfl) 1 T' _ (S.b ++ placeB (ps.take k)) (by rfl) HF.out.2.own (some ⟨g2, 0, none⟩) 4 d2 (four x) (by rfl) rfl (by simp) HF.out.1 (by rw [HLN.out, four_len]; omega) (by rw [HLN.out, four_len]) ?_; intro a3 c3 T3 w3 ho3 hg3; have H3 : Hid (RS w T3 w3 (.slice a3 (N + 4) c3) (.slice (some ⟨b2, o2, none⟩) P c2) (S.b ++ placeB (ps.take k) ++ four x) ps) := HF.out.2.app ho3 hg3; clear ho3 hg3)))
      go_roundw
      case rel => exact ⟨k + 1, a3, N + 4, c3, by omega, by have := HNN.out; omega, rfl, by go_num, by have := HNN.out; omega, T3, by rw [HPT.out, ← List.append_assoc]; exact H3.out⟩
      case measure => simp [intOf]; omega
    · obtain rfl : k = P := by omega
      have htk : ps.take k = ps := List.take_of_length_le (by have := HBP.out.2.1; omega)
      rw [htk, HPS.out.1] at HST HLN
      have hk32 : k < 4294967296 := by omega
      have HB0 : Hid (S.b ++ S.p ++ four k = blk0 S) := by
        show _ = _
        unfold blk0
        rw [show S.p.length / 4 = k by have := HBP.out.2.2; omega]
      clear hst hN htk HK
      go_wp2_with (first
        | (go_at_call 29; go_loud (refine (refFour_any k wr hk32).mono ?_; rintro e w2 ⟨g2, d2, rfl, hi2, hb2⟩; have HF : Hid (IsB w2 (some ⟨g2, 0, none⟩) (four k) ∧ RS w T' w2 (.slice aa N cc) (.slice a2 k c2) (S.b ++ S.p) ps) := ⟨hi2, HST.out.below hb2⟩; clear hi2 hb2))
        | (at_builtin; go_loud (refine wpList_app8n (N + 4) _ (by rfl) (.tmp 27) (.tmp 30) (by rfl) 1 T' _ (S.b ++ S.p) (by rfl) HF.out.2.own (some ⟨g2, 0, none⟩) 4 d2 (four k) (by rfl) rfl (by simp) HF.out.1 (by rw [HLN.out, four_len]; omega) (by rw [HLN.out, four_len]) ?_; intro a3 c3 T3 w3 ho3 hg3; have H3 : Hid (RS w T3 w3 (.slice a3 (N + 4) c3) (.slice a2 k c2) (blk0 S) ps) := (by rw [← HB0.out]; exact HF.out.2.app ho3 hg3); clear ho3 hg3))
        | (go_at_call 31; fail))
      have HL0 : Hid ((blk0 S).length = N + 4) := by show _ = _; rw [← HB0.out, List.length_append, HLN.out, four_len]
      have hcr : crc (blk0 S) < 4294967296 := crc_lt _ H3.out.own.byte
      have hi3 : IsB w3 a3 (blk0 S) := by
        obtain ⟨_, _, e3, hi, _⟩ := H3.out.own.form
        simp only [Value.slice.injEq] at e3
        rw [e3.1]; exact hi
      refine (refSum_any a3 c3 (N + 4) (blk0 S) w3 hi3 (by rw [HL0.out]; omega) HL0.out.symm).mono ?_
      rintro e w4 ⟨rfl, hw⟩
      obtain rfl := hw.symm
      have HBK : Hid (blk S = blk0 S ++ four (crc (blk0 S))) := rfl
      clear hi3 hw
      generalize crc (blk0 S) = cr at *
      dsimp only
      go_wp2_with (first
        | (go_at_call 30; go_loud (refine (four_any cr _ hcr).mono ?_; rintro e w5 ⟨v5, rfl, ho5, hb5⟩; obtain ⟨g5, d5, rfl, _, _, _, hi5⟩ := ho5.isB; have HF5 : Hid (IsB w5 (some ⟨g5, 0, none⟩) (four cr) ∧ RS w T3 w5 (.slice a3 (N + 4) c3) (.slice a2 k c2) (blk0 S) ps) := ⟨hi5, H3.out.below hb5⟩; clear ho5 hi5 hb5))
        | (at_builtin; go_loud (refine wpList_app8n (N + 8) _ (by rfl) (.tmp 32) (.tmp 35) (by rfl) 1 T3 _ (blk0 S) (by rfl) HF5.out.2.own (some ⟨g5, 0, none⟩) _ d5 (four cr) (by rfl) rfl (by simp) HF5.out.1 (by rw [HL0.out, four_len]; omega) (by rw [HL0.out, four_len]) ?_; intro a6 c6 T6 w6 ho6 hg6; have H6 : Hid (RS w T6 w6 (.slice a6 (N + 8) c6) (.slice a2 k c2) (blk0 S ++ four cr) ps) := HF5.out.2.app ho6 hg6; clear ho6 hg6)))
      go_ret
      refine ⟨_, rfl, ?_, H6.out.below0⟩
      rw [HBK.out]
      exact own_lift H6.out.own H6.out.go (by rw [List.length_append, four_len]; omega)
end Qb
end Go.Proofs.YtkebbmdghnplmaaDoor
