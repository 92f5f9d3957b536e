import Derived.Test.YtffgngekhdceaaaDoorMw0
import Derived.Test.YtffgngekhdceaaaDoorMl4
namespace Go.Proofs.YtffgngekhdceaaaDoor
namespace Mnf
open Go.RowKit CMath Byt Cod Crw Irw Laws
set_option linter.unusedVariables false
set_option linter.unusedSimpArgs false
set_option maxRecDepth 20000
set_option maxHeartbeats 1000000 in
theorem form_walk (HKN : ∀ w : World, Calls Tryd.prog 5 #[] w fun e w' => e = .returned (.bool true) ∧ Below w.heap.size w w') (w : World) (a : Option Addr) (n cap : Nat) (recs : List (List Nat)) (hd : IsD w a recs) (hn : recs.length = n) (hmx : (n : Int) ≤ 9223372036854775807) :
    Calls Tryd.prog 4 #[.slice a n cap] w fun e w' => e = .returned (.bool true) ∧ Below w.heap.size w w' := by
  have HD : Hid (IsD w a recs ∧ recs.length = n) := ⟨hd, hn⟩
  clear hd hn
  go_enter Tryd.func4, Tryd.ntmps4
  go_upto_region 3 with (go_at_call 5; refine (HKN _).mono ?_; rintro e w1 ⟨rfl, hb1⟩)
  have HB1 : Hid (Below w.heap.size w w1) := hb1
  have HF : Hid (Calls Tryd.prog 12 #[.slice a n cap] w1 fun r w' => ∃ b : Bool, r = .returned (.bool b) ∧ Below w1.heap.size w1 w' ∧ (b = true → (recs.map bulkD).sum ≤ 400000)) := fewer_any w1 a cap n recs HD.out.2 hmx (HD.out.1.below hb1)
  clear hb1
  go_upto_region 5 with (go_at_call 12; refine HF.out.mono ?_; rintro e w2 ⟨b, rfl, hb2, hf⟩)
  ·
    have HB2 : Hid (Below w.heap.size w w2) := bl_go HB1.out hb2
    clear hb2 hf
    go_ret
    exact ⟨rfl, HB2.out⟩
  rename (!b) = false => hnb
  have hbt : b = true := by simpa using hnb
  clear hnb
  have HS : Hid ((recs.map bulkD).sum ≤ 400000) := hf hbt
  have HB2 : Hid (Below w.heap.size w w2) := bl_go HB1.out hb2
  clear hf hb2 HF HB1
  subst hbt
  have hn4 : n ≤ 400000 := by
    have h1 := sum_len recs
    have h2 := HS.out
    have h3 := HD.out.2
    omega
  have HGT : Hid (Calls Tryd.prog 10 #[.slice a n cap] w2 fun e w' => GtIs (gets recs noE) w2 e w') := get_any a n cap recs w2 (HD.out.1.below HB2.out) HD.out.2 (by omega)
  cases hg : gets recs noE with
  | none =>
    have HG2 : Hid (Calls Tryd.prog 10 #[.slice a n cap] w2 fun e w' => e = .returned (.tuple #[.slice none 0 0, .int .i64 140]) ∧ Below w2.heap.size w2 w') := by
      refine HGT.out.mono ?_
      rintro e w' h
      rw [hg] at h
      rcases h with ⟨es, s, he, _⟩ | ⟨_, h1, h2⟩
      · cases he
      · exact ⟨h1, h2⟩
    clear HGT hg
    go_wp2_with (go_at_call 10; refine HG2.out.mono ?_; rintro e w3 ⟨rfl, hb3⟩)
    go_ret
    exact ⟨rfl, bl_go HB2.out hb3⟩
  | some es =>
    have HG2 : Hid (Calls Tryd.prog 10 #[.slice a n cap] w2 fun e w' => ∃ sa sn sc, e = .returned (.tuple #[.slice sa sn sc, .int .i64 0]) ∧ EdsAt w' (sa, sn, sc) es ∧ Below w2.heap.size w2 w') := by
      refine HGT.out.mono ?_
      rintro e w' h
      rw [hg] at h
      rcases h with ⟨es', ⟨sa, sn, sc⟩, he, h1, h2, h3⟩ | ⟨he, _⟩
      · cases he
        exact ⟨sa, sn, sc, h1, h2, h3⟩
      · cases he
    obtain ⟨⟨tail, htl⟩, hok⟩ := gets_form recs noE [] es HD.out.1.byte Beg.no hg
    have HR : Hid (recs = es.flatMap puts ++ tail ∧ ∀ e ∈ es, okE e) := ⟨by simpa using htl, hok⟩
    clear HGT hg htl hok
    go_upto_region 8 with (go_at_call 10; refine HG2.out.mono ?_; rintro e w3 ⟨sa, sn, sc, rfl, hes, hb3⟩)
    have hsn : sn = es.length := by obtain ⟨vs, h1, h2, _⟩ := hes; exact h2
    have HE : Hid (EdsAt w3 (sa, sn, sc) es ∧ Below w.heap.size w w3 ∧ sn = es.length) := ⟨hes, bl_go HB2.out hb3, hsn⟩
    have hsm : sn ≤ 400000 := by
      have := es_len es
      have h2 := HD.out.2
      rw [HR.out.1, List.length_append] at h2
      omega
    clear hes hb3 HG2 hsn
    go_wp2
    have hp0 := pos_zero es
    go_loopw [5, 6] (fun at_ i wr => ∃ k P : Nat, k ≤ sn ∧ i = .int .i64 (k : Int) ∧ P = pos es k ∧ at_ = .int .i64 (P : Int) ∧ Hid (Below w3.heap.size w3 wr)) (fun _ i _ => sn - (intOf i).toNat)
    case atStart => exact ⟨0, 0, Nat.zero_le _, rfl, hp0.symm, rfl, Below.refl _ _⟩
    case round =>
      clear hp0
      obtain ⟨k, P, hk, rfl, hP, rfl, HBR⟩ := hrel
      rename World => wr
      by_cases hlt : k < sn
      · have hkl : k < es.length := by rw [← HE.out.2.2]; exact hlt
        obtain ⟨ed, hed0⟩ : ∃ e, es[k]? = some e := ⟨_, List.getElem?_eq_getElem hkl⟩
        have hple := pos_le HR.out.1 hed0
        have htp := tabs_puts ed
        have hrl := HD.out.2
        obtain ⟨b, off, v, hsa, hbl, cs, hed⟩ := eds_at (HE.out.1.below HBR.out) hed0
        dsimp only at hsa
        subst hsa
        obtain ⟨v1, v2, v3, o1, i1, p1⟩ := v
        have hed2 := hed
        obtain ⟨⟨q1, q2, q3⟩, _⟩ := hed2
        obtain rfl : v1 = ed.log := q1
        obtain rfl : v2 = ed.nxt := q2
        obtain rfl : v3 = ed.seq := q3
        have c0 : wr.cell? ⟨b, off + k * 6, none⟩ = some (.int .u64 (ed.log : Int)) := cs 0 _ rfl
        have c1 : wr.cell? ⟨b, off + k * 6 + 1, none⟩ = some (.int .u64 (ed.nxt : Int)) := cs 1 _ rfl
        have c2 : wr.cell? ⟨b, off + k * 6 + 2, none⟩ = some (.int .u64 (ed.seq : Int)) := cs 2 _ rfl
        have c3 : wr.cell? ⟨b, off + k * 6 + 3, none⟩ = some (.slice o1.1 o1.2.1 o1.2.2) := cs 3 _ rfl
        have c4 : wr.cell? ⟨b, off + k * 6 + 4, none⟩ = some (.slice i1.1 i1.2.1 i1.2.2) := cs 4 _ rfl
        have c5 : wr.cell? ⟨b, off + k * 6 + 5, none⟩ = some (.slice p1.1 p1.2.1 p1.2.2) := cs 5 _ rfl
        have HPT : Hid (Calls Tryd.prog 8 #[.agg #[.int .u64 (ed.log : Int), .int .u64 (ed.nxt : Int), .int .u64 (ed.seq : Int), .slice o1.1 o1.2.1 o1.2.2, .slice i1.1 i1.2.1 i1.2.2, .slice p1.1 p1.2.1 p1.2.2]] wr fun e w' => ∃ pa pn pc, e = .returned (.slice pa pn pc) ∧ DsAt w' (pa, pn, pc) (puts ed) ∧ Below wr.heap.size wr w') := by
          refine (put_ok ed o1 i1 p1 wr hed.2.1 hed.2.2.1 hed.2.2.2.1 (HR.out.2 ed (List.mem_of_getElem? hed0)) hed.2.2.2.2 (by unfold tabs at htp; omega) (by unfold tabs at htp; omega)).mono ?_
          rintro e w' ⟨⟨pa, pn, pc⟩, h1, h2, h3⟩
          exact ⟨pa, pn, pc, h1, h2, h3⟩
        have HED : Hid (es[k]? = some ed ∧ P = pos es k ∧ pos es k + (puts ed).length ≤ n) := ⟨hed0, hP, by omega⟩
        have hk1 : (k : Int) < (sn : Int) := by omega
        clear hed cs hed0 hP hple htp hrl hkl
        go_upto_region 13 with (go_at_call 8; refine HPT.out.mono ?_; rintro e w4 ⟨pa, pn, pc, rfl, hds, hb4⟩)
        have HDS : Hid (IsD w4 pa (puts ed) ∧ pn = (puts ed).length ∧ Below w3.heap.size w3 w4) := ⟨hds.1, hds.2.1, bl_go HBR.out hb4⟩
        have hpn : P + pn ≤ n := by have h1 := HED.out.2; have h2 := HDS.out.2.1; omega
        clear hds hb4 HPT c0 c1 c2 c3 c4 c5
        go_wp2
        go_loopw [5, 8] (fun at_ j wr => ∃ m A : Nat, m ≤ pn ∧ j = .int .i64 (m : Int) ∧ A = P + m ∧ at_ = .int .i64 (A : Int) ∧ Hid (Below w4.heap.size w4 wr)) (fun _ j _ => pn - (intOf j).toNat)
        case atStart => exact ⟨0, P, Nat.zero_le _, rfl, rfl, rfl, Below.refl _ _⟩
        case round =>
          obtain ⟨m, A, hm, rfl, hA, rfl, HBQ⟩ := hrel
          rename World => wq
          by_cases hml : m < pn
          · have hmp : m < (puts ed).length := by rw [← HDS.out.2.1]; exact hml
            have hAn : A < n := by omega
            have hAr : A < recs.length := by rw [HD.out.2]; exact hAn
            obtain ⟨b1, off1, a1, cc1, r1, rfl, hr1, hbl1, x1, hi1, _, hl1, hm1⟩ := (HD.out.1.below (bl_go (bl_go HE.out.2.1 HDS.out.2.2) HBQ.out)).at_ hAr
            obtain ⟨b2, off2, a2, cc2, r2, rfl, hr2, hbl2, x2, hi2, _, hl2, hm2⟩ := (HDS.out.1.below HBQ.out).at_ hmp
            have hrr := pos_at HED.out.1 HR.out.1 hr2
            rw [← HED.out.2.1, ← hA, hr1] at hrr
            cases hrr
            have HSB : Hid (∀ q, Calls Tryd.prog 13 #[.slice a1 r1.length cc1, .slice a2 r1.length cc2] (wq.drewN q) fun e w' => e = .returned (.bool true) ∧ ∃ q', w' = (wq.drewN q).drewN q') := fun q => sameBytes_true a1 a2 cc1 cc2 _ _ r1 (wq.drewN q) (hi1.below (below_drewN (Below.refl _ _) _)) (hi2.below (below_drewN (Below.refl _ _) _)) (by omega) rfl rfl
            have q1 : (m : Int) < (pn : Int) := by omega
            have q2 : (A : Int) < (n : Int) := by omega
            have q3 : decide ((n : Int) ≤ (A : Int)) = false := decide_eq_false (by omega)
            have HAM : Hid (A = P + m) := hA
            obtain ⟨L, hL⟩ : ∃ L, r1.length = L := ⟨_, rfl⟩
            rw [hL] at x1 x2 HSB
            clear hmp hAr hr1 hr2 hi1 hi2 hl1 hl2 hm1 hm2 hL hA
            go_wp2
            go_quiet ((go_at_call 13; exact Calls.quiet_of (HSB.out _)))
            go_wp2
            go_roundw
            case rel => exact ⟨m + 1, A + 1, by omega, by go_num, by have := HAM.out; omega, by go_num, below_drewN HBQ.out _⟩
            case measure => simp [intOf]; omega
          · obtain rfl : m = pn := by omega
            go_wp2
            go_roundw
            case rel => exact ⟨k + 1, A, by omega, by go_num, by rw [pos_step HED.out.1, ← HED.out.2.1, ← HDS.out.2.1]; exact hA, rfl, bl_go HDS.out.2.2 HBQ.out⟩
            case measure => simp [intOf]; omega
      · have hpe := pos_end HR.out.1 (k := k) (by rw [← HE.out.2.2]; omega)
        rw [HD.out.2] at hpe
        have HPE : Hid (pos es k ≤ n) := hpe
        rw [← hP] at hpe
        have q1 : (P : Int) ≤ (n : Int) := by omega
        have q2 : ¬ (k : Int) < (sn : Int) := by omega
        go_wp2
        go_ret
        refine ⟨?_, bl_go HE.out.2.1 HBR.out⟩
        have hq : decide (pos es k ≤ n) = true := decide_eq_true HPE.out
        show Ending.returned (.bool (decide (pos es k ≤ n))) = _
        rw [hq]
end Mnf
end Go.Proofs.YtffgngekhdceaaaDoor
