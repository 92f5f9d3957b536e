import Derived.Test.YtjnmklbhhlfhcaaGreatDoorQr4
import Derived.Test.YtjnmklbhhlfhcaaGreatDoorQb9
namespace Go.Proofs.YtjnmklbhhlfhcaaGreatDoor
namespace Qb
open Go.RowKit CMath Byt Laws Irw Crw Cod
set_option linter.unusedVariables false
set_option linter.unusedSimpArgs false
set_option maxRecDepth 20000

set_option maxHeartbeats 4000000 in
theorem refBody_0 (a : Option Addr) (cap n : Nat) (l : List En) (w : World) (R0 : Int) (hl : Erw.IsE w a l) (hn : n = l.length) (hm : n ≤ 100000) (hok : ∀ e ∈ l, Ok e ∧ 0 ≤ e.2.1) (hR : R0 < 1) (hR2 : -9223372036854775808 ≤ R0) :
    Calls Tryz.prog 27 #[.slice a n cap, .int .i64 R0] w fun e w' => BodyIs w 1 l e w' := by
  obtain ⟨i0, hi0, hz0, hz1, hz2⟩ := info_parts infoI
  have HL : Hid (Erw.IsE w a l) := hl
  have HN : Hid (n = l.length) := hn
  have HOK : Hid (∀ e ∈ l, Ok e ∧ 0 ≤ e.2.1) := hok
  have hm0 : ¬ (1 : Int) = 0 := by omega
  clear hl hn hok
  go_enter Tryz.func27, Tryz.ntmps27
  go_wp2
  go_loopw [6, 7, 8] (fun v6 v7 i wZ => ∃ (k : Nat) (T : Nat → Nat) (ps : List Nat), k ≤ n ∧ i = .int .i64 (k : Int) ∧ Hid (RS w T wZ v6 v7 (pushes 1 st0 (l.take k)).b ps ∧ placeB ps = (pushes 1 st0 (l.take k)).p ∧ (∀ x ∈ ps, x ≤ (pushes 1 st0 (l.take k)).b.length) ∧ ps.length ≤ k)) (fun _ _ i _ => n - (intOf i).toNat)
  case atStart => exact ⟨0, fun _ => 0, [], Nat.zero_le _, rfl, ⟨OwnB.empty _ _ _, OwnL.nil _ _ _, Goes.refl _ _ _, fun _ _ => rfl⟩, rfl, by simp, by simp⟩
  case round =>
    obtain ⟨kk, T, ps, hk, rfl, HS⟩ := hrel
    rename World => wq
    by_cases hlt : kk < n
    · have q1 : (kk : Int) < (n : Int) := by omega
      have hkl : kk < l.length := by rw [← HN.out]; exact hlt
      obtain ⟨b, off, rfl, hrow⟩ := (HL.out.below HS.out.1.below0) (by rintro rfl; simp at hkl)
      obtain ⟨k, si, d, x, hx⟩ : ∃ k si d x, l[kk]? = some (k, si, d, x) := ⟨_, _, _, _, List.getElem?_eq_getElem hkl⟩
      obtain ⟨c0, c1, c2, c3⟩ := hrow.2 kk _ hx
      have hoe := HOK.out _ (List.mem_of_getElem? hx)
      obtain ⟨s, hs0⟩ := Int.eq_ofNat_of_zero_le hoe.2
      dsimp only at c0 c1 c2 c3 hs0
      subst hs0
      have hk64 : k.size ≤ 64 := hoe.1.k2
      have hs56 : s ≤ 72057594037927935 := by have := hoe.1.q; exact Int.ofNat_le.1 this
      have HX0 : Hid (l[kk]? = some (k, (s : Int), d, x) ∧ Ok (k, (s : Int), d, x)) := ⟨hx, hoe.1⟩
      have hOL := pushes_len 1 (l.take kk) (fun e he => HOK.out e (List.mem_of_mem_take he))
      rw [List.length_take] at hOL
      have hO2 : (pushes 1 st0 (l.take kk)).b.length ≤ 70000000 := by omega
      have HPS : Hid (placeB ps = (pushes 1 st0 (l.take kk)).p ∧ (∀ x ∈ ps, x ≤ (pushes 1 st0 (l.take kk)).b.length) ∧ ps.length ≤ kk) := HS.out.2
      have hpsk : ps.length ≤ kk := HS.out.2.2.2
      have HRS := hid HS.out.1
      have hmod : Int.tmod (kk : Int) 1 = ((kk % 1 : Nat) : Int) := by rw [Int.tmod_eq_emod_of_nonneg (by omega)]; rfl
      have HROW := hid hrow
      clear HS hx hoe hOL hrow
      obtain ⟨a6, c6, e6, _⟩ := HRS.out.own.form
      obtain ⟨a7, c7, e7, _⟩ := HRS.out.pl.form
      subst e6
      subst e7
      obtain ⟨PL, hPL⟩ : ∃ PL, PL = (ints ps).length := ⟨_, rfl⟩
      obtain ⟨OL, hOLe⟩ : ∃ OL, OL = (pushes 1 st0 (l.take kk)).b.length := ⟨_, rfl⟩
      have HPL : Hid (PL = (ints ps).length ∧ OL = (pushes 1 st0 (l.take kk)).b.length) := ⟨hPL, hOLe⟩
      have hOLb : OL ≤ 70000000 := by omega
      have HX1 : Hid (RX w T (wq.alloc (.cells #[.string k, .int .u64 (s : Int), .bool d, .string x] 54)) (.slice a6 OL c6) (.slice a7 PL c7) (pushes 1 st0 (l.take kk)).b ps wq.heap.size #[.string k, .int .u64 (s : Int), .bool d, .string x]) := by rw [hPL, hOLe]; exact HRS.out.box _ _
      rw [← hPL, ← hOLe]
      clear hPL hOLe HRS
      cases d with
      | true =>
        have hz : kk % 1 = 0 := Nat.mod_one kk
        · have hzz : ((kk : Int) % (1 : Int) == 0) = true := by rw [beq_iff_eq]; omega
          obtain ⟨NSH, hNSH⟩ : ∃ NSH, NSH = 0 := ⟨_, rfl⟩
          have HNS : Hid (NSH = 0) := hNSH
          have hNSk : NSH ≤ k.size := by omega
          clear hNSH
          go_wp2_with (at_builtin; go_loud (refine wpList_appL _ (by rfl) (.tmp 29) (.tmp 32) 25 (by rfl) i0 Tryz.underlying25 hi0 hz0 hz1 hz2 2 T (.slice a7 PL c7) (ints ps) (by rfl) (HX1.out.rs.pl.below ((Below.refl _ _).alloc (Nat.le_refl _) _)) (some ⟨wq.heap.size + 1, 0, none⟩) 1 1 [(OL : Int)] (by rfl) (by rfl) (by simp) (isI_at (by simp)) (by rw [ints_len]; simp; omega) ?_; intro a8 c8 T8 w8 ho8 hg8 hat8; have HX : Hid (RX w T8 w8 (.slice a6 OL c6) (.slice a8 ((ints ps).length + 1) c8) (pushes 1 st0 (l.take kk)).b (ps ++ [OL]) wq.heap.size #[.string k, .int .u64 (s : Int), .bool true, .string x]) := (HX1.out.below ((Below.refl _ _).alloc (Nat.le_refl _) _)).app2 (ints_snoc ho8) hg8; have b80 : w8.cell? ⟨wq.heap.size, 0, none⟩ = some (.string k) := HX.out.cell 0; have b81 : w8.cell? ⟨wq.heap.size, 1, none⟩ = some (.int .u64 (s : Int)) := HX.out.cell 1; have b82 : w8.cell? ⟨wq.heap.size, 2, none⟩ = some (.bool true) := HX.out.cell 2; clear ho8 hg8 hat8 HX1))
          rw [← HPL.out.1] at HX
          have nA1 := num_le10 (show NSH < 18446744073709551616 by omega)
          have nA2 := num_le10 (show k.size - NSH < 18446744073709551616 by omega)
          have nA3 := num_le10 (show 2 * s + 1 < 18446744073709551616 by omega)
          refine (number_z (NSH) _ (by have h9 := HNS.out; omega) _ (by omega)).mono ?_
          rintro e wA1 ⟨gA1, cA1, rfl, hiA1, hbA1⟩
          have HA1 : Hid (RX w T8 wA1 _ _ ((pushes 1 st0 (l.take kk)).b) (ps ++ [OL]) wq.heap.size #[.string k, .int .u64 (s : Int), .bool true, .string x] ∧ IsB wA1 (some ⟨gA1, 0, none⟩) (num (NSH))) := ⟨HX.out.below hbA1, hiA1⟩
          clear hiA1 hbA1
          go_wp2_with (at_builtin; go_loud (refine wpList_app8n (OL + (num (NSH)).length) _ (by rfl) (.tmp 50) (.tmp 53) (by rfl) 1 T8 _ ((pushes 1 st0 (l.take kk)).b) (by rfl) HA1.out.1.rs.own (some ⟨gA1, 0, none⟩) _ cA1 (num (NSH)) (by rfl) rfl (by simp) HA1.out.2 (by have h9 := HPL.out.2; first | omega | (simp only [List.length_append]; omega)) (by have h9 := HPL.out.2; first | omega | (simp only [List.length_append]; omega)) ?_; intro a1 c1 T1 w1 ho1 hg1; have HP1 : Hid (RX w T1 w1 (.slice a1 (OL + (num (NSH)).length) c1) (.slice a8 (PL + 1) c8) ((pushes 1 st0 (l.take kk)).b ++ num (NSH)) (ps ++ [OL]) wq.heap.size #[.string k, .int .u64 (s : Int), .bool true, .string x]) := HA1.out.1.app ho1 hg1; have b10 : w1.cell? ⟨wq.heap.size, 0, none⟩ = some (.string k) := HP1.out.cell 0; have b12 : w1.cell? ⟨wq.heap.size, 2, none⟩ = some (.bool true) := HP1.out.cell 2; have b13 : w1.cell? ⟨wq.heap.size, 3, none⟩ = some (.string x) := HP1.out.cell 3; clear ho1 hg1 HA1))
          clear HX
          refine (number_z (k.size - NSH) _ (by have h9 := HNS.out; omega) _ (by omega)).mono ?_
          rintro e wA2 ⟨gA2, cA2, rfl, hiA2, hbA2⟩
          have HA2 : Hid (RX w T1 wA2 _ _ ((pushes 1 st0 (l.take kk)).b ++ num (NSH)) (ps ++ [OL]) wq.heap.size #[.string k, .int .u64 (s : Int), .bool true, .string x] ∧ IsB wA2 (some ⟨gA2, 0, none⟩) (num (k.size - NSH))) := ⟨HP1.out.below hbA2, hiA2⟩
          clear hiA2 hbA2
          go_wp2_with (at_builtin; go_loud (refine wpList_app8n (OL + (num (NSH)).length + (num (k.size - NSH)).length) _ (by rfl) (.tmp 55) (.tmp 62) (by rfl) 1 T1 _ ((pushes 1 st0 (l.take kk)).b ++ num (NSH)) (by rfl) HA2.out.1.rs.own (some ⟨gA2, 0, none⟩) _ cA2 (num (k.size - NSH)) (by rfl) rfl (by simp) HA2.out.2 (by have h9 := HPL.out.2; first | omega | (simp only [List.length_append]; omega)) (by have h9 := HPL.out.2; first | omega | (simp only [List.length_append]; omega)) ?_; intro a2 c2 T2 w2 ho2 hg2; have HP2 : Hid (RX w T2 w2 (.slice a2 (OL + (num (NSH)).length + (num (k.size - NSH)).length) c2) (.slice a8 (PL + 1) c8) ((pushes 1 st0 (l.take kk)).b ++ num (NSH) ++ num (k.size - NSH)) (ps ++ [OL]) wq.heap.size #[.string k, .int .u64 (s : Int), .bool true, .string x]) := HA2.out.1.app ho2 hg2; have b20 : w2.cell? ⟨wq.heap.size, 0, none⟩ = some (.string k) := HP2.out.cell 0; have b22 : w2.cell? ⟨wq.heap.size, 2, none⟩ = some (.bool true) := HP2.out.cell 2; have b23 : w2.cell? ⟨wq.heap.size, 3, none⟩ = some (.string x) := HP2.out.cell 3; clear ho2 hg2 HA2))
          clear HP1 b10 b12 b13
          refine (number_z (2 * s + 1) _ (by omega) _ (by omega)).mono ?_
          rintro e wA3 ⟨gA3, cA3, rfl, hiA3, hbA3⟩
          have HA3 : Hid (RX w T2 wA3 _ _ ((pushes 1 st0 (l.take kk)).b ++ num (NSH) ++ num (k.size - NSH)) (ps ++ [OL]) wq.heap.size #[.string k, .int .u64 (s : Int), .bool true, .string x] ∧ IsB wA3 (some ⟨gA3, 0, none⟩) (num (2 * s + 1))) := ⟨HP2.out.below hbA3, hiA3⟩
          clear hiA3 hbA3
          go_wp2_with (at_builtin; go_loud (refine wpList_app8n (OL + (num (NSH)).length + (num (k.size - NSH)).length + (num (2 * s + 1)).length) _ (by rfl) (.tmp 64) (.tmp 66) (by rfl) 1 T2 _ ((pushes 1 st0 (l.take kk)).b ++ num (NSH) ++ num (k.size - NSH)) (by rfl) HA3.out.1.rs.own (some ⟨gA3, 0, none⟩) _ cA3 (num (2 * s + 1)) (by rfl) rfl (by simp) HA3.out.2 (by have h9 := HPL.out.2; first | omega | (simp only [List.length_append]; omega)) (by have h9 := HPL.out.2; first | omega | (simp only [List.length_append]; omega)) ?_; intro a3 c3 T3 w3 ho3 hg3; have HP3 : Hid (RX w T3 w3 (.slice a3 (OL + (num (NSH)).length + (num (k.size - NSH)).length + (num (2 * s + 1)).length) c3) (.slice a8 (PL + 1) c8) ((pushes 1 st0 (l.take kk)).b ++ num (NSH) ++ num (k.size - NSH) ++ num (2 * s + 1)) (ps ++ [OL]) wq.heap.size #[.string k, .int .u64 (s : Int), .bool true, .string x]) := HA3.out.1.app ho3 hg3; have b30 : w3.cell? ⟨wq.heap.size, 0, none⟩ = some (.string k) := HP3.out.cell 0; have b32 : w3.cell? ⟨wq.heap.size, 2, none⟩ = some (.bool true) := HP3.out.cell 2; have b33 : w3.cell? ⟨wq.heap.size, 3, none⟩ = some (.string x) := HP3.out.cell 3; clear ho3 hg3 HA3))
          clear HP2 b20 b22 b23
          have hNk : NSH ≤ k.size := by omega
          have HLN : Hid (((pushes 1 st0 (l.take kk)).b ++ num (NSH) ++ num (k.size - NSH) ++ num (2 * s + 1)).length = OL + (num (NSH)).length + (num (k.size - NSH)).length + (num (2 * s + 1)).length) := by show _ = _; have h9 := HPL.out.2; simp only [List.length_append]; omega
          obtain ⟨LB, hLB⟩ : ∃ LB, LB = (pushes 1 st0 (l.take kk)).b ++ num (NSH) ++ num (k.size - NSH) ++ num (2 * s + 1) := ⟨_, rfl⟩
          obtain ⟨NB, hNB⟩ : ∃ NB, NB = OL + (num (NSH)).length + (num (k.size - NSH)).length + (num (2 * s + 1)).length := ⟨_, rfl⟩
          have HLB : Hid (LB = (pushes 1 st0 (l.take kk)).b ++ num (NSH) ++ num (k.size - NSH) ++ num (2 * s + 1) ∧ NB = OL + (num (NSH)).length + (num (k.size - NSH)).length + (num (2 * s + 1)).length ∧ LB.length = NB) := ⟨hLB, hNB, by rw [hLB, hNB]; exact HLN.out⟩
          have hNBb : NB ≤ 80000000 := by rw [hNB]; omega
          rw [← hLB, ← hNB] at HP3
          rw [← hNB]
          clear hLB hNB HLN b30 b32 b33
          go_loopw [6, 12] (fun v6 i wZ2 => ∃ (j : Nat) (T' : Nat → Nat) (a' : Option Addr) (c' NJ : Nat), NSH ≤ j ∧ j ≤ k.size ∧ i = .int .i64 (j : Int) ∧ v6 = .slice a' NJ c' ∧ NJ ≤ 80000100 ∧ Hid (NJ = NB + (j - NSH) ∧ RX w T' wZ2 (.slice a' NJ c') (.slice a8 (PL + 1) c8) (LB ++ ((strB k).take j).drop NSH) (ps ++ [OL]) wq.heap.size #[.string k, .int .u64 (s : Int), .bool true, .string x])) (fun _ i _ => k.size - (intOf i).toNat)
          case atStart =>
            refine ⟨NSH, T3, a3, c3, NB, Nat.le_refl _, hNk, by first | rfl | (rw [HNS.out]; rfl), rfl, by omega, by omega, ?_⟩
            have e9 : ((strB k).take NSH).drop NSH = [] := List.drop_eq_nil_of_le (by rw [List.length_take]; omega)
            rw [e9, List.append_nil]
            exact HP3.out
          case round =>
            obtain ⟨j, T', a', c', NJ, hj1, hj2, rfl, rfl, hNJ, HJ⟩ := hrel
            have y0 : wr.cell? ⟨wq.heap.size, 0, none⟩ = some (.string k) := HJ.out.2.cell 0
            have y2 : wr.cell? ⟨wq.heap.size, 2, none⟩ = some (.bool true) := HJ.out.2.cell 2
            have y3 : wr.cell? ⟨wq.heap.size, 3, none⟩ = some (.string x) := HJ.out.2.cell 3
            by_cases hjl : j < k.size
            · have qj : (j : Int) < (k.size : Int) := by omega
              have HGJ : Hid ((strB k)[j]? = some k[j].toNat) := strB_get hjl
              have HTD : Hid (((strB k).take (j + 1)).drop NSH = ((strB k).take j).drop NSH ++ [k[j].toNat]) := take_drop_succ hj1 HGJ.out
              have hby : k[j].toNat < 256 := k[j].toNat_lt
              have HLJ : Hid ((LB ++ ((strB k).take j).drop NSH).length = NJ) := by show _ = _; rw [List.length_append, HLB.out.2.2, List.length_drop, List.length_take, strB_length, HJ.out.1]; omega
              go_wp2_with (at_builtin; go_loud (refine wpList_app8n (NJ + 1) _ (by rfl) (.tmp 76) (.tmp 81) (by rfl) 1 T' _ (LB ++ ((strB k).take j).drop NSH) (by rfl) (HJ.out.2.rs.own.below ((Below.refl _ _).alloc (Nat.le_refl _) _)) (some ⟨wr.heap.size, 0, none⟩) 1 1 [k[j].toNat] (by rfl) rfl (by simp) (isB_new rfl hby) (by rw [HLJ.out]; simp; omega) (by rw [HLJ.out]; rfl) ?_; intro aJ cJ TJ wJ hoJ hgJ; have HJ2 : Hid (RX w TJ wJ (.slice aJ (NJ + 1) cJ) (.slice a8 (PL + 1) c8) (LB ++ ((strB k).take (j + 1)).drop NSH) (ps ++ [OL]) wq.heap.size #[.string k, .int .u64 (s : Int), .bool true, .string x]) := (by rw [HTD.out, ← List.append_assoc]; exact (HJ.out.2.below ((Below.refl _ _).alloc (Nat.le_refl _) _)).app hoJ hgJ); clear hoJ hgJ))
              go_roundw
              case rel => exact ⟨j + 1, TJ, aJ, cJ, NJ + 1, by omega, by omega, by go_num, rfl, by have h9 := HJ.out.1; have h8 := HLB.out.2.2; omega, by have h9 := HJ.out.1; omega, HJ2.out⟩
              case measure => simp [intOf]; omega
            · have hjk : j = k.size := by omega
              subst hjk
              go_wp2
              go_roundw
              case rel =>
                have hf := body_z (o := (LB ++ ((strB k).take k.size).drop NSH)) HX0.out.1 hz HPL.out.2 HPS.out (by rw [← ent_eq _ k s true x 0 (2 * s + 1) (by unfold tag; simp), HLB.out.1, HNS.out]; simp) HJ.out.2.rs
                rw [HPL.out.1] at hf
                exact ⟨kk + 1, T', (ps ++ [OL]), by omega, by go_num, hf⟩
              case measure => simp [intOf]; omega

      | false =>
        have hz : kk % 1 = 0 := Nat.mod_one kk
        · have hzz : ((kk : Int) % (1 : Int) == 0) = true := by rw [beq_iff_eq]; omega
          obtain ⟨NSH, hNSH⟩ : ∃ NSH, NSH = 0 := ⟨_, rfl⟩
          have HNS : Hid (NSH = 0) := hNSH
          have hNSk : NSH ≤ k.size := by omega
          clear hNSH
          go_wp2_with (at_builtin; go_loud (refine wpList_appL _ (by rfl) (.tmp 29) (.tmp 32) 25 (by rfl) i0 Tryz.underlying25 hi0 hz0 hz1 hz2 2 T (.slice a7 PL c7) (ints ps) (by rfl) (HX1.out.rs.pl.below ((Below.refl _ _).alloc (Nat.le_refl _) _)) (some ⟨wq.heap.size + 1, 0, none⟩) 1 1 [(OL : Int)] (by rfl) (by rfl) (by simp) (isI_at (by simp)) (by rw [ints_len]; simp; omega) ?_; intro a8 c8 T8 w8 ho8 hg8 hat8; have HX : Hid (RX w T8 w8 (.slice a6 OL c6) (.slice a8 ((ints ps).length + 1) c8) (pushes 1 st0 (l.take kk)).b (ps ++ [OL]) wq.heap.size #[.string k, .int .u64 (s : Int), .bool false, .string x]) := (HX1.out.below ((Below.refl _ _).alloc (Nat.le_refl _) _)).app2 (ints_snoc ho8) hg8; have b80 : w8.cell? ⟨wq.heap.size, 0, none⟩ = some (.string k) := HX.out.cell 0; have b81 : w8.cell? ⟨wq.heap.size, 1, none⟩ = some (.int .u64 (s : Int)) := HX.out.cell 1; have b82 : w8.cell? ⟨wq.heap.size, 2, none⟩ = some (.bool false) := HX.out.cell 2; clear ho8 hg8 hat8 HX1))
          rw [← HPL.out.1] at HX
          have nA1 := num_le10 (show NSH < 18446744073709551616 by omega)
          have nA2 := num_le10 (show k.size - NSH < 18446744073709551616 by omega)
          have nA3 := num_le10 (show 2 * s < 18446744073709551616 by omega)
          refine (number_z (NSH) _ (by have h9 := HNS.out; omega) _ (by omega)).mono ?_
          rintro e wA1 ⟨gA1, cA1, rfl, hiA1, hbA1⟩
          have HA1 : Hid (RX w T8 wA1 _ _ ((pushes 1 st0 (l.take kk)).b) (ps ++ [OL]) wq.heap.size #[.string k, .int .u64 (s : Int), .bool false, .string x] ∧ IsB wA1 (some ⟨gA1, 0, none⟩) (num (NSH))) := ⟨HX.out.below hbA1, hiA1⟩
          clear hiA1 hbA1
          go_wp2_with (at_builtin; go_loud (refine wpList_app8n (OL + (num (NSH)).length) _ (by rfl) (.tmp 50) (.tmp 53) (by rfl) 1 T8 _ ((pushes 1 st0 (l.take kk)).b) (by rfl) HA1.out.1.rs.own (some ⟨gA1, 0, none⟩) _ cA1 (num (NSH)) (by rfl) rfl (by simp) HA1.out.2 (by have h9 := HPL.out.2; first | omega | (simp only [List.length_append]; omega)) (by have h9 := HPL.out.2; first | omega | (simp only [List.length_append]; omega)) ?_; intro a1 c1 T1 w1 ho1 hg1; have HP1 : Hid (RX w T1 w1 (.slice a1 (OL + (num (NSH)).length) c1) (.slice a8 (PL + 1) c8) ((pushes 1 st0 (l.take kk)).b ++ num (NSH)) (ps ++ [OL]) wq.heap.size #[.string k, .int .u64 (s : Int), .bool false, .string x]) := HA1.out.1.app ho1 hg1; have b10 : w1.cell? ⟨wq.heap.size, 0, none⟩ = some (.string k) := HP1.out.cell 0; have b12 : w1.cell? ⟨wq.heap.size, 2, none⟩ = some (.bool false) := HP1.out.cell 2; have b13 : w1.cell? ⟨wq.heap.size, 3, none⟩ = some (.string x) := HP1.out.cell 3; clear ho1 hg1 HA1))
          clear HX
          refine (number_z (k.size - NSH) _ (by have h9 := HNS.out; omega) _ (by omega)).mono ?_
          rintro e wA2 ⟨gA2, cA2, rfl, hiA2, hbA2⟩
          have HA2 : Hid (RX w T1 wA2 _ _ ((pushes 1 st0 (l.take kk)).b ++ num (NSH)) (ps ++ [OL]) wq.heap.size #[.string k, .int .u64 (s : Int), .bool false, .string x] ∧ IsB wA2 (some ⟨gA2, 0, none⟩) (num (k.size - NSH))) := ⟨HP1.out.below hbA2, hiA2⟩
          clear hiA2 hbA2
          go_wp2_with (at_builtin; go_loud (refine wpList_app8n (OL + (num (NSH)).length + (num (k.size - NSH)).length) _ (by rfl) (.tmp 55) (.tmp 62) (by rfl) 1 T1 _ ((pushes 1 st0 (l.take kk)).b ++ num (NSH)) (by rfl) HA2.out.1.rs.own (some ⟨gA2, 0, none⟩) _ cA2 (num (k.size - NSH)) (by rfl) rfl (by simp) HA2.out.2 (by have h9 := HPL.out.2; first | omega | (simp only [List.length_append]; omega)) (by have h9 := HPL.out.2; first | omega | (simp only [List.length_append]; omega)) ?_; intro a2 c2 T2 w2 ho2 hg2; have HP2 : Hid (RX w T2 w2 (.slice a2 (OL + (num (NSH)).length + (num (k.size - NSH)).length) c2) (.slice a8 (PL + 1) c8) ((pushes 1 st0 (l.take kk)).b ++ num (NSH) ++ num (k.size - NSH)) (ps ++ [OL]) wq.heap.size #[.string k, .int .u64 (s : Int), .bool false, .string x]) := HA2.out.1.app ho2 hg2; have b20 : w2.cell? ⟨wq.heap.size, 0, none⟩ = some (.string k) := HP2.out.cell 0; have b22 : w2.cell? ⟨wq.heap.size, 2, none⟩ = some (.bool false) := HP2.out.cell 2; have b23 : w2.cell? ⟨wq.heap.size, 3, none⟩ = some (.string x) := HP2.out.cell 3; clear ho2 hg2 HA2))
          clear HP1 b10 b12 b13
          refine (number_z (2 * s) _ (by omega) _ (by omega)).mono ?_
          rintro e wA3 ⟨gA3, cA3, rfl, hiA3, hbA3⟩
          have HA3 : Hid (RX w T2 wA3 _ _ ((pushes 1 st0 (l.take kk)).b ++ num (NSH) ++ num (k.size - NSH)) (ps ++ [OL]) wq.heap.size #[.string k, .int .u64 (s : Int), .bool false, .string x] ∧ IsB wA3 (some ⟨gA3, 0, none⟩) (num (2 * s))) := ⟨HP2.out.below hbA3, hiA3⟩
          clear hiA3 hbA3
          go_wp2_with (at_builtin; go_loud (refine wpList_app8n (OL + (num (NSH)).length + (num (k.size - NSH)).length + (num (2 * s)).length) _ (by rfl) (.tmp 64) (.tmp 66) (by rfl) 1 T2 _ ((pushes 1 st0 (l.take kk)).b ++ num (NSH) ++ num (k.size - NSH)) (by rfl) HA3.out.1.rs.own (some ⟨gA3, 0, none⟩) _ cA3 (num (2 * s)) (by rfl) rfl (by simp) HA3.out.2 (by have h9 := HPL.out.2; first | omega | (simp only [List.length_append]; omega)) (by have h9 := HPL.out.2; first | omega | (simp only [List.length_append]; omega)) ?_; intro a3 c3 T3 w3 ho3 hg3; have HP3 : Hid (RX w T3 w3 (.slice a3 (OL + (num (NSH)).length + (num (k.size - NSH)).length + (num (2 * s)).length) c3) (.slice a8 (PL + 1) c8) ((pushes 1 st0 (l.take kk)).b ++ num (NSH) ++ num (k.size - NSH) ++ num (2 * s)) (ps ++ [OL]) wq.heap.size #[.string k, .int .u64 (s : Int), .bool false, .string x]) := HA3.out.1.app ho3 hg3; have b30 : w3.cell? ⟨wq.heap.size, 0, none⟩ = some (.string k) := HP3.out.cell 0; have b32 : w3.cell? ⟨wq.heap.size, 2, none⟩ = some (.bool false) := HP3.out.cell 2; have b33 : w3.cell? ⟨wq.heap.size, 3, none⟩ = some (.string x) := HP3.out.cell 3; clear ho3 hg3 HA3))
          clear HP2 b20 b22 b23
          have hNk : NSH ≤ k.size := by omega
          have HLN : Hid (((pushes 1 st0 (l.take kk)).b ++ num (NSH) ++ num (k.size - NSH) ++ num (2 * s)).length = OL + (num (NSH)).length + (num (k.size - NSH)).length + (num (2 * s)).length) := by show _ = _; have h9 := HPL.out.2; simp only [List.length_append]; omega
          obtain ⟨LB, hLB⟩ : ∃ LB, LB = (pushes 1 st0 (l.take kk)).b ++ num (NSH) ++ num (k.size - NSH) ++ num (2 * s) := ⟨_, rfl⟩
          obtain ⟨NB, hNB⟩ : ∃ NB, NB = OL + (num (NSH)).length + (num (k.size - NSH)).length + (num (2 * s)).length := ⟨_, rfl⟩
          have HLB : Hid (LB = (pushes 1 st0 (l.take kk)).b ++ num (NSH) ++ num (k.size - NSH) ++ num (2 * s) ∧ NB = OL + (num (NSH)).length + (num (k.size - NSH)).length + (num (2 * s)).length ∧ LB.length = NB) := ⟨hLB, hNB, by rw [hLB, hNB]; exact HLN.out⟩
          have hNBb : NB ≤ 80000000 := by rw [hNB]; omega
          rw [← hLB, ← hNB] at HP3
          rw [← hNB]
          clear hLB hNB HLN b30 b32 b33
          go_loopw [6, 12] (fun v6 i wZ2 => ∃ (j : Nat) (T' : Nat → Nat) (a' : Option Addr) (c' NJ : Nat), NSH ≤ j ∧ j ≤ k.size ∧ i = .int .i64 (j : Int) ∧ v6 = .slice a' NJ c' ∧ NJ ≤ 80000100 ∧ Hid (NJ = NB + (j - NSH) ∧ RX w T' wZ2 (.slice a' NJ c') (.slice a8 (PL + 1) c8) (LB ++ ((strB k).take j).drop NSH) (ps ++ [OL]) wq.heap.size #[.string k, .int .u64 (s : Int), .bool false, .string x])) (fun _ i _ => k.size - (intOf i).toNat)
          case atStart =>
            refine ⟨NSH, T3, a3, c3, NB, Nat.le_refl _, hNk, by first | rfl | (rw [HNS.out]; rfl), rfl, by omega, by omega, ?_⟩
            have e9 : ((strB k).take NSH).drop NSH = [] := List.drop_eq_nil_of_le (by rw [List.length_take]; omega)
            rw [e9, List.append_nil]
            exact HP3.out
          case round =>
            obtain ⟨j, T', a', c', NJ, hj1, hj2, rfl, rfl, hNJ, HJ⟩ := hrel
            have y0 : wr.cell? ⟨wq.heap.size, 0, none⟩ = some (.string k) := HJ.out.2.cell 0
            have y2 : wr.cell? ⟨wq.heap.size, 2, none⟩ = some (.bool false) := HJ.out.2.cell 2
            have y3 : wr.cell? ⟨wq.heap.size, 3, none⟩ = some (.string x) := HJ.out.2.cell 3
            by_cases hjl : j < k.size
            · have qj : (j : Int) < (k.size : Int) := by omega
              have HGJ : Hid ((strB k)[j]? = some k[j].toNat) := strB_get hjl
              have HTD : Hid (((strB k).take (j + 1)).drop NSH = ((strB k).take j).drop NSH ++ [k[j].toNat]) := take_drop_succ hj1 HGJ.out
              have hby : k[j].toNat < 256 := k[j].toNat_lt
              have HLJ : Hid ((LB ++ ((strB k).take j).drop NSH).length = NJ) := by show _ = _; rw [List.length_append, HLB.out.2.2, List.length_drop, List.length_take, strB_length, HJ.out.1]; omega
              go_wp2_with (at_builtin; go_loud (refine wpList_app8n (NJ + 1) _ (by rfl) (.tmp 76) (.tmp 81) (by rfl) 1 T' _ (LB ++ ((strB k).take j).drop NSH) (by rfl) (HJ.out.2.rs.own.below ((Below.refl _ _).alloc (Nat.le_refl _) _)) (some ⟨wr.heap.size, 0, none⟩) 1 1 [k[j].toNat] (by rfl) rfl (by simp) (isB_new rfl hby) (by rw [HLJ.out]; simp; omega) (by rw [HLJ.out]; rfl) ?_; intro aJ cJ TJ wJ hoJ hgJ; have HJ2 : Hid (RX w TJ wJ (.slice aJ (NJ + 1) cJ) (.slice a8 (PL + 1) c8) (LB ++ ((strB k).take (j + 1)).drop NSH) (ps ++ [OL]) wq.heap.size #[.string k, .int .u64 (s : Int), .bool false, .string x]) := (by rw [HTD.out, ← List.append_assoc]; exact (HJ.out.2.below ((Below.refl _ _).alloc (Nat.le_refl _) _)).app hoJ hgJ); clear hoJ hgJ))
              go_roundw
              case rel => exact ⟨j + 1, TJ, aJ, cJ, NJ + 1, by omega, by omega, by go_num, rfl, by have h9 := HJ.out.1; have h8 := HLB.out.2.2; omega, by have h9 := HJ.out.1; omega, HJ2.out⟩
              case measure => simp [intOf]; omega
            · have hjk : j = k.size := by omega
              subst hjk
              go_wp2_with fail
              refine (words_nil x _ (by have h9 := HX0.out.2.v rfl; simp only at h9; omega)).mono ?_
              rintro e wW ⟨gW, cW, rfl, hiW, hbW⟩
              have HW : Hid (RX w T' wW (.slice a' NJ c') (.slice a8 (PL + 1) c8) (LB ++ ((strB k).take k.size).drop NSH) (ps ++ [OL]) wq.heap.size #[.string k, .int .u64 (s : Int), .bool false, .string x] ∧ IsB wW (some ⟨gW, 0, none⟩) (words (strB x))) := ⟨HJ.out.2.below hbW, hiW⟩
              clear hiW hbW
              have hwl : (words (strB x)).length ≤ 600 := by
                have h9 := HX0.out.2.v rfl
                simp only at h9
                have h8 := num_le10 (show (strB x).length < 18446744073709551616 by rw [strB_length]; omega)
                unfold words
                rw [List.length_append]
                rw [strB_length] at h8 ⊢
                omega
              have HLJ : Hid ((LB ++ ((strB k).take k.size).drop NSH).length = NJ) := by show _ = _; rw [List.length_append, HLB.out.2.2, List.length_drop, List.length_take, strB_length, HJ.out.1]; omega
              go_wp2_with (at_builtin; go_loud (refine wpList_app8n (NJ + (words (strB x)).length) _ (by rfl) (.tmp 86) (.tmp 89) (by rfl) 1 T' _ (LB ++ ((strB k).take k.size).drop NSH) (by rfl) HW.out.1.rs.own (some ⟨gW, 0, none⟩) _ cW (words (strB x)) (by rfl) rfl (by simp) HW.out.2 (by rw [HLJ.out]; omega) (by rw [HLJ.out]) ?_; intro aV cV TV wV hoV hgV; have HV : Hid (RX w TV wV (.slice aV (NJ + (words (strB x)).length) cV) (.slice a8 (PL + 1) c8) (LB ++ ((strB k).take k.size).drop NSH ++ words (strB x)) (ps ++ [OL]) wq.heap.size #[.string k, .int .u64 (s : Int), .bool false, .string x]) := HW.out.1.app hoV hgV; clear hoV hgV HW))
              go_roundw
              case rel =>
                have hf := body_z (o := (LB ++ ((strB k).take k.size).drop NSH ++ words (strB x))) HX0.out.1 hz HPL.out.2 HPS.out (by rw [← ent_eq _ k s false x 0 (2 * s) (by unfold tag; simp), HLB.out.1, HNS.out]; simp) HV.out.rs
                rw [HPL.out.1] at hf
                exact ⟨kk + 1, TV, (ps ++ [OL]), by omega, by go_num, hf⟩
              case measure => simp [intOf]; omega

    · have HF : Hid (l.take kk = l) := List.take_of_length_le (by rw [← HN.out]; omega)
      rw [HF.out] at HS
      obtain ⟨a6, c6, e6, _⟩ := HS.out.1.own.form
      obtain ⟨a7, c7, e7, _⟩ := HS.out.1.pl.form
      subst e6
      subst e7
      go_wp2
      go_ret2
      exact ⟨a6, _, c6, a7, _, c7, T, ps, rfl, HS.out.1, HS.out.2.1, HS.out.2.2.1⟩
end Qb
end Go.Proofs.YtjnmklbhhlfhcaaGreatDoor
namespace Go.Proofs.YtjnmklbhhlfhcaaGreatDoor
namespace Qb
open Go.RowKit CMath Byt Laws Irw Crw Cod
set_option linter.unusedVariables false
set_option linter.unusedSimpArgs false
set_option maxRecDepth 20000

theorem refBody_any (a : Option Addr) (cap n : Nat) (l : List En) (w : World) (r : Int) (hl : Erw.IsE w a l) (hn : n = l.length) (hm : n ≤ 100000) (hok : ∀ e ∈ l, Ok e ∧ 0 ≤ e.2.1) (hr : -9223372036854775808 ≤ r ∧ r ≤ 9223372036854775807) :
    Calls Tryz.prog 27 #[.slice a n cap, .int .i64 r] w fun e w' => BodyIs w (Rn r) l e w' := by
  by_cases h : r < 1
  · have : Rn r = 1 := by unfold Rn; omega
    rw [this]
    exact refBody_0 a cap n l w r hl hn hm hok h hr.1
  · have h1 := refBody_n a cap n l w r.toNat hl hn hm hok (by omega) (by omega)
    rw [Int.toNat_of_nonneg (by omega)] at h1
    have : Rn r = r.toNat := by unfold Rn; omega
    rw [this]
    exact h1
theorem RS.app {w0 : World} {T T' : Nat → Nat} {w w' : World} {v6 v7 v' : Value} {o o' ps : List Nat} (h : RS w0 T w v6 v7 o ps) (ho : OwnB 1 T' w' v' o') (hg : Goes (· = 1) T w T' w') : RS w0 T' w' v' v7 o' ps :=
  ⟨ho, h.pl.goes hg (by omega), h.go.trans (hg.mono fun x hx => .inl hx), h.hi.goes hg⟩
theorem placeB_len (ps : List Nat) : (placeB ps).length = 4 * ps.length := by
  induction ps with
  | nil => rfl
  | cons x t ih => simp only [placeB, List.map_cons, List.flatten_cons, List.length_append, List.length_cons] at ih ⊢; rw [ih, four_len]; omega
theorem placeB_take {ps : List Nat} {k x : Nat} (h : ps[k]? = some x) : placeB (ps.take (k + 1)) = placeB (ps.take k) ++ four x := by
  rw [List.take_add_one, h]
  exact placeB_snoc _ _
theorem own_lift {w : World} {T : Nat → Nat} {w' : World} {v : Value} {l : List Nat} (h : OwnB 1 T w' v l) (hg : Goes uB (fun _ => 0) w T w') (hl : 0 < l.length) : Byt.Own 5 w.heap.size w' v l :=
  own_from h hl (fun b hb => (hg.tag b hb (by unfold uB; omega)))
set_option maxHeartbeats 2000000 in
theorem refBytes_any (a : Option Addr) (cap n : Nat) (l : List En) (w : World) (r : Int) (hl : Erw.IsE w a l) (hn : n = l.length) (hm : n ≤ 100000) (hok : ∀ e ∈ l, Ok e ∧ 0 ≤ e.2.1) (hr : -9223372036854775808 ≤ r ∧ r ≤ 9223372036854775807) :
    Calls Tryz.prog 10 #[.slice a n cap, .int .i64 r] w fun e w' => ∃ v, e = .returned v ∧ Byt.Own 5 w.heap.size w' v (blk (pushes (Rn r) st0 l)) ∧ Below w.heap.size w w' := by
  have HB : Hid (Calls Tryz.prog 27 #[.slice a n cap, .int .i64 r] w fun e w' => BodyIs w (Rn r) l e w') := refBody_any a cap n l w r hl hn hm hok hr
  have hbl := pushes_len (Rn r) l hok
  have hpl := pushes_plen (Rn r) l st0
  have z1 : st0.p.length = 0 := rfl
  have hB : (pushes (Rn r) st0 l).b.length ≤ 70000000 := by omega
  have hP : (pushes (Rn r) st0 l).p.length ≤ 400000 := by omega
  clear hl hn hok hr hbl hpl z1
  have HB2 : Hid (Calls Tryz.prog 27 #[.slice a n cap, .int .i64 r] w fun e w' => ∃ a1 B c1 a2 P c2 T ps, e = .returned (.tuple #[.slice a1 B c1, .slice a2 P c2]) ∧ RS w T w' (.slice a1 B c1) (.slice a2 P c2) (pushes (Rn r) st0 l).b ps ∧ placeB ps = (pushes (Rn r) st0 l).p ∧ (∀ x ∈ ps, x ≤ (pushes (Rn r) st0 l).b.length)) := HB.out
  clear HB
  generalize pushes (Rn r) st0 l = S at *
  go_enter Tryz.func10, Tryz.ntmps10
  go_wp2_with (go_at_call 27; fail)
  refine HB2.out.mono ?_
  rintro e w1 ⟨a1, B, c1, a2, P, c2, T, ps, rfl, hrs, hps, hle⟩
  have HRS : Hid (RS w T w1 (.slice a1 B c1) (.slice a2 P c2) S.b ps) := hrs
  have HPS : Hid (placeB ps = S.p ∧ (∀ x ∈ ps, x ≤ S.b.length)) := ⟨hps, hle⟩
  obtain ⟨a1', c1', e1, _⟩ := hrs.own.form
  obtain ⟨a2', c2', e2, _⟩ := hrs.pl.form
  simp only [Value.slice.injEq] at e1 e2
  have hBB : B = S.b.length := e1.2.1
  have hPP : P = ps.length := by rw [e2.2.1, ints_len]
  have h4 : 4 * ps.length = S.p.length := by rw [← hps, placeB_len]
  have HBP : Hid (B = S.b.length ∧ P = ps.length ∧ 4 * P = S.p.length) := ⟨hBB, hPP, by omega⟩
  have hBm : B ≤ 70000000 := by omega
  have hPm : P ≤ 100000 := by omega
  clear hrs hps hle e1 e2 hBB hPP h4
  dsimp only
  go_wp2
  go_loopw [5, 7] (fun v5 i wr => ∃ (k : Nat) (aa : Option Addr) (N cc : Nat), k ≤ P ∧ N ≤ 80000000 ∧ v5 = .slice aa N cc ∧ i = .int .i64 (k : Int) ∧ Hid (N = B + 4 * k ∧ ∃ T', RS w T' wr (.slice aa N cc) (.slice a2 P c2) (S.b ++ placeB (ps.take k)) ps)) (fun _ i _ => P - (intOf i).toNat)
  case atStart => exact ⟨0, a1, B, c1, Nat.zero_le _, by omega, rfl, rfl, by omega, T, by simpa [placeB] using HRS.out⟩
  case round =>
    obtain ⟨k, aa, N, cc, hk, hNm, rfl, rfl, HK⟩ := hrel
    rename World => wr
    obtain ⟨hN, T', hst⟩ := HK.out
    have HST : Hid (RS w T' wr (.slice aa N cc) (.slice a2 P c2) (S.b ++ placeB (ps.take k)) ps) := hst
    have HNN : Hid (N = B + 4 * k) := hN
    have HLN : Hid ((S.b ++ placeB (ps.take k)).length = N) := by
      obtain ⟨_, _, e3, _⟩ := hst.own.form
      simp only [Value.slice.injEq] at e3
      exact e3.2.1.symm
    by_cases hlt : k < P
    · have q1 : (k : Int) < (P : Int) := by omega
      have hkl : k < ps.length := by have := HBP.out.2.1; omega
      have hii := hst.pl.isI.1
      obtain ⟨b2, o2, rfl, hrow⟩ := hii.at_ (by rw [ints_len]; omega)
      obtain ⟨x, hx⟩ : ∃ x, ps[k]? = some x := ⟨_, List.getElem?_eq_getElem hkl⟩
      have c0 := hrow.2 k (x : Int) (by simp [ints, hx])
      have hxl : x < 4294967296 := by have := HPS.out.2 x (List.mem_of_getElem? hx); omega
      have HPT : Hid (placeB (ps.take (k + 1)) = placeB (ps.take k) ++ four x) := placeB_take hx
      clear hst hN hkl hii hrow hx HK
      go_wp2_with (first
        | (go_at_call 28; go_loud (refine (refFour_any x wr hxl).mono ?_; rintro e w2 ⟨g2, d2, rfl, hi2, hb2⟩; have HF : Hid (IsB w2 (some ⟨g2, 0, none⟩) (four x) ∧ RS w T' w2 (.slice aa N cc) (.slice (some ⟨b2, o2, none⟩) P c2) (S.b ++ placeB (ps.take k)) ps) := ⟨hi2, HST.out.below hb2⟩; clear hi2 hb2))
        | (at_builtin; go_loud (refine wpList_app8n (N + 4) _ (by rfl) (.tmp 20) (.tmp 25) (by rfl) 1 T' _ (S.b ++ placeB (ps.take k)) (by rfl) HF.out.2.own (some ⟨g2, 0, none⟩) 4 d2 (four x) (by rfl) rfl (by simp) HF.out.1 (by rw [HLN.out, four_len]; omega) (by rw [HLN.out, four_len]) ?_; intro a3 c3 T3 w3 ho3 hg3; have H3 : Hid (RS w T3 w3 (.slice a3 (N + 4) c3) (.slice (some ⟨b2, o2, none⟩) P c2) (S.b ++ placeB (ps.take k) ++ four x) ps) := HF.out.2.app ho3 hg3; clear ho3 hg3)))
      go_roundw
      case rel => exact ⟨k + 1, a3, N + 4, c3, by omega, by have := HNN.out; omega, rfl, by go_num, by have := HNN.out; omega, T3, by rw [HPT.out, ← List.append_assoc]; exact H3.out⟩
      case measure => simp [intOf]; omega
    · obtain rfl : k = P := by omega
      have htk : ps.take k = ps := List.take_of_length_le (by have := HBP.out.2.1; omega)
      rw [htk, HPS.out.1] at HST HLN
      have hk32 : k < 4294967296 := by omega
      have HB0 : Hid (S.b ++ S.p ++ four k = blk0 S) := by
        show _ = _
        unfold blk0
        rw [show S.p.length / 4 = k by have := HBP.out.2.2; omega]
      clear hst hN htk HK
      go_wp2_with (first
        | (go_at_call 28; go_loud (refine (refFour_any k wr hk32).mono ?_; rintro e w2 ⟨g2, d2, rfl, hi2, hb2⟩; have HF : Hid (IsB w2 (some ⟨g2, 0, none⟩) (four k) ∧ RS w T' w2 (.slice aa N cc) (.slice a2 k c2) (S.b ++ S.p) ps) := ⟨hi2, HST.out.below hb2⟩; clear hi2 hb2))
        | (at_builtin; go_loud (refine wpList_app8n (N + 4) _ (by rfl) (.tmp 27) (.tmp 30) (by rfl) 1 T' _ (S.b ++ S.p) (by rfl) HF.out.2.own (some ⟨g2, 0, none⟩) 4 d2 (four k) (by rfl) rfl (by simp) HF.out.1 (by rw [HLN.out, four_len]; omega) (by rw [HLN.out, four_len]) ?_; intro a3 c3 T3 w3 ho3 hg3; have H3 : Hid (RS w T3 w3 (.slice a3 (N + 4) c3) (.slice a2 k c2) (blk0 S) ps) := (by rw [← HB0.out]; exact HF.out.2.app ho3 hg3); clear ho3 hg3))
        | (go_at_call 30; fail))
      have HL0 : Hid ((blk0 S).length = N + 4) := by show _ = _; rw [← HB0.out, List.length_append, HLN.out, four_len]
      have hcr : crc (blk0 S) < 4294967296 := crc_lt _ H3.out.own.byte
      have hi3 : IsB w3 a3 (blk0 S) := by
        obtain ⟨_, _, e3, hi, _⟩ := H3.out.own.form
        simp only [Value.slice.injEq] at e3
        rw [e3.1]; exact hi
      refine (refSum_any a3 c3 (N + 4) (blk0 S) w3 hi3 (by rw [HL0.out]; omega) HL0.out.symm).mono ?_
      rintro e w4 ⟨rfl, hw⟩
      obtain rfl := hw.symm
      have HBK : Hid (blk S = blk0 S ++ four (crc (blk0 S))) := rfl
      clear hi3 hw
      generalize crc (blk0 S) = cr at *
      dsimp only
      go_wp2_with (first
        | (go_at_call 29; go_loud (refine (four_any cr _ hcr).mono ?_; rintro e w5 ⟨v5, rfl, ho5, hb5⟩; obtain ⟨g5, d5, rfl, _, _, _, hi5⟩ := ho5.isB; have HF5 : Hid (IsB w5 (some ⟨g5, 0, none⟩) (four cr) ∧ RS w T3 w5 (.slice a3 (N + 4) c3) (.slice a2 k c2) (blk0 S) ps) := ⟨hi5, H3.out.below hb5⟩; clear ho5 hi5 hb5))
        | (at_builtin; go_loud (refine wpList_app8n (N + 8) _ (by rfl) (.tmp 32) (.tmp 35) (by rfl) 1 T3 _ (blk0 S) (by rfl) HF5.out.2.own (some ⟨g5, 0, none⟩) _ d5 (four cr) (by rfl) rfl (by simp) HF5.out.1 (by rw [HL0.out, four_len]; omega) (by rw [HL0.out, four_len]) ?_; intro a6 c6 T6 w6 ho6 hg6; have H6 : Hid (RS w T6 w6 (.slice a6 (N + 8) c6) (.slice a2 k c2) (blk0 S ++ four cr) ps) := HF5.out.2.app ho6 hg6; clear ho6 hg6)))
      go_ret
      refine ⟨_, rfl, ?_, H6.out.below0⟩
      rw [HBK.out]
      exact own_lift H6.out.own H6.out.go (by rw [List.length_append, four_len]; omega)
end Qb
end Go.Proofs.YtjnmklbhhlfhcaaGreatDoor
