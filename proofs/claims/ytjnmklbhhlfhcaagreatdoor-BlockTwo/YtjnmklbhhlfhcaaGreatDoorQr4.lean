import Derived.Test.YtjnmklbhhlfhcaaGreatDoorQr3
import Derived.Test.YtjnmklbhhlfhcaaGreatDoorQb5
namespace Go.Proofs.YtjnmklbhhlfhcaaGreatDoor
namespace Qb
open Go.RowKit CMath Byt Laws Irw Crw Cod
set_option linter.unusedVariables false
set_option linter.unusedSimpArgs false
set_option maxRecDepth 20000

theorem take_drop_succ {l : List Nat} {j N x : Nat} (hN : N ≤ j) (hx : l[j]? = some x) : (l.take (j + 1)).drop N = (l.take j).drop N ++ [x] := by
  have hj : j < l.length := (List.getElem?_eq_some_iff.1 hx).1
  rw [List.take_add_one, hx, List.drop_append_of_le_length (by rw [List.length_take]; omega)]
  rfl
theorem isI_at {w : World} {x : Int} {u : TypeId} {g : Nat} (hg : g = w.heap.size) : IsI (w.alloc (.cells #[.int .i64 x] u)) (some ⟨g, 0, none⟩) [x] := by subst hg; exact isI_new
theorem ints_snoc {T : Nat → Nat} {w : World} {v : Value} {ps : List Nat} {x : Nat} (h : OwnL 2 T w v (ints ps ++ [(x : Int)])) : OwnL 2 T w v (ints (ps ++ [x])) := by
  have : ints (ps ++ [x]) = ints ps ++ [(x : Int)] := by simp [ints]
  rw [this]; exact h
theorem ent_eq (O : List Nat) (k : ByteArray) (s : Nat) (d : Bool) (x : ByteArray) (NS TAG : Nat) (ht : tag (k, (s : Int), d, x) = TAG) : O ++ num NS ++ num (k.size - NS) ++ num TAG ++ ((strB k).take k.size).drop NS ++ (if d then [] else words (strB x)) = O ++ entB NS (k, (s : Int), d, x) := by
  have e1 : (strB k).take k.size = strB k := List.take_of_length_le (by rw [strB_length]; exact Nat.le_refl _)
  have e2 : (kB (k, (s : Int), d, x)).length = k.size := strB_length k
  unfold entB
  rw [e1, e2, ht]
  simp only [List.append_assoc]
  rfl
theorem step_b {R kk : Nat} {l : List En} {e : En} (hx : l[kk]? = some e) : pushes R st0 (l.take (kk + 1)) = push R (pushes R st0 (l.take kk)) e ∧ (pushes R st0 (l.take kk)).n = kk := by
  have hk : kk < l.length := (List.getElem?_eq_some_iff.1 hx).1
  refine ⟨by rw [List.take_add_one, hx]; exact pushes_snoc _ _ _ _, ?_⟩
  rw [pushes_n, List.length_take]
  simp [st0]
  omega
/-- A round of the document's body. -/
theorem body_z {w w' : World} {T : Nat → Nat} {v6 v7 : Value} {R kk OL : Nat} {l : List En} {e : En} {ps o : List Nat} (hx : l[kk]? = some e) (hz : kk % R = 0) (hO : OL = (pushes R st0 (l.take kk)).b.length)
    (hp : placeB ps = (pushes R st0 (l.take kk)).p ∧ (∀ x ∈ ps, x ≤ (pushes R st0 (l.take kk)).b.length) ∧ ps.length ≤ kk) (ho : o = (pushes R st0 (l.take kk)).b ++ entB 0 e) (h : RS w T w' v6 v7 o (ps ++ [OL])) :
    RS w T w' v6 v7 (pushes R st0 (l.take (kk + 1))).b (ps ++ [OL]) ∧ placeB (ps ++ [OL]) = (pushes R st0 (l.take (kk + 1))).p ∧ (∀ x ∈ ps ++ [OL], x ≤ (pushes R st0 (l.take (kk + 1))).b.length) ∧ (ps ++ [OL]).length ≤ kk + 1 := by
  obtain ⟨h1, h2⟩ := step_b (R := R) hx
  have hb : (pushes R st0 (l.take (kk + 1))).b = o := by
    rw [h1, ho]
    show _ ++ entB (sh R _ e) e = _
    unfold sh
    rw [h2, if_pos hz]
  refine ⟨by rw [hb]; exact h, ?_, ?_, by simp; exact hp.2.2⟩
  · rw [h1, placeB_snoc, hp.1, hO]
    show _ = plc R _
    unfold plc
    rw [h2, if_pos hz]
  · intro x hx'
    rw [hb, ho, List.length_append]
    rcases List.mem_append.1 hx' with h' | h'
    · have := hp.2.1 x h'; omega
    · simp at h'; omega
theorem body_nz {w w' : World} {T : Nat → Nat} {v6 v7 : Value} {R kk NSH : Nat} {l : List En} {e : En} {ps o : List Nat} (hx : l[kk]? = some e) (hz : ¬ kk % R = 0)
    (hp : placeB ps = (pushes R st0 (l.take kk)).p ∧ (∀ x ∈ ps, x ≤ (pushes R st0 (l.take kk)).b.length) ∧ ps.length ≤ kk) (hs : shr (strB (pushes R st0 (l.take kk)).last) (strB e.1) = NSH) (ho : o = (pushes R st0 (l.take kk)).b ++ entB NSH e) (h : RS w T w' v6 v7 o ps) :
    RS w T w' v6 v7 (pushes R st0 (l.take (kk + 1))).b ps ∧ placeB ps = (pushes R st0 (l.take (kk + 1))).p ∧ (∀ x ∈ ps, x ≤ (pushes R st0 (l.take (kk + 1))).b.length) ∧ ps.length ≤ kk + 1 := by
  obtain ⟨h1, h2⟩ := step_b (R := R) hx
  have hb : (pushes R st0 (l.take (kk + 1))).b = o := by
    rw [h1, ho]
    show _ ++ entB (sh R _ e) e = _
    unfold sh
    rw [h2, if_neg hz]
    show _ ++ entB (shr _ (strB e.1)) e = _
    rw [hs]
  refine ⟨by rw [hb]; exact h, ?_, ?_, by omega⟩
  · rw [h1, hp.1]
    show _ = plc R _
    unfold plc
    rw [h2, if_neg hz]
  · intro x hx'
    rw [hb, ho, List.length_append]
    have := hp.2.1 x hx'
    omega
theorem take_snoc {l : List En} {k : Nat} {e : En} (h : l[k]? = some e) : l.take (k + 1) = l.take k ++ [e] := by rw [List.take_add_one, h]; rfl

set_option maxHeartbeats 4000000 in
theorem refBody_n (a : Option Addr) (cap n : Nat) (l : List En) (w : World) (R : Nat) (hl : Erw.IsE w a l) (hn : n = l.length) (hm : n ≤ 100000) (hok : ∀ e ∈ l, Ok e ∧ 0 ≤ e.2.1) (hR : 1 ≤ R) (hR2 : R ≤ 9223372036854775807) :
    Calls Tryz.prog 27 #[.slice a n cap, .int .i64 (R : Int)] w fun e w' => BodyIs w R l e w' := by
  obtain ⟨i0, hi0, hz0, hz1, hz2⟩ := info_parts infoI
  have HL : Hid (Erw.IsE w a l) := hl
  have HN : Hid (n = l.length) := hn
  have HOK : Hid (∀ e ∈ l, Ok e ∧ 0 ≤ e.2.1) := hok
  have hR1 : ¬ (R : Int) < 1 := by omega
  have hm0 : ¬ (R : Int) = 0 := by omega
  clear hl hn hok
  go_enter Tryz.func27, Tryz.ntmps27
  go_wp2
  go_loopw [6, 7, 8] (fun v6 v7 i wZ => ∃ (k : Nat) (T : Nat → Nat) (ps : List Nat), k ≤ n ∧ i = .int .i64 (k : Int) ∧ Hid (RS w T wZ v6 v7 (pushes R st0 (l.take k)).b ps ∧ placeB ps = (pushes R st0 (l.take k)).p ∧ (∀ x ∈ ps, x ≤ (pushes R st0 (l.take k)).b.length) ∧ ps.length ≤ k)) (fun _ _ i _ => n - (intOf i).toNat)
  case atStart => exact ⟨0, fun _ => 0, [], Nat.zero_le _, rfl, ⟨OwnB.empty _ _ _, OwnL.nil _ _ _, Goes.refl _ _ _, fun _ _ => rfl⟩, rfl, by simp, by simp⟩
  case round =>
    obtain ⟨kk, T, ps, hk, rfl, HS⟩ := hrel
    rename World => wq
    by_cases hlt : kk < n
    · have q1 : (kk : Int) < (n : Int) := by omega
      have hkl : kk < l.length := by rw [← HN.out]; exact hlt
      obtain ⟨b, off, rfl, hrow⟩ := (HL.out.below HS.out.1.below0) (by rintro rfl; simp at hkl)
      obtain ⟨k, si, d, x, hx⟩ : ∃ k si d x, l[kk]? = some (k, si, d, x) := ⟨_, _, _, _, List.getElem?_eq_getElem hkl⟩
      obtain ⟨c0, c1, c2, c3⟩ := hrow.2 kk _ hx
      have hoe := HOK.out _ (List.mem_of_getElem? hx)
      obtain ⟨s, hs0⟩ := Int.eq_ofNat_of_zero_le hoe.2
      dsimp only at c0 c1 c2 c3 hs0
      subst hs0
      have hk64 : k.size ≤ 64 := hoe.1.k2
      have hs56 : s ≤ 72057594037927935 := by have := hoe.1.q; exact Int.ofNat_le.1 this
      have HX0 : Hid (l[kk]? = some (k, (s : Int), d, x) ∧ Ok (k, (s : Int), d, x)) := ⟨hx, hoe.1⟩
      have hOL := pushes_len R (l.take kk) (fun e he => HOK.out e (List.mem_of_mem_take he))
      rw [List.length_take] at hOL
      have hO2 : (pushes R st0 (l.take kk)).b.length ≤ 70000000 := by omega
      have HPS : Hid (placeB ps = (pushes R st0 (l.take kk)).p ∧ (∀ x ∈ ps, x ≤ (pushes R st0 (l.take kk)).b.length) ∧ ps.length ≤ kk) := HS.out.2
      have hpsk : ps.length ≤ kk := HS.out.2.2.2
      have HRS := hid HS.out.1
      have hmod : Int.tmod (kk : Int) (R : Int) = ((kk % R : Nat) : Int) := by rw [Int.tmod_eq_emod_of_nonneg (by omega)]; rfl
      have HROW := hid hrow
      clear HS hx hoe hOL hrow
      obtain ⟨a6, c6, e6, _⟩ := HRS.out.own.form
      obtain ⟨a7, c7, e7, _⟩ := HRS.out.pl.form
      subst e6
      subst e7
      obtain ⟨PL, hPL⟩ : ∃ PL, PL = (ints ps).length := ⟨_, rfl⟩
      obtain ⟨OL, hOLe⟩ : ∃ OL, OL = (pushes R st0 (l.take kk)).b.length := ⟨_, rfl⟩
      have HPL : Hid (PL = (ints ps).length ∧ OL = (pushes R st0 (l.take kk)).b.length) := ⟨hPL, hOLe⟩
      have hOLb : OL ≤ 70000000 := by omega
      have HX1 : Hid (RX w T (wq.alloc (.cells #[.string k, .int .u64 (s : Int), .bool d, .string x] 54)) (.slice a6 OL c6) (.slice a7 PL c7) (pushes R st0 (l.take kk)).b ps wq.heap.size #[.string k, .int .u64 (s : Int), .bool d, .string x]) := by rw [hPL, hOLe]; exact HRS.out.box _ _
      rw [← hPL, ← hOLe]
      clear hPL hOLe HRS
      cases d with
      | true =>
        by_cases hz : kk % R = 0
        · have hzz : ((kk : Int) % (R : Int) == 0) = true := by rw [beq_iff_eq]; omega
          obtain ⟨NSH, hNSH⟩ : ∃ NSH, NSH = 0 := ⟨_, rfl⟩
          have HNS : Hid (NSH = 0) := hNSH
          have hNSk : NSH ≤ k.size := by omega
          clear hNSH
          go_wp2_with (at_builtin; go_loud (refine wpList_appL _ (by rfl) (.tmp 29) (.tmp 32) 25 (by rfl) i0 Tryz.underlying25 hi0 hz0 hz1 hz2 2 T (.slice a7 PL c7) (ints ps) (by rfl) (HX1.out.rs.pl.below ((Below.refl _ _).alloc (Nat.le_refl _) _)) (some ⟨wq.heap.size + 1, 0, none⟩) 1 1 [(OL : Int)] (by rfl) (by rfl) (by simp) (isI_at (by simp)) (by rw [ints_len]; simp; omega) ?_; intro a8 c8 T8 w8 ho8 hg8 hat8; have HX : Hid (RX w T8 w8 (.slice a6 OL c6) (.slice a8 ((ints ps).length + 1) c8) (pushes R st0 (l.take kk)).b (ps ++ [OL]) wq.heap.size #[.string k, .int .u64 (s : Int), .bool true, .string x]) := (HX1.out.below ((Below.refl _ _).alloc (Nat.le_refl _) _)).app2 (ints_snoc ho8) hg8; have b80 : w8.cell? ⟨wq.heap.size, 0, none⟩ = some (.string k) := HX.out.cell 0; have b81 : w8.cell? ⟨wq.heap.size, 1, none⟩ = some (.int .u64 (s : Int)) := HX.out.cell 1; have b82 : w8.cell? ⟨wq.heap.size, 2, none⟩ = some (.bool true) := HX.out.cell 2; clear ho8 hg8 hat8 HX1))
          rw [← HPL.out.1] at HX
          have nA1 := num_le10 (show NSH < 18446744073709551616 by omega)
          have nA2 := num_le10 (show k.size - NSH < 18446744073709551616 by omega)
          have nA3 := num_le10 (show 2 * s + 1 < 18446744073709551616 by omega)
          refine (number_z (NSH) _ (by have h9 := HNS.out; omega) _ (by omega)).mono ?_
          rintro e wA1 ⟨gA1, cA1, rfl, hiA1, hbA1⟩
          have HA1 : Hid (RX w T8 wA1 _ _ ((pushes R st0 (l.take kk)).b) (ps ++ [OL]) wq.heap.size #[.string k, .int .u64 (s : Int), .bool true, .string x] ∧ IsB wA1 (some ⟨gA1, 0, none⟩) (num (NSH))) := ⟨HX.out.below hbA1, hiA1⟩
          clear hiA1 hbA1
          go_wp2_with (at_builtin; go_loud (refine wpList_app8n (OL + (num (NSH)).length) _ (by rfl) (.tmp 50) (.tmp 53) (by rfl) 1 T8 _ ((pushes R st0 (l.take kk)).b) (by rfl) HA1.out.1.rs.own (some ⟨gA1, 0, none⟩) _ cA1 (num (NSH)) (by rfl) rfl (by simp) HA1.out.2 (by have h9 := HPL.out.2; first | omega | (simp only [List.length_append]; omega)) (by have h9 := HPL.out.2; first | omega | (simp only [List.length_append]; omega)) ?_; intro a1 c1 T1 w1 ho1 hg1; have HP1 : Hid (RX w T1 w1 (.slice a1 (OL + (num (NSH)).length) c1) (.slice a8 (PL + 1) c8) ((pushes R st0 (l.take kk)).b ++ num (NSH)) (ps ++ [OL]) wq.heap.size #[.string k, .int .u64 (s : Int), .bool true, .string x]) := HA1.out.1.app ho1 hg1; have b10 : w1.cell? ⟨wq.heap.size, 0, none⟩ = some (.string k) := HP1.out.cell 0; have b12 : w1.cell? ⟨wq.heap.size, 2, none⟩ = some (.bool true) := HP1.out.cell 2; have b13 : w1.cell? ⟨wq.heap.size, 3, none⟩ = some (.string x) := HP1.out.cell 3; clear ho1 hg1 HA1))
          clear HX
          refine (number_z (k.size - NSH) _ (by have h9 := HNS.out; omega) _ (by omega)).mono ?_
          rintro e wA2 ⟨gA2, cA2, rfl, hiA2, hbA2⟩
          have HA2 : Hid (RX w T1 wA2 _ _ ((pushes R st0 (l.take kk)).b ++ num (NSH)) (ps ++ [OL]) wq.heap.size #[.string k, .int .u64 (s : Int), .bool true, .string x] ∧ IsB wA2 (some ⟨gA2, 0, none⟩) (num (k.size - NSH))) := ⟨HP1.out.below hbA2, hiA2⟩
          clear hiA2 hbA2
          go_wp2_with (at_builtin; go_loud (refine wpList_app8n (OL + (num (NSH)).length + (num (k.size - NSH)).length) _ (by rfl) (.tmp 55) (.tmp 62) (by rfl) 1 T1 _ ((pushes R st0 (l.take kk)).b ++ num (NSH)) (by rfl) HA2.out.1.rs.own (some ⟨gA2, 0, none⟩) _ cA2 (num (k.size - NSH)) (by rfl) rfl (by simp) HA2.out.2 (by have h9 := HPL.out.2; first | omega | (simp only [List.length_append]; omega)) (by have h9 := HPL.out.2; first | omega | (simp only [List.length_append]; omega)) ?_; intro a2 c2 T2 w2 ho2 hg2; have HP2 : Hid (RX w T2 w2 (.slice a2 (OL + (num (NSH)).length + (num (k.size - NSH)).length) c2) (.slice a8 (PL + 1) c8) ((pushes R st0 (l.take kk)).b ++ num (NSH) ++ num (k.size - NSH)) (ps ++ [OL]) wq.heap.size #[.string k, .int .u64 (s : Int), .bool true, .string x]) := HA2.out.1.app ho2 hg2; have b20 : w2.cell? ⟨wq.heap.size, 0, none⟩ = some (.string k) := HP2.out.cell 0; have b22 : w2.cell? ⟨wq.heap.size, 2, none⟩ = some (.bool true) := HP2.out.cell 2; have b23 : w2.cell? ⟨wq.heap.size, 3, none⟩ = some (.string x) := HP2.out.cell 3; clear ho2 hg2 HA2))
          clear HP1 b10 b12 b13
          refine (number_z (2 * s + 1) _ (by omega) _ (by omega)).mono ?_
          rintro e wA3 ⟨gA3, cA3, rfl, hiA3, hbA3⟩
          have HA3 : Hid (RX w T2 wA3 _ _ ((pushes R st0 (l.take kk)).b ++ num (NSH) ++ num (k.size - NSH)) (ps ++ [OL]) wq.heap.size #[.string k, .int .u64 (s : Int), .bool true, .string x] ∧ IsB wA3 (some ⟨gA3, 0, none⟩) (num (2 * s + 1))) := ⟨HP2.out.below hbA3, hiA3⟩
          clear hiA3 hbA3
          go_wp2_with (at_builtin; go_loud (refine wpList_app8n (OL + (num (NSH)).length + (num (k.size - NSH)).length + (num (2 * s + 1)).length) _ (by rfl) (.tmp 64) (.tmp 66) (by rfl) 1 T2 _ ((pushes R st0 (l.take kk)).b ++ num (NSH) ++ num (k.size - NSH)) (by rfl) HA3.out.1.rs.own (some ⟨gA3, 0, none⟩) _ cA3 (num (2 * s + 1)) (by rfl) rfl (by simp) HA3.out.2 (by have h9 := HPL.out.2; first | omega | (simp only [List.length_append]; omega)) (by have h9 := HPL.out.2; first | omega | (simp only [List.length_append]; omega)) ?_; intro a3 c3 T3 w3 ho3 hg3; have HP3 : Hid (RX w T3 w3 (.slice a3 (OL + (num (NSH)).length + (num (k.size - NSH)).length + (num (2 * s + 1)).length) c3) (.slice a8 (PL + 1) c8) ((pushes R st0 (l.take kk)).b ++ num (NSH) ++ num (k.size - NSH) ++ num (2 * s + 1)) (ps ++ [OL]) wq.heap.size #[.string k, .int .u64 (s : Int), .bool true, .string x]) := HA3.out.1.app ho3 hg3; have b30 : w3.cell? ⟨wq.heap.size, 0, none⟩ = some (.string k) := HP3.out.cell 0; have b32 : w3.cell? ⟨wq.heap.size, 2, none⟩ = some (.bool true) := HP3.out.cell 2; have b33 : w3.cell? ⟨wq.heap.size, 3, none⟩ = some (.string x) := HP3.out.cell 3; clear ho3 hg3 HA3))
          clear HP2 b20 b22 b23
          have hNk : NSH ≤ k.size := by omega
          have HLN : Hid (((pushes R st0 (l.take kk)).b ++ num (NSH) ++ num (k.size - NSH) ++ num (2 * s + 1)).length = OL + (num (NSH)).length + (num (k.size - NSH)).length + (num (2 * s + 1)).length) := by show _ = _; have h9 := HPL.out.2; simp only [List.length_append]; omega
          obtain ⟨LB, hLB⟩ : ∃ LB, LB = (pushes R st0 (l.take kk)).b ++ num (NSH) ++ num (k.size - NSH) ++ num (2 * s + 1) := ⟨_, rfl⟩
          obtain ⟨NB, hNB⟩ : ∃ NB, NB = OL + (num (NSH)).length + (num (k.size - NSH)).length + (num (2 * s + 1)).length := ⟨_, rfl⟩
          have HLB : Hid (LB = (pushes R st0 (l.take kk)).b ++ num (NSH) ++ num (k.size - NSH) ++ num (2 * s + 1) ∧ NB = OL + (num (NSH)).length + (num (k.size - NSH)).length + (num (2 * s + 1)).length ∧ LB.length = NB) := ⟨hLB, hNB, by rw [hLB, hNB]; exact HLN.out⟩
          have hNBb : NB ≤ 80000000 := by rw [hNB]; omega
          rw [← hLB, ← hNB] at HP3
          rw [← hNB]
          clear hLB hNB HLN b30 b32 b33
          go_loopw [6, 12] (fun v6 i wZ2 => ∃ (j : Nat) (T' : Nat → Nat) (a' : Option Addr) (c' NJ : Nat), NSH ≤ j ∧ j ≤ k.size ∧ i = .int .i64 (j : Int) ∧ v6 = .slice a' NJ c' ∧ NJ ≤ 80000100 ∧ Hid (NJ = NB + (j - NSH) ∧ RX w T' wZ2 (.slice a' NJ c') (.slice a8 (PL + 1) c8) (LB ++ ((strB k).take j).drop NSH) (ps ++ [OL]) wq.heap.size #[.string k, .int .u64 (s : Int), .bool true, .string x])) (fun _ i _ => k.size - (intOf i).toNat)
          case atStart =>
            refine ⟨NSH, T3, a3, c3, NB, Nat.le_refl _, hNk, by first | rfl | (rw [HNS.out]; rfl), rfl, by omega, by omega, ?_⟩
            have e9 : ((strB k).take NSH).drop NSH = [] := List.drop_eq_nil_of_le (by rw [List.length_take]; omega)
            rw [e9, List.append_nil]
            exact HP3.out
          case round =>
            obtain ⟨j, T', a', c', NJ, hj1, hj2, rfl, rfl, hNJ, HJ⟩ := hrel
            have y0 : wr.cell? ⟨wq.heap.size, 0, none⟩ = some (.string k) := HJ.out.2.cell 0
            have y2 : wr.cell? ⟨wq.heap.size, 2, none⟩ = some (.bool true) := HJ.out.2.cell 2
            have y3 : wr.cell? ⟨wq.heap.size, 3, none⟩ = some (.string x) := HJ.out.2.cell 3
            by_cases hjl : j < k.size
            · have qj : (j : Int) < (k.size : Int) := by omega
              have HGJ : Hid ((strB k)[j]? = some k[j].toNat) := strB_get hjl
              have HTD : Hid (((strB k).take (j + 1)).drop NSH = ((strB k).take j).drop NSH ++ [k[j].toNat]) := take_drop_succ hj1 HGJ.out
              have hby : k[j].toNat < 256 := k[j].toNat_lt
              have HLJ : Hid ((LB ++ ((strB k).take j).drop NSH).length = NJ) := by show _ = _; rw [List.length_append, HLB.out.2.2, List.length_drop, List.length_take, strB_length, HJ.out.1]; omega
              go_wp2_with (at_builtin; go_loud (refine wpList_app8n (NJ + 1) _ (by rfl) (.tmp 76) (.tmp 81) (by rfl) 1 T' _ (LB ++ ((strB k).take j).drop NSH) (by rfl) (HJ.out.2.rs.own.below ((Below.refl _ _).alloc (Nat.le_refl _) _)) (some ⟨wr.heap.size, 0, none⟩) 1 1 [k[j].toNat] (by rfl) rfl (by simp) (isB_new rfl hby) (by rw [HLJ.out]; simp; omega) (by rw [HLJ.out]; rfl) ?_; intro aJ cJ TJ wJ hoJ hgJ; have HJ2 : Hid (RX w TJ wJ (.slice aJ (NJ + 1) cJ) (.slice a8 (PL + 1) c8) (LB ++ ((strB k).take (j + 1)).drop NSH) (ps ++ [OL]) wq.heap.size #[.string k, .int .u64 (s : Int), .bool true, .string x]) := (by rw [HTD.out, ← List.append_assoc]; exact (HJ.out.2.below ((Below.refl _ _).alloc (Nat.le_refl _) _)).app hoJ hgJ); clear hoJ hgJ))
              go_roundw
              case rel => exact ⟨j + 1, TJ, aJ, cJ, NJ + 1, by omega, by omega, by go_num, rfl, by have h9 := HJ.out.1; have h8 := HLB.out.2.2; omega, by have h9 := HJ.out.1; omega, HJ2.out⟩
              case measure => simp [intOf]; omega
            · have hjk : j = k.size := by omega
              subst hjk
              go_wp2
              go_roundw
              case rel =>
                have hf := body_z (o := (LB ++ ((strB k).take k.size).drop NSH)) HX0.out.1 hz HPL.out.2 HPS.out (by rw [← ent_eq _ k s true x 0 (2 * s + 1) (by unfold tag; simp), HLB.out.1, HNS.out]; simp) HJ.out.2.rs
                rw [HPL.out.1] at hf
                exact ⟨kk + 1, T', (ps ++ [OL]), by omega, by go_num, hf⟩
              case measure => simp [intOf]; omega

        · have hzz : ((kk : Int) % (R : Int) == 0) = false := by rw [beq_eq_false_iff_ne]; omega
          have hkp : 0 < kk := by rcases Nat.eq_zero_or_pos kk with h | h; · rw [h] at hz; simp at hz
                                  · exact h
          obtain ⟨m, hm1⟩ : ∃ m, kk = m + 1 := ⟨kk - 1, by omega⟩
          obtain ⟨pk, pq, pd, pv, hpx⟩ : ∃ pk pq pd pv, l[m]? = some (pk, pq, pd, pv) := ⟨_, _, _, _, List.getElem?_eq_getElem (by rw [← HN.out]; omega)⟩
          have p0 := (HROW.out.2 m _ hpx).1
          have hpk : pk.size ≤ 64 := (HOK.out _ (List.mem_of_getElem? hpx)).1.k2
          have HNS2 : Hid (shr (strB (pushes R st0 (l.take kk)).last) (strB k) = shr (strB pk) (strB k)) := by
            show _ = _
            rw [pushes_lastK, hm1, take_snoc hpx, lastK_snoc]
          obtain ⟨NSH, hNSH⟩ : ∃ NSH, NSH = shr (strB pk) (strB k) := ⟨_, rfl⟩
          rw [← hNSH] at HNS2
          have hNSk : NSH ≤ k.size := by rw [hNSH, ← strB_length]; exact shr_le_right _ _
          have HSB : Hid (∀ W z, Calls Tryz.prog 67 #[.string pk, .string k] (World.drewN W z) fun e w' => e = .returned (.int .i64 (NSH : Int)) ∧ ∃ q, w' = W.drewN q) := fun W z => by
            rw [hNSH]
            exact (refShared_any pk k _ (by omega) (by omega)).mono (fun e w' h => ⟨h.1, by obtain ⟨n, h2⟩ := h.2; exact ⟨z + n, by rw [h2, World.drewN_drewN]⟩⟩)
          have HNS : Hid (NSH = NSH) := rfl
          have qm : (m : Int) < (n : Int) := by omega
          have qm0 : (0 : Int) ≤ (m : Int) := by omega
          have qmw2 : IntKind.i64.wrap ((kk : Int) - 1) = (m : Int) := by rw [IntKind.wrap_i64]; omega
          have qmw3 : (kk : Int) - 1 = (m : Int) := by omega
          have qmN : m < n := by omega
          have p0' : (wq.alloc (.cells #[.string k, .int .u64 (s : Int), .bool true, .string x] 54)).cell? ⟨b, off + m * 4, none⟩ = some (.string pk) := past HROW.out.1 p0
          clear hNSH hpx p0 hm1
          go_wp2
          have x0 := HX1.out.cell 0
          have x1 := HX1.out.cell 1
          have x2 := HX1.out.cell 2
          generalize (wq.alloc (.cells #[.string k, .int .u64 (s : Int), .bool true, .string x] 54)) = W1 at *
          have y0' : W1.cell? ⟨wq.heap.size, 0, none⟩ = some (.string k) := x0
          have HSB1 : Hid (∀ z, Calls Tryz.prog 67 #[.string pk, .string k] (W1.drewN z) fun e w' => e = .returned (.int .i64 (NSH : Int)) ∧ ∃ q, w' = W1.drewN q) := fun z => HSB.out W1 z
          clear x0
          go_quiet ((go_at_call 67; exact (HSB1.out _)))
          have HX : Hid (RX w T (W1.drewN nq) (.slice a6 OL c6) (.slice a7 PL c7) (pushes R st0 (l.take kk)).b ps wq.heap.size #[.string k, .int .u64 (s : Int), .bool true, .string x]) := HX1.out.below (below_drewN (Below.refl _ _) _)
          clear HSB HSB1 HX1 y0' p0' x1 x2
          generalize W1.drewN nq = WX at *
          have b80 : WX.cell? ⟨wq.heap.size, 0, none⟩ = some (.string k) := HX.out.cell 0
          have b81 : WX.cell? ⟨wq.heap.size, 1, none⟩ = some (.int .u64 (s : Int)) := HX.out.cell 1
          have b82 : WX.cell? ⟨wq.heap.size, 2, none⟩ = some (.bool true) := HX.out.cell 2
          go_wp2_with fail
          have nA1 := num_le10 (show NSH < 18446744073709551616 by omega)
          have nA2 := num_le10 (show k.size - NSH < 18446744073709551616 by omega)
          have nA3 := num_le10 (show 2 * s + 1 < 18446744073709551616 by omega)
          refine (number_z (NSH) _ (by rfl) _ (by omega)).mono ?_
          rintro e wA1 ⟨gA1, cA1, rfl, hiA1, hbA1⟩
          have HA1 : Hid (RX w T wA1 _ _ ((pushes R st0 (l.take kk)).b) ps wq.heap.size #[.string k, .int .u64 (s : Int), .bool true, .string x] ∧ IsB wA1 (some ⟨gA1, 0, none⟩) (num (NSH))) := ⟨HX.out.below hbA1, hiA1⟩
          clear hiA1 hbA1
          go_wp2_with (at_builtin; go_loud (refine wpList_app8n (OL + (num (NSH)).length) _ (by rfl) (.tmp 50) (.tmp 53) (by rfl) 1 T _ ((pushes R st0 (l.take kk)).b) (by rfl) HA1.out.1.rs.own (some ⟨gA1, 0, none⟩) _ cA1 (num (NSH)) (by rfl) rfl (by simp) HA1.out.2 (by have h9 := HPL.out.2; first | omega | (simp only [List.length_append]; omega)) (by have h9 := HPL.out.2; first | omega | (simp only [List.length_append]; omega)) ?_; intro a1 c1 T1 w1 ho1 hg1; have HP1 : Hid (RX w T1 w1 (.slice a1 (OL + (num (NSH)).length) c1) (.slice a7 PL c7) ((pushes R st0 (l.take kk)).b ++ num (NSH)) ps wq.heap.size #[.string k, .int .u64 (s : Int), .bool true, .string x]) := HA1.out.1.app ho1 hg1; have b10 : w1.cell? ⟨wq.heap.size, 0, none⟩ = some (.string k) := HP1.out.cell 0; have b12 : w1.cell? ⟨wq.heap.size, 2, none⟩ = some (.bool true) := HP1.out.cell 2; have b13 : w1.cell? ⟨wq.heap.size, 3, none⟩ = some (.string x) := HP1.out.cell 3; clear ho1 hg1 HA1))
          clear HX
          refine (number_z (k.size - NSH) _ (by have h9 := HNS.out; omega) _ (by omega)).mono ?_
          rintro e wA2 ⟨gA2, cA2, rfl, hiA2, hbA2⟩
          have HA2 : Hid (RX w T1 wA2 _ _ ((pushes R st0 (l.take kk)).b ++ num (NSH)) ps wq.heap.size #[.string k, .int .u64 (s : Int), .bool true, .string x] ∧ IsB wA2 (some ⟨gA2, 0, none⟩) (num (k.size - NSH))) := ⟨HP1.out.below hbA2, hiA2⟩
          clear hiA2 hbA2
          go_wp2_with (at_builtin; go_loud (refine wpList_app8n (OL + (num (NSH)).length + (num (k.size - NSH)).length) _ (by rfl) (.tmp 55) (.tmp 62) (by rfl) 1 T1 _ ((pushes R st0 (l.take kk)).b ++ num (NSH)) (by rfl) HA2.out.1.rs.own (some ⟨gA2, 0, none⟩) _ cA2 (num (k.size - NSH)) (by rfl) rfl (by simp) HA2.out.2 (by have h9 := HPL.out.2; first | omega | (simp only [List.length_append]; omega)) (by have h9 := HPL.out.2; first | omega | (simp only [List.length_append]; omega)) ?_; intro a2 c2 T2 w2 ho2 hg2; have HP2 : Hid (RX w T2 w2 (.slice a2 (OL + (num (NSH)).length + (num (k.size - NSH)).length) c2) (.slice a7 PL c7) ((pushes R st0 (l.take kk)).b ++ num (NSH) ++ num (k.size - NSH)) ps wq.heap.size #[.string k, .int .u64 (s : Int), .bool true, .string x]) := HA2.out.1.app ho2 hg2; have b20 : w2.cell? ⟨wq.heap.size, 0, none⟩ = some (.string k) := HP2.out.cell 0; have b22 : w2.cell? ⟨wq.heap.size, 2, none⟩ = some (.bool true) := HP2.out.cell 2; have b23 : w2.cell? ⟨wq.heap.size, 3, none⟩ = some (.string x) := HP2.out.cell 3; clear ho2 hg2 HA2))
          clear HP1 b10 b12 b13
          refine (number_z (2 * s + 1) _ (by omega) _ (by omega)).mono ?_
          rintro e wA3 ⟨gA3, cA3, rfl, hiA3, hbA3⟩
          have HA3 : Hid (RX w T2 wA3 _ _ ((pushes R st0 (l.take kk)).b ++ num (NSH) ++ num (k.size - NSH)) ps wq.heap.size #[.string k, .int .u64 (s : Int), .bool true, .string x] ∧ IsB wA3 (some ⟨gA3, 0, none⟩) (num (2 * s + 1))) := ⟨HP2.out.below hbA3, hiA3⟩
          clear hiA3 hbA3
          go_wp2_with (at_builtin; go_loud (refine wpList_app8n (OL + (num (NSH)).length + (num (k.size - NSH)).length + (num (2 * s + 1)).length) _ (by rfl) (.tmp 64) (.tmp 66) (by rfl) 1 T2 _ ((pushes R st0 (l.take kk)).b ++ num (NSH) ++ num (k.size - NSH)) (by rfl) HA3.out.1.rs.own (some ⟨gA3, 0, none⟩) _ cA3 (num (2 * s + 1)) (by rfl) rfl (by simp) HA3.out.2 (by have h9 := HPL.out.2; first | omega | (simp only [List.length_append]; omega)) (by have h9 := HPL.out.2; first | omega | (simp only [List.length_append]; omega)) ?_; intro a3 c3 T3 w3 ho3 hg3; have HP3 : Hid (RX w T3 w3 (.slice a3 (OL + (num (NSH)).length + (num (k.size - NSH)).length + (num (2 * s + 1)).length) c3) (.slice a7 PL c7) ((pushes R st0 (l.take kk)).b ++ num (NSH) ++ num (k.size - NSH) ++ num (2 * s + 1)) ps wq.heap.size #[.string k, .int .u64 (s : Int), .bool true, .string x]) := HA3.out.1.app ho3 hg3; have b30 : w3.cell? ⟨wq.heap.size, 0, none⟩ = some (.string k) := HP3.out.cell 0; have b32 : w3.cell? ⟨wq.heap.size, 2, none⟩ = some (.bool true) := HP3.out.cell 2; have b33 : w3.cell? ⟨wq.heap.size, 3, none⟩ = some (.string x) := HP3.out.cell 3; clear ho3 hg3 HA3))
          clear HP2 b20 b22 b23
          have hNk : NSH ≤ k.size := by omega
          have HLN : Hid (((pushes R st0 (l.take kk)).b ++ num (NSH) ++ num (k.size - NSH) ++ num (2 * s + 1)).length = OL + (num (NSH)).length + (num (k.size - NSH)).length + (num (2 * s + 1)).length) := by show _ = _; have h9 := HPL.out.2; simp only [List.length_append]; omega
          obtain ⟨LB, hLB⟩ : ∃ LB, LB = (pushes R st0 (l.take kk)).b ++ num (NSH) ++ num (k.size - NSH) ++ num (2 * s + 1) := ⟨_, rfl⟩
          obtain ⟨NB, hNB⟩ : ∃ NB, NB = OL + (num (NSH)).length + (num (k.size - NSH)).length + (num (2 * s + 1)).length := ⟨_, rfl⟩
          have HLB : Hid (LB = (pushes R st0 (l.take kk)).b ++ num (NSH) ++ num (k.size - NSH) ++ num (2 * s + 1) ∧ NB = OL + (num (NSH)).length + (num (k.size - NSH)).length + (num (2 * s + 1)).length ∧ LB.length = NB) := ⟨hLB, hNB, by rw [hLB, hNB]; exact HLN.out⟩
          have hNBb : NB ≤ 80000000 := by rw [hNB]; omega
          rw [← hLB, ← hNB] at HP3
          rw [← hNB]
          clear hLB hNB HLN b30 b32 b33
          go_loopw [6, 12] (fun v6 i wZ2 => ∃ (j : Nat) (T' : Nat → Nat) (a' : Option Addr) (c' NJ : Nat), NSH ≤ j ∧ j ≤ k.size ∧ i = .int .i64 (j : Int) ∧ v6 = .slice a' NJ c' ∧ NJ ≤ 80000100 ∧ Hid (NJ = NB + (j - NSH) ∧ RX w T' wZ2 (.slice a' NJ c') (.slice a7 PL c7) (LB ++ ((strB k).take j).drop NSH) ps wq.heap.size #[.string k, .int .u64 (s : Int), .bool true, .string x])) (fun _ i _ => k.size - (intOf i).toNat)
          case atStart =>
            refine ⟨NSH, T3, a3, c3, NB, Nat.le_refl _, hNk, by first | rfl | (rw [HNS.out]; rfl), rfl, by omega, by omega, ?_⟩
            have e9 : ((strB k).take NSH).drop NSH = [] := List.drop_eq_nil_of_le (by rw [List.length_take]; omega)
            rw [e9, List.append_nil]
            exact HP3.out
          case round =>
            obtain ⟨j, T', a', c', NJ, hj1, hj2, rfl, rfl, hNJ, HJ⟩ := hrel
            have y0 : wr.cell? ⟨wq.heap.size, 0, none⟩ = some (.string k) := HJ.out.2.cell 0
            have y2 : wr.cell? ⟨wq.heap.size, 2, none⟩ = some (.bool true) := HJ.out.2.cell 2
            have y3 : wr.cell? ⟨wq.heap.size, 3, none⟩ = some (.string x) := HJ.out.2.cell 3
            by_cases hjl : j < k.size
            · have qj : (j : Int) < (k.size : Int) := by omega
              have HGJ : Hid ((strB k)[j]? = some k[j].toNat) := strB_get hjl
              have HTD : Hid (((strB k).take (j + 1)).drop NSH = ((strB k).take j).drop NSH ++ [k[j].toNat]) := take_drop_succ hj1 HGJ.out
              have hby : k[j].toNat < 256 := k[j].toNat_lt
              have HLJ : Hid ((LB ++ ((strB k).take j).drop NSH).length = NJ) := by show _ = _; rw [List.length_append, HLB.out.2.2, List.length_drop, List.length_take, strB_length, HJ.out.1]; omega
              go_wp2_with (at_builtin; go_loud (refine wpList_app8n (NJ + 1) _ (by rfl) (.tmp 76) (.tmp 81) (by rfl) 1 T' _ (LB ++ ((strB k).take j).drop NSH) (by rfl) (HJ.out.2.rs.own.below ((Below.refl _ _).alloc (Nat.le_refl _) _)) (some ⟨wr.heap.size, 0, none⟩) 1 1 [k[j].toNat] (by rfl) rfl (by simp) (isB_new rfl hby) (by rw [HLJ.out]; simp; omega) (by rw [HLJ.out]; rfl) ?_; intro aJ cJ TJ wJ hoJ hgJ; have HJ2 : Hid (RX w TJ wJ (.slice aJ (NJ + 1) cJ) (.slice a7 PL c7) (LB ++ ((strB k).take (j + 1)).drop NSH) ps wq.heap.size #[.string k, .int .u64 (s : Int), .bool true, .string x]) := (by rw [HTD.out, ← List.append_assoc]; exact (HJ.out.2.below ((Below.refl _ _).alloc (Nat.le_refl _) _)).app hoJ hgJ); clear hoJ hgJ))
              go_roundw
              case rel => exact ⟨j + 1, TJ, aJ, cJ, NJ + 1, by omega, by omega, by go_num, rfl, by have h9 := HJ.out.1; have h8 := HLB.out.2.2; omega, by have h9 := HJ.out.1; omega, HJ2.out⟩
              case measure => simp [intOf]; omega
            · have hjk : j = k.size := by omega
              subst hjk
              go_wp2
              go_roundw
              case rel =>
                have hf := body_nz (o := (LB ++ ((strB k).take k.size).drop NSH)) HX0.out.1 hz HPS.out HNS2.out (by rw [← ent_eq _ k s true x NSH (2 * s + 1) (by unfold tag; simp), HLB.out.1]; simp) HJ.out.2.rs
                skip
                exact ⟨kk + 1, T', ps, by omega, by go_num, hf⟩
              case measure => simp [intOf]; omega

      | false =>
        by_cases hz : kk % R = 0
        · have hzz : ((kk : Int) % (R : Int) == 0) = true := by rw [beq_iff_eq]; omega
          obtain ⟨NSH, hNSH⟩ : ∃ NSH, NSH = 0 := ⟨_, rfl⟩
          have HNS : Hid (NSH = 0) := hNSH
          have hNSk : NSH ≤ k.size := by omega
          clear hNSH
          go_wp2_with (at_builtin; go_loud (refine wpList_appL _ (by rfl) (.tmp 29) (.tmp 32) 25 (by rfl) i0 Tryz.underlying25 hi0 hz0 hz1 hz2 2 T (.slice a7 PL c7) (ints ps) (by rfl) (HX1.out.rs.pl.below ((Below.refl _ _).alloc (Nat.le_refl _) _)) (some ⟨wq.heap.size + 1, 0, none⟩) 1 1 [(OL : Int)] (by rfl) (by rfl) (by simp) (isI_at (by simp)) (by rw [ints_len]; simp; omega) ?_; intro a8 c8 T8 w8 ho8 hg8 hat8; have HX : Hid (RX w T8 w8 (.slice a6 OL c6) (.slice a8 ((ints ps).length + 1) c8) (pushes R st0 (l.take kk)).b (ps ++ [OL]) wq.heap.size #[.string k, .int .u64 (s : Int), .bool false, .string x]) := (HX1.out.below ((Below.refl _ _).alloc (Nat.le_refl _) _)).app2 (ints_snoc ho8) hg8; have b80 : w8.cell? ⟨wq.heap.size, 0, none⟩ = some (.string k) := HX.out.cell 0; have b81 : w8.cell? ⟨wq.heap.size, 1, none⟩ = some (.int .u64 (s : Int)) := HX.out.cell 1; have b82 : w8.cell? ⟨wq.heap.size, 2, none⟩ = some (.bool false) := HX.out.cell 2; clear ho8 hg8 hat8 HX1))
          rw [← HPL.out.1] at HX
          have nA1 := num_le10 (show NSH < 18446744073709551616 by omega)
          have nA2 := num_le10 (show k.size - NSH < 18446744073709551616 by omega)
          have nA3 := num_le10 (show 2 * s < 18446744073709551616 by omega)
          refine (number_z (NSH) _ (by have h9 := HNS.out; omega) _ (by omega)).mono ?_
          rintro e wA1 ⟨gA1, cA1, rfl, hiA1, hbA1⟩
          have HA1 : Hid (RX w T8 wA1 _ _ ((pushes R st0 (l.take kk)).b) (ps ++ [OL]) wq.heap.size #[.string k, .int .u64 (s : Int), .bool false, .string x] ∧ IsB wA1 (some ⟨gA1, 0, none⟩) (num (NSH))) := ⟨HX.out.below hbA1, hiA1⟩
          clear hiA1 hbA1
          go_wp2_with (at_builtin; go_loud (refine wpList_app8n (OL + (num (NSH)).length) _ (by rfl) (.tmp 50) (.tmp 53) (by rfl) 1 T8 _ ((pushes R st0 (l.take kk)).b) (by rfl) HA1.out.1.rs.own (some ⟨gA1, 0, none⟩) _ cA1 (num (NSH)) (by rfl) rfl (by simp) HA1.out.2 (by have h9 := HPL.out.2; first | omega | (simp only [List.length_append]; omega)) (by have h9 := HPL.out.2; first | omega | (simp only [List.length_append]; omega)) ?_; intro a1 c1 T1 w1 ho1 hg1; have HP1 : Hid (RX w T1 w1 (.slice a1 (OL + (num (NSH)).length) c1) (.slice a8 (PL + 1) c8) ((pushes R st0 (l.take kk)).b ++ num (NSH)) (ps ++ [OL]) wq.heap.size #[.string k, .int .u64 (s : Int), .bool false, .string x]) := HA1.out.1.app ho1 hg1; have b10 : w1.cell? ⟨wq.heap.size, 0, none⟩ = some (.string k) := HP1.out.cell 0; have b12 : w1.cell? ⟨wq.heap.size, 2, none⟩ = some (.bool false) := HP1.out.cell 2; have b13 : w1.cell? ⟨wq.heap.size, 3, none⟩ = some (.string x) := HP1.out.cell 3; clear ho1 hg1 HA1))
          clear HX
          refine (number_z (k.size - NSH) _ (by have h9 := HNS.out; omega) _ (by omega)).mono ?_
          rintro e wA2 ⟨gA2, cA2, rfl, hiA2, hbA2⟩
          have HA2 : Hid (RX w T1 wA2 _ _ ((pushes R st0 (l.take kk)).b ++ num (NSH)) (ps ++ [OL]) wq.heap.size #[.string k, .int .u64 (s : Int), .bool false, .string x] ∧ IsB wA2 (some ⟨gA2, 0, none⟩) (num (k.size - NSH))) := ⟨HP1.out.below hbA2, hiA2⟩
          clear hiA2 hbA2
          go_wp2_with (at_builtin; go_loud (refine wpList_app8n (OL + (num (NSH)).length + (num (k.size - NSH)).length) _ (by rfl) (.tmp 55) (.tmp 62) (by rfl) 1 T1 _ ((pushes R st0 (l.take kk)).b ++ num (NSH)) (by rfl) HA2.out.1.rs.own (some ⟨gA2, 0, none⟩) _ cA2 (num (k.size - NSH)) (by rfl) rfl (by simp) HA2.out.2 (by have h9 := HPL.out.2; first | omega | (simp only [List.length_append]; omega)) (by have h9 := HPL.out.2; first | omega | (simp only [List.length_append]; omega)) ?_; intro a2 c2 T2 w2 ho2 hg2; have HP2 : Hid (RX w T2 w2 (.slice a2 (OL + (num (NSH)).length + (num (k.size - NSH)).length) c2) (.slice a8 (PL + 1) c8) ((pushes R st0 (l.take kk)).b ++ num (NSH) ++ num (k.size - NSH)) (ps ++ [OL]) wq.heap.size #[.string k, .int .u64 (s : Int), .bool false, .string x]) := HA2.out.1.app ho2 hg2; have b20 : w2.cell? ⟨wq.heap.size, 0, none⟩ = some (.string k) := HP2.out.cell 0; have b22 : w2.cell? ⟨wq.heap.size, 2, none⟩ = some (.bool false) := HP2.out.cell 2; have b23 : w2.cell? ⟨wq.heap.size, 3, none⟩ = some (.string x) := HP2.out.cell 3; clear ho2 hg2 HA2))
          clear HP1 b10 b12 b13
          refine (number_z (2 * s) _ (by omega) _ (by omega)).mono ?_
          rintro e wA3 ⟨gA3, cA3, rfl, hiA3, hbA3⟩
          have HA3 : Hid (RX w T2 wA3 _ _ ((pushes R st0 (l.take kk)).b ++ num (NSH) ++ num (k.size - NSH)) (ps ++ [OL]) wq.heap.size #[.string k, .int .u64 (s : Int), .bool false, .string x] ∧ IsB wA3 (some ⟨gA3, 0, none⟩) (num (2 * s))) := ⟨HP2.out.below hbA3, hiA3⟩
          clear hiA3 hbA3
          go_wp2_with (at_builtin; go_loud (refine wpList_app8n (OL + (num (NSH)).length + (num (k.size - NSH)).length + (num (2 * s)).length) _ (by rfl) (.tmp 64) (.tmp 66) (by rfl) 1 T2 _ ((pushes R st0 (l.take kk)).b ++ num (NSH) ++ num (k.size - NSH)) (by rfl) HA3.out.1.rs.own (some ⟨gA3, 0, none⟩) _ cA3 (num (2 * s)) (by rfl) rfl (by simp) HA3.out.2 (by have h9 := HPL.out.2; first | omega | (simp only [List.length_append]; omega)) (by have h9 := HPL.out.2; first | omega | (simp only [List.length_append]; omega)) ?_; intro a3 c3 T3 w3 ho3 hg3; have HP3 : Hid (RX w T3 w3 (.slice a3 (OL + (num (NSH)).length + (num (k.size - NSH)).length + (num (2 * s)).length) c3) (.slice a8 (PL + 1) c8) ((pushes R st0 (l.take kk)).b ++ num (NSH) ++ num (k.size - NSH) ++ num (2 * s)) (ps ++ [OL]) wq.heap.size #[.string k, .int .u64 (s : Int), .bool false, .string x]) := HA3.out.1.app ho3 hg3; have b30 : w3.cell? ⟨wq.heap.size, 0, none⟩ = some (.string k) := HP3.out.cell 0; have b32 : w3.cell? ⟨wq.heap.size, 2, none⟩ = some (.bool false) := HP3.out.cell 2; have b33 : w3.cell? ⟨wq.heap.size, 3, none⟩ = some (.string x) := HP3.out.cell 3; clear ho3 hg3 HA3))
          clear HP2 b20 b22 b23
          have hNk : NSH ≤ k.size := by omega
          have HLN : Hid (((pushes R st0 (l.take kk)).b ++ num (NSH) ++ num (k.size - NSH) ++ num (2 * s)).length = OL + (num (NSH)).length + (num (k.size - NSH)).length + (num (2 * s)).length) := by show _ = _; have h9 := HPL.out.2; simp only [List.length_append]; omega
          obtain ⟨LB, hLB⟩ : ∃ LB, LB = (pushes R st0 (l.take kk)).b ++ num (NSH) ++ num (k.size - NSH) ++ num (2 * s) := ⟨_, rfl⟩
          obtain ⟨NB, hNB⟩ : ∃ NB, NB = OL + (num (NSH)).length + (num (k.size - NSH)).length + (num (2 * s)).length := ⟨_, rfl⟩
          have HLB : Hid (LB = (pushes R st0 (l.take kk)).b ++ num (NSH) ++ num (k.size - NSH) ++ num (2 * s) ∧ NB = OL + (num (NSH)).length + (num (k.size - NSH)).length + (num (2 * s)).length ∧ LB.length = NB) := ⟨hLB, hNB, by rw [hLB, hNB]; exact HLN.out⟩
          have hNBb : NB ≤ 80000000 := by rw [hNB]; omega
          rw [← hLB, ← hNB] at HP3
          rw [← hNB]
          clear hLB hNB HLN b30 b32 b33
          go_loopw [6, 12] (fun v6 i wZ2 => ∃ (j : Nat) (T' : Nat → Nat) (a' : Option Addr) (c' NJ : Nat), NSH ≤ j ∧ j ≤ k.size ∧ i = .int .i64 (j : Int) ∧ v6 = .slice a' NJ c' ∧ NJ ≤ 80000100 ∧ Hid (NJ = NB + (j - NSH) ∧ RX w T' wZ2 (.slice a' NJ c') (.slice a8 (PL + 1) c8) (LB ++ ((strB k).take j).drop NSH) (ps ++ [OL]) wq.heap.size #[.string k, .int .u64 (s : Int), .bool false, .string x])) (fun _ i _ => k.size - (intOf i).toNat)
          case atStart =>
            refine ⟨NSH, T3, a3, c3, NB, Nat.le_refl _, hNk, by first | rfl | (rw [HNS.out]; rfl), rfl, by omega, by omega, ?_⟩
            have e9 : ((strB k).take NSH).drop NSH = [] := List.drop_eq_nil_of_le (by rw [List.length_take]; omega)
            rw [e9, List.append_nil]
            exact HP3.out
          case round =>
            obtain ⟨j, T', a', c', NJ, hj1, hj2, rfl, rfl, hNJ, HJ⟩ := hrel
            have y0 : wr.cell? ⟨wq.heap.size, 0, none⟩ = some (.string k) := HJ.out.2.cell 0
            have y2 : wr.cell? ⟨wq.heap.size, 2, none⟩ = some (.bool false) := HJ.out.2.cell 2
            have y3 : wr.cell? ⟨wq.heap.size, 3, none⟩ = some (.string x) := HJ.out.2.cell 3
            by_cases hjl : j < k.size
            · have qj : (j : Int) < (k.size : Int) := by omega
              have HGJ : Hid ((strB k)[j]? = some k[j].toNat) := strB_get hjl
              have HTD : Hid (((strB k).take (j + 1)).drop NSH = ((strB k).take j).drop NSH ++ [k[j].toNat]) := take_drop_succ hj1 HGJ.out
              have hby : k[j].toNat < 256 := k[j].toNat_lt
              have HLJ : Hid ((LB ++ ((strB k).take j).drop NSH).length = NJ) := by show _ = _; rw [List.length_append, HLB.out.2.2, List.length_drop, List.length_take, strB_length, HJ.out.1]; omega
              go_wp2_with (at_builtin; go_loud (refine wpList_app8n (NJ + 1) _ (by rfl) (.tmp 76) (.tmp 81) (by rfl) 1 T' _ (LB ++ ((strB k).take j).drop NSH) (by rfl) (HJ.out.2.rs.own.below ((Below.refl _ _).alloc (Nat.le_refl _) _)) (some ⟨wr.heap.size, 0, none⟩) 1 1 [k[j].toNat] (by rfl) rfl (by simp) (isB_new rfl hby) (by rw [HLJ.out]; simp; omega) (by rw [HLJ.out]; rfl) ?_; intro aJ cJ TJ wJ hoJ hgJ; have HJ2 : Hid (RX w TJ wJ (.slice aJ (NJ + 1) cJ) (.slice a8 (PL + 1) c8) (LB ++ ((strB k).take (j + 1)).drop NSH) (ps ++ [OL]) wq.heap.size #[.string k, .int .u64 (s : Int), .bool false, .string x]) := (by rw [HTD.out, ← List.append_assoc]; exact (HJ.out.2.below ((Below.refl _ _).alloc (Nat.le_refl _) _)).app hoJ hgJ); clear hoJ hgJ))
              go_roundw
              case rel => exact ⟨j + 1, TJ, aJ, cJ, NJ + 1, by omega, by omega, by go_num, rfl, by have h9 := HJ.out.1; have h8 := HLB.out.2.2; omega, by have h9 := HJ.out.1; omega, HJ2.out⟩
              case measure => simp [intOf]; omega
            · have hjk : j = k.size := by omega
              subst hjk
              go_wp2_with fail
              refine (words_nil x _ (by have h9 := HX0.out.2.v rfl; simp only at h9; omega)).mono ?_
              rintro e wW ⟨gW, cW, rfl, hiW, hbW⟩
              have HW : Hid (RX w T' wW (.slice a' NJ c') (.slice a8 (PL + 1) c8) (LB ++ ((strB k).take k.size).drop NSH) (ps ++ [OL]) wq.heap.size #[.string k, .int .u64 (s : Int), .bool false, .string x] ∧ IsB wW (some ⟨gW, 0, none⟩) (words (strB x))) := ⟨HJ.out.2.below hbW, hiW⟩
              clear hiW hbW
              have hwl : (words (strB x)).length ≤ 600 := by
                have h9 := HX0.out.2.v rfl
                simp only at h9
                have h8 := num_le10 (show (strB x).length < 18446744073709551616 by rw [strB_length]; omega)
                unfold words
                rw [List.length_append]
                rw [strB_length] at h8 ⊢
                omega
              have HLJ : Hid ((LB ++ ((strB k).take k.size).drop NSH).length = NJ) := by show _ = _; rw [List.length_append, HLB.out.2.2, List.length_drop, List.length_take, strB_length, HJ.out.1]; omega
              go_wp2_with (at_builtin; go_loud (refine wpList_app8n (NJ + (words (strB x)).length) _ (by rfl) (.tmp 86) (.tmp 89) (by rfl) 1 T' _ (LB ++ ((strB k).take k.size).drop NSH) (by rfl) HW.out.1.rs.own (some ⟨gW, 0, none⟩) _ cW (words (strB x)) (by rfl) rfl (by simp) HW.out.2 (by rw [HLJ.out]; omega) (by rw [HLJ.out]) ?_; intro aV cV TV wV hoV hgV; have HV : Hid (RX w TV wV (.slice aV (NJ + (words (strB x)).length) cV) (.slice a8 (PL + 1) c8) (LB ++ ((strB k).take k.size).drop NSH ++ words (strB x)) (ps ++ [OL]) wq.heap.size #[.string k, .int .u64 (s : Int), .bool false, .string x]) := HW.out.1.app hoV hgV; clear hoV hgV HW))
              go_roundw
              case rel =>
                have hf := body_z (o := (LB ++ ((strB k).take k.size).drop NSH ++ words (strB x))) HX0.out.1 hz HPL.out.2 HPS.out (by rw [← ent_eq _ k s false x 0 (2 * s) (by unfold tag; simp), HLB.out.1, HNS.out]; simp) HV.out.rs
                rw [HPL.out.1] at hf
                exact ⟨kk + 1, TV, (ps ++ [OL]), by omega, by go_num, hf⟩
              case measure => simp [intOf]; omega

        · have hzz : ((kk : Int) % (R : Int) == 0) = false := by rw [beq_eq_false_iff_ne]; omega
          have hkp : 0 < kk := by rcases Nat.eq_zero_or_pos kk with h | h; · rw [h] at hz; simp at hz
                                  · exact h
          obtain ⟨m, hm1⟩ : ∃ m, kk = m + 1 := ⟨kk - 1, by omega⟩
          obtain ⟨pk, pq, pd, pv, hpx⟩ : ∃ pk pq pd pv, l[m]? = some (pk, pq, pd, pv) := ⟨_, _, _, _, List.getElem?_eq_getElem (by rw [← HN.out]; omega)⟩
          have p0 := (HROW.out.2 m _ hpx).1
          have hpk : pk.size ≤ 64 := (HOK.out _ (List.mem_of_getElem? hpx)).1.k2
          have HNS2 : Hid (shr (strB (pushes R st0 (l.take kk)).last) (strB k) = shr (strB pk) (strB k)) := by
            show _ = _
            rw [pushes_lastK, hm1, take_snoc hpx, lastK_snoc]
          obtain ⟨NSH, hNSH⟩ : ∃ NSH, NSH = shr (strB pk) (strB k) := ⟨_, rfl⟩
          rw [← hNSH] at HNS2
          have hNSk : NSH ≤ k.size := by rw [hNSH, ← strB_length]; exact shr_le_right _ _
          have HSB : Hid (∀ W z, Calls Tryz.prog 67 #[.string pk, .string k] (World.drewN W z) fun e w' => e = .returned (.int .i64 (NSH : Int)) ∧ ∃ q, w' = W.drewN q) := fun W z => by
            rw [hNSH]
            exact (refShared_any pk k _ (by omega) (by omega)).mono (fun e w' h => ⟨h.1, by obtain ⟨n, h2⟩ := h.2; exact ⟨z + n, by rw [h2, World.drewN_drewN]⟩⟩)
          have HNS : Hid (NSH = NSH) := rfl
          have qm : (m : Int) < (n : Int) := by omega
          have qm0 : (0 : Int) ≤ (m : Int) := by omega
          have qmw2 : IntKind.i64.wrap ((kk : Int) - 1) = (m : Int) := by rw [IntKind.wrap_i64]; omega
          have qmw3 : (kk : Int) - 1 = (m : Int) := by omega
          have qmN : m < n := by omega
          have p0' : (wq.alloc (.cells #[.string k, .int .u64 (s : Int), .bool false, .string x] 54)).cell? ⟨b, off + m * 4, none⟩ = some (.string pk) := past HROW.out.1 p0
          clear hNSH hpx p0 hm1
          go_wp2
          have x0 := HX1.out.cell 0
          have x1 := HX1.out.cell 1
          have x2 := HX1.out.cell 2
          generalize (wq.alloc (.cells #[.string k, .int .u64 (s : Int), .bool false, .string x] 54)) = W1 at *
          have y0' : W1.cell? ⟨wq.heap.size, 0, none⟩ = some (.string k) := x0
          have HSB1 : Hid (∀ z, Calls Tryz.prog 67 #[.string pk, .string k] (W1.drewN z) fun e w' => e = .returned (.int .i64 (NSH : Int)) ∧ ∃ q, w' = W1.drewN q) := fun z => HSB.out W1 z
          clear x0
          go_quiet ((go_at_call 67; exact (HSB1.out _)))
          have HX : Hid (RX w T (W1.drewN nq) (.slice a6 OL c6) (.slice a7 PL c7) (pushes R st0 (l.take kk)).b ps wq.heap.size #[.string k, .int .u64 (s : Int), .bool false, .string x]) := HX1.out.below (below_drewN (Below.refl _ _) _)
          clear HSB HSB1 HX1 y0' p0' x1 x2
          generalize W1.drewN nq = WX at *
          have b80 : WX.cell? ⟨wq.heap.size, 0, none⟩ = some (.string k) := HX.out.cell 0
          have b81 : WX.cell? ⟨wq.heap.size, 1, none⟩ = some (.int .u64 (s : Int)) := HX.out.cell 1
          have b82 : WX.cell? ⟨wq.heap.size, 2, none⟩ = some (.bool false) := HX.out.cell 2
          go_wp2_with fail
          have nA1 := num_le10 (show NSH < 18446744073709551616 by omega)
          have nA2 := num_le10 (show k.size - NSH < 18446744073709551616 by omega)
          have nA3 := num_le10 (show 2 * s < 18446744073709551616 by omega)
          refine (number_z (NSH) _ (by rfl) _ (by omega)).mono ?_
          rintro e wA1 ⟨gA1, cA1, rfl, hiA1, hbA1⟩
          have HA1 : Hid (RX w T wA1 _ _ ((pushes R st0 (l.take kk)).b) ps wq.heap.size #[.string k, .int .u64 (s : Int), .bool false, .string x] ∧ IsB wA1 (some ⟨gA1, 0, none⟩) (num (NSH))) := ⟨HX.out.below hbA1, hiA1⟩
          clear hiA1 hbA1
          go_wp2_with (at_builtin; go_loud (refine wpList_app8n (OL + (num (NSH)).length) _ (by rfl) (.tmp 50) (.tmp 53) (by rfl) 1 T _ ((pushes R st0 (l.take kk)).b) (by rfl) HA1.out.1.rs.own (some ⟨gA1, 0, none⟩) _ cA1 (num (NSH)) (by rfl) rfl (by simp) HA1.out.2 (by have h9 := HPL.out.2; first | omega | (simp only [List.length_append]; omega)) (by have h9 := HPL.out.2; first | omega | (simp only [List.length_append]; omega)) ?_; intro a1 c1 T1 w1 ho1 hg1; have HP1 : Hid (RX w T1 w1 (.slice a1 (OL + (num (NSH)).length) c1) (.slice a7 PL c7) ((pushes R st0 (l.take kk)).b ++ num (NSH)) ps wq.heap.size #[.string k, .int .u64 (s : Int), .bool false, .string x]) := HA1.out.1.app ho1 hg1; have b10 : w1.cell? ⟨wq.heap.size, 0, none⟩ = some (.string k) := HP1.out.cell 0; have b12 : w1.cell? ⟨wq.heap.size, 2, none⟩ = some (.bool false) := HP1.out.cell 2; have b13 : w1.cell? ⟨wq.heap.size, 3, none⟩ = some (.string x) := HP1.out.cell 3; clear ho1 hg1 HA1))
          clear HX
          refine (number_z (k.size - NSH) _ (by have h9 := HNS.out; omega) _ (by omega)).mono ?_
          rintro e wA2 ⟨gA2, cA2, rfl, hiA2, hbA2⟩
          have HA2 : Hid (RX w T1 wA2 _ _ ((pushes R st0 (l.take kk)).b ++ num (NSH)) ps wq.heap.size #[.string k, .int .u64 (s : Int), .bool false, .string x] ∧ IsB wA2 (some ⟨gA2, 0, none⟩) (num (k.size - NSH))) := ⟨HP1.out.below hbA2, hiA2⟩
          clear hiA2 hbA2
          go_wp2_with (at_builtin; go_loud (refine wpList_app8n (OL + (num (NSH)).length + (num (k.size - NSH)).length) _ (by rfl) (.tmp 55) (.tmp 62) (by rfl) 1 T1 _ ((pushes R st0 (l.take kk)).b ++ num (NSH)) (by rfl) HA2.out.1.rs.own (some ⟨gA2, 0, none⟩) _ cA2 (num (k.size - NSH)) (by rfl) rfl (by simp) HA2.out.2 (by have h9 := HPL.out.2; first | omega | (simp only [List.length_append]; omega)) (by have h9 := HPL.out.2; first | omega | (simp only [List.length_append]; omega)) ?_; intro a2 c2 T2 w2 ho2 hg2; have HP2 : Hid (RX w T2 w2 (.slice a2 (OL + (num (NSH)).length + (num (k.size - NSH)).length) c2) (.slice a7 PL c7) ((pushes R st0 (l.take kk)).b ++ num (NSH) ++ num (k.size - NSH)) ps wq.heap.size #[.string k, .int .u64 (s : Int), .bool false, .string x]) := HA2.out.1.app ho2 hg2; have b20 : w2.cell? ⟨wq.heap.size, 0, none⟩ = some (.string k) := HP2.out.cell 0; have b22 : w2.cell? ⟨wq.heap.size, 2, none⟩ = some (.bool false) := HP2.out.cell 2; have b23 : w2.cell? ⟨wq.heap.size, 3, none⟩ = some (.string x) := HP2.out.cell 3; clear ho2 hg2 HA2))
          clear HP1 b10 b12 b13
          refine (number_z (2 * s) _ (by omega) _ (by omega)).mono ?_
          rintro e wA3 ⟨gA3, cA3, rfl, hiA3, hbA3⟩
          have HA3 : Hid (RX w T2 wA3 _ _ ((pushes R st0 (l.take kk)).b ++ num (NSH) ++ num (k.size - NSH)) ps wq.heap.size #[.string k, .int .u64 (s : Int), .bool false, .string x] ∧ IsB wA3 (some ⟨gA3, 0, none⟩) (num (2 * s))) := ⟨HP2.out.below hbA3, hiA3⟩
          clear hiA3 hbA3
          go_wp2_with (at_builtin; go_loud (refine wpList_app8n (OL + (num (NSH)).length + (num (k.size - NSH)).length + (num (2 * s)).length) _ (by rfl) (.tmp 64) (.tmp 66) (by rfl) 1 T2 _ ((pushes R st0 (l.take kk)).b ++ num (NSH) ++ num (k.size - NSH)) (by rfl) HA3.out.1.rs.own (some ⟨gA3, 0, none⟩) _ cA3 (num (2 * s)) (by rfl) rfl (by simp) HA3.out.2 (by have h9 := HPL.out.2; first | omega | (simp only [List.length_append]; omega)) (by have h9 := HPL.out.2; first | omega | (simp only [List.length_append]; omega)) ?_; intro a3 c3 T3 w3 ho3 hg3; have HP3 : Hid (RX w T3 w3 (.slice a3 (OL + (num (NSH)).length + (num (k.size - NSH)).length + (num (2 * s)).length) c3) (.slice a7 PL c7) ((pushes R st0 (l.take kk)).b ++ num (NSH) ++ num (k.size - NSH) ++ num (2 * s)) ps wq.heap.size #[.string k, .int .u64 (s : Int), .bool false, .string x]) := HA3.out.1.app ho3 hg3; have b30 : w3.cell? ⟨wq.heap.size, 0, none⟩ = some (.string k) := HP3.out.cell 0; have b32 : w3.cell? ⟨wq.heap.size, 2, none⟩ = some (.bool false) := HP3.out.cell 2; have b33 : w3.cell? ⟨wq.heap.size, 3, none⟩ = some (.string x) := HP3.out.cell 3; clear ho3 hg3 HA3))
          clear HP2 b20 b22 b23
          have hNk : NSH ≤ k.size := by omega
          have HLN : Hid (((pushes R st0 (l.take kk)).b ++ num (NSH) ++ num (k.size - NSH) ++ num (2 * s)).length = OL + (num (NSH)).length + (num (k.size - NSH)).length + (num (2 * s)).length) := by show _ = _; have h9 := HPL.out.2; simp only [List.length_append]; omega
          obtain ⟨LB, hLB⟩ : ∃ LB, LB = (pushes R st0 (l.take kk)).b ++ num (NSH) ++ num (k.size - NSH) ++ num (2 * s) := ⟨_, rfl⟩
          obtain ⟨NB, hNB⟩ : ∃ NB, NB = OL + (num (NSH)).length + (num (k.size - NSH)).length + (num (2 * s)).length := ⟨_, rfl⟩
          have HLB : Hid (LB = (pushes R st0 (l.take kk)).b ++ num (NSH) ++ num (k.size - NSH) ++ num (2 * s) ∧ NB = OL + (num (NSH)).length + (num (k.size - NSH)).length + (num (2 * s)).length ∧ LB.length = NB) := ⟨hLB, hNB, by rw [hLB, hNB]; exact HLN.out⟩
          have hNBb : NB ≤ 80000000 := by rw [hNB]; omega
          rw [← hLB, ← hNB] at HP3
          rw [← hNB]
          clear hLB hNB HLN b30 b32 b33
          go_loopw [6, 12] (fun v6 i wZ2 => ∃ (j : Nat) (T' : Nat → Nat) (a' : Option Addr) (c' NJ : Nat), NSH ≤ j ∧ j ≤ k.size ∧ i = .int .i64 (j : Int) ∧ v6 = .slice a' NJ c' ∧ NJ ≤ 80000100 ∧ Hid (NJ = NB + (j - NSH) ∧ RX w T' wZ2 (.slice a' NJ c') (.slice a7 PL c7) (LB ++ ((strB k).take j).drop NSH) ps wq.heap.size #[.string k, .int .u64 (s : Int), .bool false, .string x])) (fun _ i _ => k.size - (intOf i).toNat)
          case atStart =>
            refine ⟨NSH, T3, a3, c3, NB, Nat.le_refl _, hNk, by first | rfl | (rw [HNS.out]; rfl), rfl, by omega, by omega, ?_⟩
            have e9 : ((strB k).take NSH).drop NSH = [] := List.drop_eq_nil_of_le (by rw [List.length_take]; omega)
            rw [e9, List.append_nil]
            exact HP3.out
          case round =>
            obtain ⟨j, T', a', c', NJ, hj1, hj2, rfl, rfl, hNJ, HJ⟩ := hrel
            have y0 : wr.cell? ⟨wq.heap.size, 0, none⟩ = some (.string k) := HJ.out.2.cell 0
            have y2 : wr.cell? ⟨wq.heap.size, 2, none⟩ = some (.bool false) := HJ.out.2.cell 2
            have y3 : wr.cell? ⟨wq.heap.size, 3, none⟩ = some (.string x) := HJ.out.2.cell 3
            by_cases hjl : j < k.size
            · have qj : (j : Int) < (k.size : Int) := by omega
              have HGJ : Hid ((strB k)[j]? = some k[j].toNat) := strB_get hjl
              have HTD : Hid (((strB k).take (j + 1)).drop NSH = ((strB k).take j).drop NSH ++ [k[j].toNat]) := take_drop_succ hj1 HGJ.out
              have hby : k[j].toNat < 256 := k[j].toNat_lt
              have HLJ : Hid ((LB ++ ((strB k).take j).drop NSH).length = NJ) := by show _ = _; rw [List.length_append, HLB.out.2.2, List.length_drop, List.length_take, strB_length, HJ.out.1]; omega
              go_wp2_with (at_builtin; go_loud (refine wpList_app8n (NJ + 1) _ (by rfl) (.tmp 76) (.tmp 81) (by rfl) 1 T' _ (LB ++ ((strB k).take j).drop NSH) (by rfl) (HJ.out.2.rs.own.below ((Below.refl _ _).alloc (Nat.le_refl _) _)) (some ⟨wr.heap.size, 0, none⟩) 1 1 [k[j].toNat] (by rfl) rfl (by simp) (isB_new rfl hby) (by rw [HLJ.out]; simp; omega) (by rw [HLJ.out]; rfl) ?_; intro aJ cJ TJ wJ hoJ hgJ; have HJ2 : Hid (RX w TJ wJ (.slice aJ (NJ + 1) cJ) (.slice a7 PL c7) (LB ++ ((strB k).take (j + 1)).drop NSH) ps wq.heap.size #[.string k, .int .u64 (s : Int), .bool false, .string x]) := (by rw [HTD.out, ← List.append_assoc]; exact (HJ.out.2.below ((Below.refl _ _).alloc (Nat.le_refl _) _)).app hoJ hgJ); clear hoJ hgJ))
              go_roundw
              case rel => exact ⟨j + 1, TJ, aJ, cJ, NJ + 1, by omega, by omega, by go_num, rfl, by have h9 := HJ.out.1; have h8 := HLB.out.2.2; omega, by have h9 := HJ.out.1; omega, HJ2.out⟩
              case measure => simp [intOf]; omega
            · have hjk : j = k.size := by omega
              subst hjk
              go_wp2_with fail
              refine (words_nil x _ (by have h9 := HX0.out.2.v rfl; simp only at h9; omega)).mono ?_
              rintro e wW ⟨gW, cW, rfl, hiW, hbW⟩
              have HW : Hid (RX w T' wW (.slice a' NJ c') (.slice a7 PL c7) (LB ++ ((strB k).take k.size).drop NSH) ps wq.heap.size #[.string k, .int .u64 (s : Int), .bool false, .string x] ∧ IsB wW (some ⟨gW, 0, none⟩) (words (strB x))) := ⟨HJ.out.2.below hbW, hiW⟩
              clear hiW hbW
              have hwl : (words (strB x)).length ≤ 600 := by
                have h9 := HX0.out.2.v rfl
                simp only at h9
                have h8 := num_le10 (show (strB x).length < 18446744073709551616 by rw [strB_length]; omega)
                unfold words
                rw [List.length_append]
                rw [strB_length] at h8 ⊢
                omega
              have HLJ : Hid ((LB ++ ((strB k).take k.size).drop NSH).length = NJ) := by show _ = _; rw [List.length_append, HLB.out.2.2, List.length_drop, List.length_take, strB_length, HJ.out.1]; omega
              go_wp2_with (at_builtin; go_loud (refine wpList_app8n (NJ + (words (strB x)).length) _ (by rfl) (.tmp 86) (.tmp 89) (by rfl) 1 T' _ (LB ++ ((strB k).take k.size).drop NSH) (by rfl) HW.out.1.rs.own (some ⟨gW, 0, none⟩) _ cW (words (strB x)) (by rfl) rfl (by simp) HW.out.2 (by rw [HLJ.out]; omega) (by rw [HLJ.out]) ?_; intro aV cV TV wV hoV hgV; have HV : Hid (RX w TV wV (.slice aV (NJ + (words (strB x)).length) cV) (.slice a7 PL c7) (LB ++ ((strB k).take k.size).drop NSH ++ words (strB x)) ps wq.heap.size #[.string k, .int .u64 (s : Int), .bool false, .string x]) := HW.out.1.app hoV hgV; clear hoV hgV HW))
              go_roundw
              case rel =>
                have hf := body_nz (o := (LB ++ ((strB k).take k.size).drop NSH ++ words (strB x))) HX0.out.1 hz HPS.out HNS2.out (by rw [← ent_eq _ k s false x NSH (2 * s) (by unfold tag; simp), HLB.out.1]; simp) HV.out.rs
                skip
                exact ⟨kk + 1, TV, ps, by omega, by go_num, hf⟩
              case measure => simp [intOf]; omega

    · have HF : Hid (l.take kk = l) := List.take_of_length_le (by rw [← HN.out]; omega)
      rw [HF.out] at HS
      obtain ⟨a6, c6, e6, _⟩ := HS.out.1.own.form
      obtain ⟨a7, c7, e7, _⟩ := HS.out.1.pl.form
      subst e6
      subst e7
      go_wp2
      go_ret2
      exact ⟨a6, _, c6, a7, _, c7, T, ps, rfl, HS.out.1, HS.out.2.1, HS.out.2.2.1⟩
end Qb
end Go.Proofs.YtjnmklbhhlfhcaaGreatDoor
