import Derived.Test.YtkebbmdghnplmaaDoorQs7
import Derived.Test.YtkebbmdghnplmaaDoorQr6
import Derived.Deep.Cut
namespace Go.Proofs.YtkebbmdghnplmaaDoor
namespace Qb
open Go.RowKit CMath Byt Laws Irw Crw Cod
set_option linter.unusedVariables false
set_option linter.unusedSimpArgs false
set_option maxRecDepth 100000

theorem nOf_lt {b : List Nat} (h8 : 8 ≤ b.length) (hb : ∀ x ∈ b, x < 256) : nOf b < 4294967296 := by
  unfold nOf
  have h4 : ((b.drop (b.length - 8)).take 4).length = 4 := by simp; omega
  have hB : ∀ x ∈ (b.drop (b.length - 8)).take 4, x < 256 := fun x hx => hb x (List.mem_of_mem_drop (List.mem_of_mem_take hx))
  generalize (b.drop (b.length - 8)).take 4 = t at *
  match t, h4, hB with
  | [p, q, r, s], _, hB =>
    have h1 := hB p (by simp)
    have h2 := hB q (by simp)
    have h3 := hB r (by simp)
    have h4 := hB s (by simp)
    simp [val]
    omega
theorem DW.new {w : World} {l : List En} {a : Option Addr} {n c : Nat} {T : Nat → Nat} {W : World} (h : DW w l (.slice a n c) T W) (hne : l ≠ []) : ∃ g o, a = some ⟨g, o, none⟩ ∧ w.heap.size ≤ g := by
  rcases h.ow.1.2 with ⟨h1, h2⟩ | ⟨g, cap, cur, hv, hb, hh, hr⟩
  · exact absurd (List.eq_nil_of_length_eq_zero h2) hne
  · simp only [Value.slice.injEq] at hv
    refine ⟨g, 0, hv.1, Nat.le_of_not_lt fun hg => ?_⟩
    have h1 := h.fr g hg
    have h2 := h.ow.2 g (by rw [hv.1]; rfl)
    omega
set_option maxHeartbeats 4000000 in
theorem refOpen_any (a : Option Addr) (cap n : Nat) (l : List Nat) (w : World) (h : IsB w a l) (hn : n = l.length) (hcap : n ≤ cap) (hmx : cap ≤ 9223372036854775807) (hl : n ≤ 200000) :
    Calls Tryd.prog 14 #[.slice a n cap] w fun e w' => DocIs w l e w' := by
  obtain ⟨i0, hi0, hz0, hz1, hz2⟩ := info_parts Erw.infoE
  by_cases h8 : n < 8
  · have q1 : (n : Int) < 8 := by omega
    have HO : Hid (opn l = none) := opn_short (by omega)
    clear h hn hcap hmx hl
    go_enter Tryd.func14, Tryd.ntmps14
    go_wp2
    go_ret2
    exact ⟨Below.refl _ _, .inl ⟨HO.out, _, rfl⟩⟩
  · obtain ⟨bb, bo, rfl, hr⟩ := h.1 (by rintro rfl; simp at hn; omega)
    obtain ⟨m, rfl⟩ : ∃ m, n = m + 8 := ⟨n - 8, by omega⟩
    have hNl := nOf_lt (b := l) (by omega) h.2
    have hnum : ∀ W, Below w.heap.size w W → Calls Tryd.prog 40 #[.slice (some ⟨bb, bo + m, none⟩) 8 (cap - m)] W fun e w' => e = .returned (.int .i64 ((nOf l : Nat) : Int)) ∧ Below W.heap.size W w' := fun W hW =>
      (refNumber_any bb (bo + m) 8 (cap - m) (l.drop m) W (isB_dr (h.below hW) m) (by simp; omega) (by simp; omega) (by simp; omega)).mono fun e w' ⟨h1, q, h2⟩ => ⟨by rw [h1]; unfold nOf; rw [show l.length - 8 = m by omega], by rw [h2]; exact below_drewN (Below.refl _ _) _⟩
    have HI : Hid (IsB w (some ⟨bb, bo, none⟩) l ∧ m + 8 = l.length ∧ bb < w.heap.size) := ⟨h, hn, hr.1⟩
    have HNU : Hid (∀ W, Below w.heap.size w W → Calls Tryd.prog 40 #[.slice (some ⟨bb, bo + m, none⟩) 8 (cap - m)] W fun e w' => e = .returned (.int .i64 ((nOf l : Nat) : Int)) ∧ Below W.heap.size W w') := hnum
    obtain ⟨Nn, hN⟩ : ∃ N, nOf l = N := ⟨_, rfl⟩
    have HN : Hid (nOf l = Nn) := hN
    rw [hN] at hNl HNU
    have t1 : m < cap := by omega
    clear h hn hr hN hnum h8
    go_enter Tryd.func14, Tryd.ntmps14
    go_upto_region 4 with (go_at_call 40; go_loud (refine (HNU.out _ (Below.refl _ _)).mono ?_; rintro e w2 ⟨rfl, hw2⟩; have HB2 : Hid (Below w.heap.size w w2) := hw2; clear hw2))
    go_upto_region 5 with (fail)
    by_cases h4 : m < 4 * Nn
    · have HO : Hid (opn l = none) := opn_many (by have := HI.out.2.1; omega) (by rw [HN.out]; have := HI.out.2.1; omega)
      have q3 : (m : Int) - 4 * (Nn : Int) < 0 := by omega
      by_cases hgt : m + 8 < Nn
      · have q2 : (m : Int) + 8 < (Nn : Int) := by omega
        go_wp2
        go_ret2
        exact ⟨HB2.out, .inl ⟨HO.out, _, rfl⟩⟩
      · have q2 : (Nn : Int) ≤ (m : Int) + 8 := by omega
        go_wp2
        go_ret2
        exact ⟨HB2.out, .inl ⟨HO.out, _, rfl⟩⟩
    · obtain ⟨P, hP⟩ : ∃ P, m = P + 4 * Nn := ⟨m - 4 * Nn, by omega⟩
      have e : (m : Int) - 4 * (Nn : Int) = (P : Int) := by omega
      rw [e]
      have hP1 : P + 4 * Nn ≤ m := by omega
      have hP2 : m ≤ P + 4 * Nn := by omega
      clear e h4 hP
      have q2 : (Nn : Int) ≤ (m : Int) + 8 := by omega
      have HPO : Hid (pOf l = P) := by show pOf l = P; unfold pOf; rw [HN.out]; have := HI.out.2.1; omega
      have HPL : Hid (pOf l ≤ l.length) := by show pOf l ≤ _; rw [HPO.out]; have := HI.out.2.1; omega
      obtain ⟨V, hV⟩ : ∃ V, vOf l = V := ⟨_, rfl⟩
      have HV : Hid (vOf l = V) := hV
      have HNV : Hid (2 ≤ Nn → ∀ W n', n' = m + 8 - (P + 4) → Below w.heap.size w W → Calls Tryd.prog 40 #[.slice (some ⟨bb, bo + (P + 4), none⟩) n' (cap - (P + 4))] W fun e w' => e = .returned (.int .i64 ((V : Nat) : Int)) ∧ Below W.heap.size W w') := fun h2 W n' hn' hW =>
        (refNumber_any bb (bo + (P + 4)) n' _ (l.drop (P + 4)) W (isB_dr (HI.out.1.below hW) _) (by simp; have := HI.out.2.1; omega) (by simp; have := HI.out.2.1; omega) (by simp; have := HI.out.2.1; omega)).mono fun e w' ⟨h1, q, h2⟩ => ⟨by rw [h1, ← hV]; unfold vOf; rw [HPO.out], by rw [h2]; exact below_drewN (Below.refl _ _) _⟩
      clear hV
      go_wp2
      go_loopw [6, 7, 8, 9] (fun v6 v7 v8 v9 wr => ∃ (aa : Option Addr) (N cc s p : Nat) (ky : ByteArray), v6 = .slice aa N cc ∧ v7 = .string ky ∧ v8 = .int .i64 (s : Int) ∧ v9 = .int .i64 (p : Int) ∧ p ≤ P ∧ 3 * N ≤ p ∧ s ≤ N ∧ ky.size ≤ 64 ∧ Hid (∃ z T, N = z.length ∧ DS w l z ky s p ∧ DW w (z.map Prod.fst) (.slice aa N cc) T wr)) (fun _ _ _ v9 _ => P - (intOf v9).toNat)
      case atStart => exact ⟨none, 0, 0, 0, 0, ⟨#[]⟩, rfl, rfl, rfl, rfl, Nat.zero_le _, Nat.zero_le _, Nat.le_refl _, by decide, [], fun _ => 0, rfl, ⟨rfl, by rw [List.drop_zero]; rfl, trivial, rfl, by simp, fun _ => Sec.nil _, by simp⟩, ⟨Erw.OwnE.empty _ _ _, HB2.out, fun _ _ => rfl, fun _ _ => rfl⟩⟩
      case round =>
        have hrel0 := hrel
        obtain ⟨aa, N, cc, s, p, ky, rfl, rfl, rfl, rfl, hpP, h3N, hsN, hky, HK⟩ := hrel
        rename World => wr
        obtain ⟨z, T, hNz, hds, hdw⟩ := HK.out
        have HDS : Hid (DS w l z ky s p ∧ N = z.length) := ⟨hds, hNz⟩
        have HDW : Hid (DW w (z.map Prod.fst) (.slice aa N cc) T wr) := hdw
        by_cases hlt : p < P
        · have q1 : (p : Int) < (P : Int) := by omega
          have hSN : (2 ≤ Nn → 0 < p → p ≠ V) → 2 ≤ nOf l → ∀ x, Sec (vOf l) (z ++ [x]) s := fun hc h2 x => (hds.sc h2).on x (by
            rintro ⟨h1, h9⟩
            rw [hds.sm, HV.out] at h9
            have : 0 < z.length := List.length_pos_iff.2 h1
            exact hc (by rw [← HN.out]; exact h2) (by omega) h9)
          have hSH : 0 < p → p = V → 2 ≤ nOf l → ∀ x, Sec (vOf l) (z ++ [x]) N := fun h0 hv _ x => by
            rw [hNz]
            refine Sec.hit x ?_ (by rw [hds.sm, HV.out]; exact hv)
            rintro rfl
            have := hds.sm
            simp [sumS] at this
            omega
          clear hds hdw hNz HK hrel0
          by_cases h2 : 2 ≤ Nn
          · have g2 : (2 : Int) ≤ (Nn : Int) := by omega
            by_cases hp0 : 0 < p
            · have g3 : (0 : Int) < (p : Int) := by omega
              have r1 : P + 4 < cap := by omega
              have r2 : (P : Int) + 4 ≤ (m : Int) + 8 := by omega
              by_cases hv : p = V
              · have HSEC : Hid (2 ≤ nOf l → ∀ x, Sec (vOf l) (z ++ [x]) N) := hSH hp0 hv
                subst hv
                clear hSN hSH
                go_upto_region 14 with (go_at_call 40; go_loud (refine (HNV.out h2 _ _ (by omega) HDW.out.bl).mono ?_; rintro e w3 ⟨rfl, hw3⟩; have HB3 : Hid (Below wr.heap.size wr w3) := hw3; clear hw3))
                have HDW3 : Hid (DW w (z.map Prod.fst) (.slice aa N cc) T w3) := HDW.out.below HB3.out
                have HEN : Hid (Calls Tryd.prog 41 #[.slice (some ⟨bb, bo + p, none⟩) (P - p) (cap - p), .string ky] w3 fun e w' => e = .returned (enV (rdF ((eOf l).drop p) (strB ky))) ∧ Below w3.heap.size w3 w') := entry_any bb (bo + p) (cap - p) (P - p) ((eOf l).drop p) ky w3 (isB_dr (slice_take (HI.out.1.below HDW3.out.bl) (pOf l)) p) (Nat.lt_of_lt_of_le HI.out.2.2 HDW3.out.bl.size) (by simp only [eOf, List.length_drop, List.length_take, HPO.out]; have := HI.out.2.1; omega) (by omega) (by omega) (by omega) (by omega)
                have v1 : p < cap := by omega
                have v2 : (P : Int) ≤ (cap : Int) := by omega
                have v3 : p ≤ P := by omega
                cases hrd : rdF ((eOf l).drop p) (strB ky) with
                | none =>
                  have HO : Hid (opn l = none) := HDS.out.1.none (by have := HI.out.2.1; omega) (by rw [HPO.out]; exact hlt) hrd
                  rw [hrd] at HEN
                  unfold enV at HEN
                  clear hrd
                  go_wp2_with (go_at_call 41; go_loud (refine HEN.out.mono ?_; rintro e w4 ⟨rfl, hb4⟩; have HB4 : Hid (Below w.heap.size w w4) := HDW3.out.bl.trans (hb4.mono HDW3.out.bl.size); clear hb4))
                  go_ret2
                  exact ⟨HB4.out.alloc HB4.out.size _, .inl ⟨HO.out, _, rfl⟩⟩
                | some x =>
                  obtain ⟨⟨xk, xs, xd, xv⟩, xn⟩ := x
                  have hsz := rdF_sz (b := (eOf l).drop p) (fun y hy => HI.out.1.2 y (List.mem_of_mem_take (List.mem_of_mem_drop hy))) hrd
                  have hel : ((eOf l).drop p).length = P - p := by simp only [eOf, List.length_drop, List.length_take, HPO.out]; have := HI.out.2.1; omega
                  rw [hel, strB_length] at hsz
                  dsimp only at hsz
                  obtain ⟨y1, y2, y3, y4, y5⟩ := hsz
                  have HRD : Hid (rdF ((eOf l).drop p) (strB ky) = some ((xk, xs, xd, xv), xn)) := hrd
                  have HAD : Hid (∀ W, Below w3.heap.size w3 W → Calls Tryd.prog 8 #[.slice aa N cc, .agg #[.string xk, .int .u64 xs, .bool xd, .string xv]] W fun e w' => e = .returned (.int .i64 (adds ky (xk, xs, xd, xv))) ∧ Below W.heap.size W w') := fun W hW => by
                    obtain ⟨a2, c2, e2, hi2, _⟩ := HDW3.out.ow.form
                    simp only [Value.slice.injEq] at e2
                    obtain ⟨rfl, _, rfl⟩ := e2
                    have h9 := refAdds_any aa cc N (z.map Prod.fst) xk xs xd xv W (hi2.below hW) (by rw [List.length_map]; exact HDS.out.2) (by omega) (by omega) (by omega) (by rw [lastK_E2, ← HDS.out.1.ky]; omega)
                    rw [lastK_E2, ← HDS.out.1.ky] at h9
                    exact h9
                  rw [hrd] at HEN
                  unfold enV at HEN
                  obtain ⟨ad, had⟩ : ∃ ad, adds ky (xk, xs, xd, xv) = ad := ⟨_, rfl⟩
                  rw [had] at HAD
                  have HA9 : Hid (adds (lastE ⟨#[]⟩ (z.map Prod.fst)) (xk, xs, xd, xv) = ad) := by show _ = _; rw [← HDS.out.1.ky]; exact had
                  have y6 : (3 : Int) ≤ (xn : Int) := by omega
                  dsimp only at HEN
                  clear hrd hel had
                  by_cases h0 : ad = 0
                  · subst h0
                    have hk64 : xk.size ≤ 64 := (fault_ok (adds_ok HA9.out).1).k2
                    go_wp2_with (first
                      | (go_at_call 41; go_loud (refine HEN.out.mono ?_; rintro e w4 ⟨rfl, hb4⟩; have HB4 : Hid (Below w3.heap.size w3 w4) := hb4; clear hb4))
                      | (go_at_call 8; go_loud (refine (HAD.out _ (HB4.out.alloc HB4.out.size _)).mono ?_; rintro e w5 ⟨rfl, hb5⟩; have HB5 : Hid (Below w3.heap.size w3 w5) := (HB4.out.alloc HB4.out.size _).trans (hb5.mono (HB4.out.alloc HB4.out.size _).size); have g5 := (hb5.block w4.heap.size (by simp)).trans (World.alloc_heap_new w4 _); have HL5 : Hid (w4.heap.size < w5.heap.size) := Nat.lt_of_lt_of_le (by simp) hb5.size; have e0 : w5.cell? ⟨w4.heap.size, 0, none⟩ = some (.string xk) := (by rw [cell_of_obj g5]; rfl); have e1 : w5.cell? ⟨w4.heap.size, 1, none⟩ = some (.int .u64 xs) := (by rw [cell_of_obj g5]; rfl); have e2 : w5.cell? ⟨w4.heap.size, 2, none⟩ = some (.bool xd) := (by rw [cell_of_obj g5]; rfl); have e3 : w5.cell? ⟨w4.heap.size, 3, none⟩ = some (.string xv) := (by rw [cell_of_obj g5]; rfl); have HDW5 : Hid (DW w (z.map Prod.fst) (.slice aa N cc) T w5) := HDW3.out.below HB5.out; clear hb5 g5))
                      | (at_builtin; go_loud (refine Erw.wpList_appE _ (by rfl) (.tmp 77) (.tmp 79) 25 (by rfl) i0 Tryd.underlying25 hi0 hz0 hz1 hz2 7 T (.slice aa N cc) (z.map Prod.fst) (by rfl) (HDW5.out.ow.below ((Below.refl _ _).alloc (Nat.le_refl _) _)) (some ⟨w5.heap.size, 0, none⟩) 1 1 [(xk, xs, xd, xv)] (by rfl) (by rfl) (by simp) isE_new10 (by have := HDS.out.2; simp; omega) ?_; intro a9 c9 T9 w9 hown9 hgo9 _; have hg29 : Goes (· = 7) T w5 T9 w9 := (Goes.below ((Below.refl _ _).alloc (Nat.le_refl _) _)).trans hgo9; have HS9 : Hid (DW w (z.map Prod.fst ++ [(xk, xs, xd, xv)]) (.slice a9 ((z.map Prod.fst).length + 1) c9) T9 w9) := DW.next HDW5.out hg29 hown9; have f0 := (box_goes hg29 HL5.out (by rw [HDW3.out.hi _ HB4.out.size]; omega) 0).trans e0; simp only [List.length_cons, List.length_nil, Nat.zero_add]; clear hown9 hgo9 hg29 e0 e1 e2 e3)))
                    go_roundw
                    case rel => exact ⟨a9, z.length + 1, c9, _, p + xn, xk, rfl, rfl, rfl, by go_num, by omega, by rw [← HDS.out.2]; omega, by rw [← HDS.out.2]; omega, hk64, z ++ [((xk, xs, xd, xv), xn)], T9, by simp, HDS.out.1.next HI.out.1.2 (by rw [HPO.out]; exact hlt) HPL.out HRD.out HA9.out (fun h => HSEC.out h _), by rw [List.map_append]; have h9 := HS9.out; rw [List.length_map] at h9; exact h9⟩
                    case measure => simp [intOf]; omega
                  · have HO : Hid (opn l = none) := HDS.out.1.bad HI.out.1.2 (by have := HI.out.2.1; omega) (by rw [HPO.out]; exact hlt) HPL.out HRD.out (by rw [HA9.out]; exact h0)
                    have h02 : (ad == 0) = false := by simpa using h0
                    have h03 : (ad != 0) = true := by simpa using h0
                    have h04 : ¬ ad = 0 := h0
                    go_wp2_with (first
                      | (go_at_call 41; go_loud (refine HEN.out.mono ?_; rintro e w4 ⟨rfl, hb4⟩; have HB4 : Hid (Below w3.heap.size w3 w4) := hb4; clear hb4))
                      | (go_at_call 8; go_loud (refine (HAD.out _ (HB4.out.alloc HB4.out.size _)).mono ?_; rintro e w5 ⟨rfl, hb5⟩; have HB5 : Hid (Below w.heap.size w w5) := HDW3.out.bl.trans (((HB4.out.alloc HB4.out.size _).trans (hb5.mono (HB4.out.alloc HB4.out.size _).size)).mono HDW3.out.bl.size); clear hb5)))
                    go_ret2
                    exact ⟨HB5.out, .inl ⟨HO.out, _, rfl⟩⟩
              · have HSEC : Hid (2 ≤ nOf l → ∀ x, Sec (vOf l) (z ++ [x]) s) := hSN (fun _ _ => hv)
                have g4 : ¬ (p : Int) = (V : Int) := by omega
                have g5 : (((p : Int)) == ((V : Int))) = false := by simpa using g4
                clear hSN hSH
                go_upto_region 14 with (go_at_call 40; go_loud (refine (HNV.out h2 _ _ (by omega) HDW.out.bl).mono ?_; rintro e w3 ⟨rfl, hw3⟩; have HB3 : Hid (Below wr.heap.size wr w3) := hw3; clear hw3))
                have HDW3 : Hid (DW w (z.map Prod.fst) (.slice aa N cc) T w3) := HDW.out.below HB3.out
                have HEN : Hid (Calls Tryd.prog 41 #[.slice (some ⟨bb, bo + p, none⟩) (P - p) (cap - p), .string ky] w3 fun e w' => e = .returned (enV (rdF ((eOf l).drop p) (strB ky))) ∧ Below w3.heap.size w3 w') := entry_any bb (bo + p) (cap - p) (P - p) ((eOf l).drop p) ky w3 (isB_dr (slice_take (HI.out.1.below HDW3.out.bl) (pOf l)) p) (Nat.lt_of_lt_of_le HI.out.2.2 HDW3.out.bl.size) (by simp only [eOf, List.length_drop, List.length_take, HPO.out]; have := HI.out.2.1; omega) (by omega) (by omega) (by omega) (by omega)
                have v1 : p < cap := by omega
                have v2 : (P : Int) ≤ (cap : Int) := by omega
                have v3 : p ≤ P := by omega
                cases hrd : rdF ((eOf l).drop p) (strB ky) with
                | none =>
                  have HO : Hid (opn l = none) := HDS.out.1.none (by have := HI.out.2.1; omega) (by rw [HPO.out]; exact hlt) hrd
                  rw [hrd] at HEN
                  unfold enV at HEN
                  clear hrd
                  go_wp2_with (go_at_call 41; go_loud (refine HEN.out.mono ?_; rintro e w4 ⟨rfl, hb4⟩; have HB4 : Hid (Below w.heap.size w w4) := HDW3.out.bl.trans (hb4.mono HDW3.out.bl.size); clear hb4))
                  go_ret2
                  exact ⟨HB4.out.alloc HB4.out.size _, .inl ⟨HO.out, _, rfl⟩⟩
                | some x =>
                  obtain ⟨⟨xk, xs, xd, xv⟩, xn⟩ := x
                  have hsz := rdF_sz (b := (eOf l).drop p) (fun y hy => HI.out.1.2 y (List.mem_of_mem_take (List.mem_of_mem_drop hy))) hrd
                  have hel : ((eOf l).drop p).length = P - p := by simp only [eOf, List.length_drop, List.length_take, HPO.out]; have := HI.out.2.1; omega
                  rw [hel, strB_length] at hsz
                  dsimp only at hsz
                  obtain ⟨y1, y2, y3, y4, y5⟩ := hsz
                  have HRD : Hid (rdF ((eOf l).drop p) (strB ky) = some ((xk, xs, xd, xv), xn)) := hrd
                  have HAD : Hid (∀ W, Below w3.heap.size w3 W → Calls Tryd.prog 8 #[.slice aa N cc, .agg #[.string xk, .int .u64 xs, .bool xd, .string xv]] W fun e w' => e = .returned (.int .i64 (adds ky (xk, xs, xd, xv))) ∧ Below W.heap.size W w') := fun W hW => by
                    obtain ⟨a2, c2, e2, hi2, _⟩ := HDW3.out.ow.form
                    simp only [Value.slice.injEq] at e2
                    obtain ⟨rfl, _, rfl⟩ := e2
                    have h9 := refAdds_any aa cc N (z.map Prod.fst) xk xs xd xv W (hi2.below hW) (by rw [List.length_map]; exact HDS.out.2) (by omega) (by omega) (by omega) (by rw [lastK_E2, ← HDS.out.1.ky]; omega)
                    rw [lastK_E2, ← HDS.out.1.ky] at h9
                    exact h9
                  rw [hrd] at HEN
                  unfold enV at HEN
                  obtain ⟨ad, had⟩ : ∃ ad, adds ky (xk, xs, xd, xv) = ad := ⟨_, rfl⟩
                  rw [had] at HAD
                  have HA9 : Hid (adds (lastE ⟨#[]⟩ (z.map Prod.fst)) (xk, xs, xd, xv) = ad) := by show _ = _; rw [← HDS.out.1.ky]; exact had
                  have y6 : (3 : Int) ≤ (xn : Int) := by omega
                  dsimp only at HEN
                  clear hrd hel had
                  by_cases h0 : ad = 0
                  · subst h0
                    have hk64 : xk.size ≤ 64 := (fault_ok (adds_ok HA9.out).1).k2
                    go_wp2_with (first
                      | (go_at_call 41; go_loud (refine HEN.out.mono ?_; rintro e w4 ⟨rfl, hb4⟩; have HB4 : Hid (Below w3.heap.size w3 w4) := hb4; clear hb4))
                      | (go_at_call 8; go_loud (refine (HAD.out _ (HB4.out.alloc HB4.out.size _)).mono ?_; rintro e w5 ⟨rfl, hb5⟩; have HB5 : Hid (Below w3.heap.size w3 w5) := (HB4.out.alloc HB4.out.size _).trans (hb5.mono (HB4.out.alloc HB4.out.size _).size); have g5 := (hb5.block w4.heap.size (by simp)).trans (World.alloc_heap_new w4 _); have HL5 : Hid (w4.heap.size < w5.heap.size) := Nat.lt_of_lt_of_le (by simp) hb5.size; have e0 : w5.cell? ⟨w4.heap.size, 0, none⟩ = some (.string xk) := (by rw [cell_of_obj g5]; rfl); have e1 : w5.cell? ⟨w4.heap.size, 1, none⟩ = some (.int .u64 xs) := (by rw [cell_of_obj g5]; rfl); have e2 : w5.cell? ⟨w4.heap.size, 2, none⟩ = some (.bool xd) := (by rw [cell_of_obj g5]; rfl); have e3 : w5.cell? ⟨w4.heap.size, 3, none⟩ = some (.string xv) := (by rw [cell_of_obj g5]; rfl); have HDW5 : Hid (DW w (z.map Prod.fst) (.slice aa N cc) T w5) := HDW3.out.below HB5.out; clear hb5 g5))
                      | (at_builtin; go_loud (refine Erw.wpList_appE _ (by rfl) (.tmp 77) (.tmp 79) 25 (by rfl) i0 Tryd.underlying25 hi0 hz0 hz1 hz2 7 T (.slice aa N cc) (z.map Prod.fst) (by rfl) (HDW5.out.ow.below ((Below.refl _ _).alloc (Nat.le_refl _) _)) (some ⟨w5.heap.size, 0, none⟩) 1 1 [(xk, xs, xd, xv)] (by rfl) (by rfl) (by simp) isE_new10 (by have := HDS.out.2; simp; omega) ?_; intro a9 c9 T9 w9 hown9 hgo9 _; have hg29 : Goes (· = 7) T w5 T9 w9 := (Goes.below ((Below.refl _ _).alloc (Nat.le_refl _) _)).trans hgo9; have HS9 : Hid (DW w (z.map Prod.fst ++ [(xk, xs, xd, xv)]) (.slice a9 ((z.map Prod.fst).length + 1) c9) T9 w9) := DW.next HDW5.out hg29 hown9; have f0 := (box_goes hg29 HL5.out (by rw [HDW3.out.hi _ HB4.out.size]; omega) 0).trans e0; simp only [List.length_cons, List.length_nil, Nat.zero_add]; clear hown9 hgo9 hg29 e0 e1 e2 e3)))
                    go_roundw
                    case rel => exact ⟨a9, z.length + 1, c9, _, p + xn, xk, rfl, rfl, rfl, by go_num, by omega, by rw [← HDS.out.2]; omega, by rw [← HDS.out.2]; omega, hk64, z ++ [((xk, xs, xd, xv), xn)], T9, by simp, HDS.out.1.next HI.out.1.2 (by rw [HPO.out]; exact hlt) HPL.out HRD.out HA9.out (fun h => HSEC.out h _), by rw [List.map_append]; have h9 := HS9.out; rw [List.length_map] at h9; exact h9⟩
                    case measure => simp [intOf]; omega
                  · have HO : Hid (opn l = none) := HDS.out.1.bad HI.out.1.2 (by have := HI.out.2.1; omega) (by rw [HPO.out]; exact hlt) HPL.out HRD.out (by rw [HA9.out]; exact h0)
                    have h02 : (ad == 0) = false := by simpa using h0
                    have h03 : (ad != 0) = true := by simpa using h0
                    have h04 : ¬ ad = 0 := h0
                    go_wp2_with (first
                      | (go_at_call 41; go_loud (refine HEN.out.mono ?_; rintro e w4 ⟨rfl, hb4⟩; have HB4 : Hid (Below w3.heap.size w3 w4) := hb4; clear hb4))
                      | (go_at_call 8; go_loud (refine (HAD.out _ (HB4.out.alloc HB4.out.size _)).mono ?_; rintro e w5 ⟨rfl, hb5⟩; have HB5 : Hid (Below w.heap.size w w5) := HDW3.out.bl.trans (((HB4.out.alloc HB4.out.size _).trans (hb5.mono (HB4.out.alloc HB4.out.size _).size)).mono HDW3.out.bl.size); clear hb5)))
                    go_ret2
                    exact ⟨HB5.out, .inl ⟨HO.out, _, rfl⟩⟩
            · have g3 : ¬ (0 : Int) < (p : Int) := by omega
              have HSEC : Hid (2 ≤ nOf l → ∀ x, Sec (vOf l) (z ++ [x]) s) := hSN (fun _ h => absurd h hp0)
              clear hSN hSH
              go_upto_region 14 with (fail)
              obtain ⟨w3, hw3⟩ : ∃ w3, w3 = wr := ⟨_, rfl⟩
              have HB3 : Hid (Below wr.heap.size wr w3) := by rw [hw3]; exact Below.refl _ _
              rw [← hw3]
              clear hw3
              have HDW3 : Hid (DW w (z.map Prod.fst) (.slice aa N cc) T w3) := HDW.out.below HB3.out
              have HEN : Hid (Calls Tryd.prog 41 #[.slice (some ⟨bb, bo + p, none⟩) (P - p) (cap - p), .string ky] w3 fun e w' => e = .returned (enV (rdF ((eOf l).drop p) (strB ky))) ∧ Below w3.heap.size w3 w') := entry_any bb (bo + p) (cap - p) (P - p) ((eOf l).drop p) ky w3 (isB_dr (slice_take (HI.out.1.below HDW3.out.bl) (pOf l)) p) (Nat.lt_of_lt_of_le HI.out.2.2 HDW3.out.bl.size) (by simp only [eOf, List.length_drop, List.length_take, HPO.out]; have := HI.out.2.1; omega) (by omega) (by omega) (by omega) (by omega)
              have v1 : p < cap := by omega
              have v2 : (P : Int) ≤ (cap : Int) := by omega
              have v3 : p ≤ P := by omega
              cases hrd : rdF ((eOf l).drop p) (strB ky) with
              | none =>
                have HO : Hid (opn l = none) := HDS.out.1.none (by have := HI.out.2.1; omega) (by rw [HPO.out]; exact hlt) hrd
                rw [hrd] at HEN
                unfold enV at HEN
                clear hrd
                go_wp2_with (go_at_call 41; go_loud (refine HEN.out.mono ?_; rintro e w4 ⟨rfl, hb4⟩; have HB4 : Hid (Below w.heap.size w w4) := HDW3.out.bl.trans (hb4.mono HDW3.out.bl.size); clear hb4))
                go_ret2
                exact ⟨HB4.out.alloc HB4.out.size _, .inl ⟨HO.out, _, rfl⟩⟩
              | some x =>
                obtain ⟨⟨xk, xs, xd, xv⟩, xn⟩ := x
                have hsz := rdF_sz (b := (eOf l).drop p) (fun y hy => HI.out.1.2 y (List.mem_of_mem_take (List.mem_of_mem_drop hy))) hrd
                have hel : ((eOf l).drop p).length = P - p := by simp only [eOf, List.length_drop, List.length_take, HPO.out]; have := HI.out.2.1; omega
                rw [hel, strB_length] at hsz
                dsimp only at hsz
                obtain ⟨y1, y2, y3, y4, y5⟩ := hsz
                have HRD : Hid (rdF ((eOf l).drop p) (strB ky) = some ((xk, xs, xd, xv), xn)) := hrd
                have HAD : Hid (∀ W, Below w3.heap.size w3 W → Calls Tryd.prog 8 #[.slice aa N cc, .agg #[.string xk, .int .u64 xs, .bool xd, .string xv]] W fun e w' => e = .returned (.int .i64 (adds ky (xk, xs, xd, xv))) ∧ Below W.heap.size W w') := fun W hW => by
                  obtain ⟨a2, c2, e2, hi2, _⟩ := HDW3.out.ow.form
                  simp only [Value.slice.injEq] at e2
                  obtain ⟨rfl, _, rfl⟩ := e2
                  have h9 := refAdds_any aa cc N (z.map Prod.fst) xk xs xd xv W (hi2.below hW) (by rw [List.length_map]; exact HDS.out.2) (by omega) (by omega) (by omega) (by rw [lastK_E2, ← HDS.out.1.ky]; omega)
                  rw [lastK_E2, ← HDS.out.1.ky] at h9
                  exact h9
                rw [hrd] at HEN
                unfold enV at HEN
                obtain ⟨ad, had⟩ : ∃ ad, adds ky (xk, xs, xd, xv) = ad := ⟨_, rfl⟩
                rw [had] at HAD
                have HA9 : Hid (adds (lastE ⟨#[]⟩ (z.map Prod.fst)) (xk, xs, xd, xv) = ad) := by show _ = _; rw [← HDS.out.1.ky]; exact had
                have y6 : (3 : Int) ≤ (xn : Int) := by omega
                dsimp only at HEN
                clear hrd hel had
                by_cases h0 : ad = 0
                · subst h0
                  have hk64 : xk.size ≤ 64 := (fault_ok (adds_ok HA9.out).1).k2
                  go_wp2_with (first
                    | (go_at_call 41; go_loud (refine HEN.out.mono ?_; rintro e w4 ⟨rfl, hb4⟩; have HB4 : Hid (Below w3.heap.size w3 w4) := hb4; clear hb4))
                    | (go_at_call 8; go_loud (refine (HAD.out _ (HB4.out.alloc HB4.out.size _)).mono ?_; rintro e w5 ⟨rfl, hb5⟩; have HB5 : Hid (Below w3.heap.size w3 w5) := (HB4.out.alloc HB4.out.size _).trans (hb5.mono (HB4.out.alloc HB4.out.size _).size); have g5 := (hb5.block w4.heap.size (by simp)).trans (World.alloc_heap_new w4 _); have HL5 : Hid (w4.heap.size < w5.heap.size) := Nat.lt_of_lt_of_le (by simp) hb5.size; have e0 : w5.cell? ⟨w4.heap.size, 0, none⟩ = some (.string xk) := (by rw [cell_of_obj g5]; rfl); have e1 : w5.cell? ⟨w4.heap.size, 1, none⟩ = some (.int .u64 xs) := (by rw [cell_of_obj g5]; rfl); have e2 : w5.cell? ⟨w4.heap.size, 2, none⟩ = some (.bool xd) := (by rw [cell_of_obj g5]; rfl); have e3 : w5.cell? ⟨w4.heap.size, 3, none⟩ = some (.string xv) := (by rw [cell_of_obj g5]; rfl); have HDW5 : Hid (DW w (z.map Prod.fst) (.slice aa N cc) T w5) := HDW3.out.below HB5.out; clear hb5 g5))
                    | (at_builtin; go_loud (refine Erw.wpList_appE _ (by rfl) (.tmp 77) (.tmp 79) 25 (by rfl) i0 Tryd.underlying25 hi0 hz0 hz1 hz2 7 T (.slice aa N cc) (z.map Prod.fst) (by rfl) (HDW5.out.ow.below ((Below.refl _ _).alloc (Nat.le_refl _) _)) (some ⟨w5.heap.size, 0, none⟩) 1 1 [(xk, xs, xd, xv)] (by rfl) (by rfl) (by simp) isE_new10 (by have := HDS.out.2; simp; omega) ?_; intro a9 c9 T9 w9 hown9 hgo9 _; have hg29 : Goes (· = 7) T w5 T9 w9 := (Goes.below ((Below.refl _ _).alloc (Nat.le_refl _) _)).trans hgo9; have HS9 : Hid (DW w (z.map Prod.fst ++ [(xk, xs, xd, xv)]) (.slice a9 ((z.map Prod.fst).length + 1) c9) T9 w9) := DW.next HDW5.out hg29 hown9; have f0 := (box_goes hg29 HL5.out (by rw [HDW3.out.hi _ HB4.out.size]; omega) 0).trans e0; simp only [List.length_cons, List.length_nil, Nat.zero_add]; clear hown9 hgo9 hg29 e0 e1 e2 e3)))
                  go_roundw
                  case rel => exact ⟨a9, z.length + 1, c9, _, p + xn, xk, rfl, rfl, rfl, by go_num, by omega, by rw [← HDS.out.2]; omega, by rw [← HDS.out.2]; omega, hk64, z ++ [((xk, xs, xd, xv), xn)], T9, by simp, HDS.out.1.next HI.out.1.2 (by rw [HPO.out]; exact hlt) HPL.out HRD.out HA9.out (fun h => HSEC.out h _), by rw [List.map_append]; have h9 := HS9.out; rw [List.length_map] at h9; exact h9⟩
                  case measure => simp [intOf]; omega
                · have HO : Hid (opn l = none) := HDS.out.1.bad HI.out.1.2 (by have := HI.out.2.1; omega) (by rw [HPO.out]; exact hlt) HPL.out HRD.out (by rw [HA9.out]; exact h0)
                  have h02 : (ad == 0) = false := by simpa using h0
                  have h03 : (ad != 0) = true := by simpa using h0
                  have h04 : ¬ ad = 0 := h0
                  go_wp2_with (first
                    | (go_at_call 41; go_loud (refine HEN.out.mono ?_; rintro e w4 ⟨rfl, hb4⟩; have HB4 : Hid (Below w3.heap.size w3 w4) := hb4; clear hb4))
                    | (go_at_call 8; go_loud (refine (HAD.out _ (HB4.out.alloc HB4.out.size _)).mono ?_; rintro e w5 ⟨rfl, hb5⟩; have HB5 : Hid (Below w.heap.size w w5) := HDW3.out.bl.trans (((HB4.out.alloc HB4.out.size _).trans (hb5.mono (HB4.out.alloc HB4.out.size _).size)).mono HDW3.out.bl.size); clear hb5)))
                  go_ret2
                  exact ⟨HB5.out, .inl ⟨HO.out, _, rfl⟩⟩
          · have g2 : (Nn : Int) < 2 := by omega
            have HSEC : Hid (2 ≤ nOf l → ∀ x, Sec (vOf l) (z ++ [x]) s) := hSN (fun h => absurd h h2)
            clear hSN hSH
            go_upto_region 14 with (fail)
            obtain ⟨w3, hw3⟩ : ∃ w3, w3 = wr := ⟨_, rfl⟩
            have HB3 : Hid (Below wr.heap.size wr w3) := by rw [hw3]; exact Below.refl _ _
            rw [← hw3]
            clear hw3
            have HDW3 : Hid (DW w (z.map Prod.fst) (.slice aa N cc) T w3) := HDW.out.below HB3.out
            have HEN : Hid (Calls Tryd.prog 41 #[.slice (some ⟨bb, bo + p, none⟩) (P - p) (cap - p), .string ky] w3 fun e w' => e = .returned (enV (rdF ((eOf l).drop p) (strB ky))) ∧ Below w3.heap.size w3 w') := entry_any bb (bo + p) (cap - p) (P - p) ((eOf l).drop p) ky w3 (isB_dr (slice_take (HI.out.1.below HDW3.out.bl) (pOf l)) p) (Nat.lt_of_lt_of_le HI.out.2.2 HDW3.out.bl.size) (by simp only [eOf, List.length_drop, List.length_take, HPO.out]; have := HI.out.2.1; omega) (by omega) (by omega) (by omega) (by omega)
            have v1 : p < cap := by omega
            have v2 : (P : Int) ≤ (cap : Int) := by omega
            have v3 : p ≤ P := by omega
            cases hrd : rdF ((eOf l).drop p) (strB ky) with
            | none =>
              have HO : Hid (opn l = none) := HDS.out.1.none (by have := HI.out.2.1; omega) (by rw [HPO.out]; exact hlt) hrd
              rw [hrd] at HEN
              unfold enV at HEN
              clear hrd
              go_wp2_with (go_at_call 41; go_loud (refine HEN.out.mono ?_; rintro e w4 ⟨rfl, hb4⟩; have HB4 : Hid (Below w.heap.size w w4) := HDW3.out.bl.trans (hb4.mono HDW3.out.bl.size); clear hb4))
              go_ret2
              exact ⟨HB4.out.alloc HB4.out.size _, .inl ⟨HO.out, _, rfl⟩⟩
            | some x =>
              obtain ⟨⟨xk, xs, xd, xv⟩, xn⟩ := x
              have hsz := rdF_sz (b := (eOf l).drop p) (fun y hy => HI.out.1.2 y (List.mem_of_mem_take (List.mem_of_mem_drop hy))) hrd
              have hel : ((eOf l).drop p).length = P - p := by simp only [eOf, List.length_drop, List.length_take, HPO.out]; have := HI.out.2.1; omega
              rw [hel, strB_length] at hsz
              dsimp only at hsz
              obtain ⟨y1, y2, y3, y4, y5⟩ := hsz
              have HRD : Hid (rdF ((eOf l).drop p) (strB ky) = some ((xk, xs, xd, xv), xn)) := hrd
              have HAD : Hid (∀ W, Below w3.heap.size w3 W → Calls Tryd.prog 8 #[.slice aa N cc, .agg #[.string xk, .int .u64 xs, .bool xd, .string xv]] W fun e w' => e = .returned (.int .i64 (adds ky (xk, xs, xd, xv))) ∧ Below W.heap.size W w') := fun W hW => by
                obtain ⟨a2, c2, e2, hi2, _⟩ := HDW3.out.ow.form
                simp only [Value.slice.injEq] at e2
                obtain ⟨rfl, _, rfl⟩ := e2
                have h9 := refAdds_any aa cc N (z.map Prod.fst) xk xs xd xv W (hi2.below hW) (by rw [List.length_map]; exact HDS.out.2) (by omega) (by omega) (by omega) (by rw [lastK_E2, ← HDS.out.1.ky]; omega)
                rw [lastK_E2, ← HDS.out.1.ky] at h9
                exact h9
              rw [hrd] at HEN
              unfold enV at HEN
              obtain ⟨ad, had⟩ : ∃ ad, adds ky (xk, xs, xd, xv) = ad := ⟨_, rfl⟩
              rw [had] at HAD
              have HA9 : Hid (adds (lastE ⟨#[]⟩ (z.map Prod.fst)) (xk, xs, xd, xv) = ad) := by show _ = _; rw [← HDS.out.1.ky]; exact had
              have y6 : (3 : Int) ≤ (xn : Int) := by omega
              dsimp only at HEN
              clear hrd hel had
              by_cases h0 : ad = 0
              · subst h0
                have hk64 : xk.size ≤ 64 := (fault_ok (adds_ok HA9.out).1).k2
                go_wp2_with (first
                  | (go_at_call 41; go_loud (refine HEN.out.mono ?_; rintro e w4 ⟨rfl, hb4⟩; have HB4 : Hid (Below w3.heap.size w3 w4) := hb4; clear hb4))
                  | (go_at_call 8; go_loud (refine (HAD.out _ (HB4.out.alloc HB4.out.size _)).mono ?_; rintro e w5 ⟨rfl, hb5⟩; have HB5 : Hid (Below w3.heap.size w3 w5) := (HB4.out.alloc HB4.out.size _).trans (hb5.mono (HB4.out.alloc HB4.out.size _).size); have g5 := (hb5.block w4.heap.size (by simp)).trans (World.alloc_heap_new w4 _); have HL5 : Hid (w4.heap.size < w5.heap.size) := Nat.lt_of_lt_of_le (by simp) hb5.size; have e0 : w5.cell? ⟨w4.heap.size, 0, none⟩ = some (.string xk) := (by rw [cell_of_obj g5]; rfl); have e1 : w5.cell? ⟨w4.heap.size, 1, none⟩ = some (.int .u64 xs) := (by rw [cell_of_obj g5]; rfl); have e2 : w5.cell? ⟨w4.heap.size, 2, none⟩ = some (.bool xd) := (by rw [cell_of_obj g5]; rfl); have e3 : w5.cell? ⟨w4.heap.size, 3, none⟩ = some (.string xv) := (by rw [cell_of_obj g5]; rfl); have HDW5 : Hid (DW w (z.map Prod.fst) (.slice aa N cc) T w5) := HDW3.out.below HB5.out; clear hb5 g5))
                  | (at_builtin; go_loud (refine Erw.wpList_appE _ (by rfl) (.tmp 77) (.tmp 79) 25 (by rfl) i0 Tryd.underlying25 hi0 hz0 hz1 hz2 7 T (.slice aa N cc) (z.map Prod.fst) (by rfl) (HDW5.out.ow.below ((Below.refl _ _).alloc (Nat.le_refl _) _)) (some ⟨w5.heap.size, 0, none⟩) 1 1 [(xk, xs, xd, xv)] (by rfl) (by rfl) (by simp) isE_new10 (by have := HDS.out.2; simp; omega) ?_; intro a9 c9 T9 w9 hown9 hgo9 _; have hg29 : Goes (· = 7) T w5 T9 w9 := (Goes.below ((Below.refl _ _).alloc (Nat.le_refl _) _)).trans hgo9; have HS9 : Hid (DW w (z.map Prod.fst ++ [(xk, xs, xd, xv)]) (.slice a9 ((z.map Prod.fst).length + 1) c9) T9 w9) := DW.next HDW5.out hg29 hown9; have f0 := (box_goes hg29 HL5.out (by rw [HDW3.out.hi _ HB4.out.size]; omega) 0).trans e0; simp only [List.length_cons, List.length_nil, Nat.zero_add]; clear hown9 hgo9 hg29 e0 e1 e2 e3)))
                go_roundw
                case rel => exact ⟨a9, z.length + 1, c9, _, p + xn, xk, rfl, rfl, rfl, by go_num, by omega, by rw [← HDS.out.2]; omega, by rw [← HDS.out.2]; omega, hk64, z ++ [((xk, xs, xd, xv), xn)], T9, by simp, HDS.out.1.next HI.out.1.2 (by rw [HPO.out]; exact hlt) HPL.out HRD.out HA9.out (fun h => HSEC.out h _), by rw [List.map_append]; have h9 := HS9.out; rw [List.length_map] at h9; exact h9⟩
                case measure => simp [intOf]; omega
              · have HO : Hid (opn l = none) := HDS.out.1.bad HI.out.1.2 (by have := HI.out.2.1; omega) (by rw [HPO.out]; exact hlt) HPL.out HRD.out (by rw [HA9.out]; exact h0)
                have h02 : (ad == 0) = false := by simpa using h0
                have h03 : (ad != 0) = true := by simpa using h0
                have h04 : ¬ ad = 0 := h0
                go_wp2_with (first
                  | (go_at_call 41; go_loud (refine HEN.out.mono ?_; rintro e w4 ⟨rfl, hb4⟩; have HB4 : Hid (Below w3.heap.size w3 w4) := hb4; clear hb4))
                  | (go_at_call 8; go_loud (refine (HAD.out _ (HB4.out.alloc HB4.out.size _)).mono ?_; rintro e w5 ⟨rfl, hb5⟩; have HB5 : Hid (Below w.heap.size w w5) := HDW3.out.bl.trans (((HB4.out.alloc HB4.out.size _).trans (hb5.mono (HB4.out.alloc HB4.out.size _).size)).mono HDW3.out.bl.size); clear hb5)))
                go_ret2
                exact ⟨HB5.out, .inl ⟨HO.out, _, rfl⟩⟩
        · obtain rfl : p = P := by omega
          have HWK : Hid (wk (eOf l) [] = z) := by
            show _ = _
            rw [hds.wk, List.drop_of_length_le (by unfold eOf; rw [List.length_take, HPO.out]; omega), wk_nil, List.append_nil]
          by_cases h2 : 2 ≤ Nn
          · have g2 : (2 : Int) ≤ (Nn : Int) := by omega
            have HRD : Hid (rDoc l s z.length = s) := by show _ = _; unfold rDoc; rw [HN.out]; rw [if_pos h2]
            have HDE := doc_end (b := l) (z := z) (s := s) (by have := HI.out.2.1; omega) (by have := HI.out.2.1; omega) (by rw [HN.out]; have := HI.out.2.1; omega) (HWK.out) hds.ch (fun x hx => by have := hds.ps x hx; omega) hds.sc (by omega)
            rw [HRD.out] at HDE
            have HD : Hid (_ ∧ _) := HDE
            have hzl : z ≠ [] ↔ 0 < N := by rw [hNz]; exact List.length_pos_iff.symm
            have HBY : Hid (Calls Tryd.prog 9 #[.slice aa N cc, .int .i64 (s : Int)] wr fun e w' => ∃ v, e = .returned v ∧ Byt.Own 5 wr.heap.size w' v (blk (pushes (Rn (s : Int)) st0 (z.map Prod.fst))) ∧ Below wr.heap.size wr w') := by
              obtain ⟨a2, c2, e2, hi2, _⟩ := hdw.ow.form
              simp only [Value.slice.injEq] at e2
              obtain ⟨rfl, _, rfl⟩ := e2
              exact refBytes_any _ _ _ _ wr _ hi2 (by rw [List.length_map]; exact hNz) (by omega) hds.ok (by omega)
            have hRn : Rn (s : Int) = max s 1 := by unfold Rn; omega
            rw [hRn] at HBY
            clear HDE HK hrel0 hRn
            by_cases hbad : 0 < N ∧ s < 1
            · have HO : Hid (opn l = none) := HD.out.1 (hzl.2 hbad.1) hbad.2
              have q2 : (0 : Int) < (N : Int) := by omega
              have q3 : (s : Int) < 1 := by omega
              clear hds hdw hzl hNz
              go_wp2
              go_ret2
              exact ⟨HDW.out.bl, .inl ⟨HO.out, _, rfl⟩⟩
            · have HQ := HD.out.2 (by by_cases hz0 : z = []; exact .inl hz0; have := hzl.1 hz0; exact .inr (by omega))
              have HQ2 : Hid (_ = _) := HQ
              have hlen := pushes_len (max s 1) (z.map Prod.fst) hds.ok
              have hpl := pushes_plen (max s 1) (z.map Prod.fst) st0
              have z1 : st0.p.length = 0 := rfl
              rw [List.length_map, ← hNz] at hlen hpl
              have hbl9 := blk_len (pushes (max s 1) st0 (z.map Prod.fst))
              obtain ⟨D, hD⟩ : ∃ D, blk (pushes (max s 1) st0 (z.map Prod.fst)) = D := ⟨_, rfl⟩
              rw [hD] at hbl9 HBY
              have hDl : D.length ≤ 1000000000 := by omega
              have HDD : Hid (blk (pushes (max s 1) st0 (z.map Prod.fst)) = D ∧ N = z.length) := ⟨hD, hNz⟩
              clear hlen hpl z1 hbl9 hD HQ hds hdw hzl hNz
              have HSM : Hid (∀ W (v : Value) (a' : Option Addr) (n' c' : Nat), v = .slice a' n' c' → Byt.Own 5 wr.heap.size W v D → Below wr.heap.size wr W → Calls Tryd.prog 42 #[.slice a' n' c', .slice (some ⟨bb, bo, none⟩) (m + 8) cap] W fun e w' => e = .returned (.bool (decide (D = l))) ∧ Below W.heap.size W w') := fun W v a' n' c' e ho hb => by
                obtain ⟨g, c, rfl, hg, _, hlc, hib⟩ := ho.isB
                cases e
                exact refSame_dec _ _ _ _ _ _ D l W hib ((HI.out.1.below HDW.out.bl).below hb) (by omega) (by have := HI.out.2.1; omega) rfl HI.out.2.1
              have HBY2 : Hid (Calls Tryd.prog 9 #[.slice aa N cc, .int .i64 (s : Int)] wr fun e w' => ∃ a' n' c', e = .returned (.slice a' n' c') ∧ Byt.Own 5 wr.heap.size w' (.slice a' n' c') D ∧ Below wr.heap.size wr w') := HBY.out.mono fun e w' ⟨v, h1, h2, h3⟩ => by
                obtain ⟨g, c, rfl, _⟩ := h2.isB
                exact ⟨_, _, _, h1, h2, h3⟩
              clear HBY
              by_cases hN0 : 0 < N
              · have q2 : (0 : Int) < (N : Int) := by omega
                have q3 : 1 ≤ (s : Int) := by omega
                go_wp2_with (first
                  | (go_at_call 9; go_loud (refine HBY2.out.mono ?_; rintro e w5 ⟨a', n', c', rfl, ho5, hb5⟩; have H5 : Hid (Byt.Own 5 wr.heap.size w5 (.slice a' n' c') D ∧ Below wr.heap.size wr w5) := ⟨ho5, hb5⟩; clear ho5 hb5))
                  | (go_at_call 42; go_loud (refine (HSM.out w5 _ _ _ _ rfl H5.out.1 H5.out.2).mono ?_; rintro e w6 ⟨rfl, hb6⟩; have H6 : Hid (Below wr.heap.size wr w6) := H5.out.2.trans (hb6.mono H5.out.2.size); clear hb6)))
                go_ret2
                refine ⟨HDW.out.bl.trans (H6.out.mono HDW.out.bl.size), ?_⟩
                have hq := HQ2.out
                rw [HDD.out.1] at hq
                by_cases hDl2 : D = l
                · rw [if_pos hDl2] at hq
                  rw [decide_eq_true hDl2]
                  obtain ⟨⟨R, l2⟩, ho, hl2⟩ := Option.map_eq_some_iff.1 hq
                  dsimp only at hl2
                  subst hl2
                  obtain ⟨a2, c2, e2, hi2, hc2, hn2⟩ := HDW.out.ow.form
                  simp only [Value.slice.injEq] at e2
                  obtain ⟨rfl, _, rfl⟩ := e2
                  exact .inr ⟨R, _, aa, _, cc, ho, rfl, by rw [List.length_map]; exact HDD.out.2, hi2.below H6.out, fun hne => DW.new HDW.out hne, by rw [List.length_map, ← HDD.out.2] at hc2; exact hc2, hn2⟩
                · rw [if_neg hDl2] at hq
                  rw [decide_eq_false hDl2]
                  exact .inl ⟨Option.map_eq_none_iff.1 hq, _, rfl⟩
              · obtain rfl : N = 0 := by omega
                obtain rfl : s = 0 := by omega
                go_wp2_with (first
                  | (go_at_call 9; go_loud (refine HBY2.out.mono ?_; rintro e w5 ⟨a', n', c', rfl, ho5, hb5⟩; have H5 : Hid (Byt.Own 5 wr.heap.size w5 (.slice a' n' c') D ∧ Below wr.heap.size wr w5) := ⟨ho5, hb5⟩; clear ho5 hb5))
                  | (go_at_call 42; go_loud (refine (HSM.out w5 _ _ _ _ rfl H5.out.1 H5.out.2).mono ?_; rintro e w6 ⟨rfl, hb6⟩; have H6 : Hid (Below wr.heap.size wr w6) := H5.out.2.trans (hb6.mono H5.out.2.size); clear hb6)))
                go_ret2
                refine ⟨HDW.out.bl.trans (H6.out.mono HDW.out.bl.size), ?_⟩
                have hq := HQ2.out
                rw [HDD.out.1] at hq
                by_cases hDl2 : D = l
                · rw [if_pos hDl2] at hq
                  rw [decide_eq_true hDl2]
                  obtain ⟨⟨R, l2⟩, ho, hl2⟩ := Option.map_eq_some_iff.1 hq
                  dsimp only at hl2
                  subst hl2
                  obtain ⟨a2, c2, e2, hi2, hc2, hn2⟩ := HDW.out.ow.form
                  simp only [Value.slice.injEq] at e2
                  obtain ⟨rfl, _, rfl⟩ := e2
                  exact .inr ⟨R, _, aa, _, cc, ho, rfl, by rw [List.length_map]; exact HDD.out.2, hi2.below H6.out, fun hne => DW.new HDW.out hne, by rw [List.length_map, ← HDD.out.2] at hc2; exact hc2, hn2⟩
                · rw [if_neg hDl2] at hq
                  rw [decide_eq_false hDl2]
                  exact .inl ⟨Option.map_eq_none_iff.1 hq, _, rfl⟩
          · have g2 : (Nn : Int) < 2 := by omega
            have HRD : Hid (rDoc l s z.length = N) := by show _ = _; unfold rDoc; rw [HN.out]; rw [if_neg h2]; exact hNz.symm
            have HDE := doc_end (b := l) (z := z) (s := s) (by have := HI.out.2.1; omega) (by have := HI.out.2.1; omega) (by rw [HN.out]; have := HI.out.2.1; omega) (HWK.out) hds.ch (fun x hx => by have := hds.ps x hx; omega) hds.sc (by omega)
            rw [HRD.out] at HDE
            have HD : Hid (_ ∧ _) := HDE
            have hzl : z ≠ [] ↔ 0 < N := by rw [hNz]; exact List.length_pos_iff.symm
            have HBY : Hid (Calls Tryd.prog 9 #[.slice aa N cc, .int .i64 (N : Int)] wr fun e w' => ∃ v, e = .returned v ∧ Byt.Own 5 wr.heap.size w' v (blk (pushes (Rn (N : Int)) st0 (z.map Prod.fst))) ∧ Below wr.heap.size wr w') := by
              obtain ⟨a2, c2, e2, hi2, _⟩ := hdw.ow.form
              simp only [Value.slice.injEq] at e2
              obtain ⟨rfl, _, rfl⟩ := e2
              exact refBytes_any _ _ _ _ wr _ hi2 (by rw [List.length_map]; exact hNz) (by omega) hds.ok (by omega)
            have hRn : Rn (N : Int) = max N 1 := by unfold Rn; omega
            rw [hRn] at HBY
            clear HDE HK hrel0 hRn
            by_cases hbad : 0 < N ∧ N < 1
            · exfalso; omega
            · have HQ := HD.out.2 (by by_cases hz0 : z = []; exact .inl hz0; have := hzl.1 hz0; exact .inr (by omega))
              have HQ2 : Hid (_ = _) := HQ
              have hlen := pushes_len (max N 1) (z.map Prod.fst) hds.ok
              have hpl := pushes_plen (max N 1) (z.map Prod.fst) st0
              have z1 : st0.p.length = 0 := rfl
              rw [List.length_map, ← hNz] at hlen hpl
              have hbl9 := blk_len (pushes (max N 1) st0 (z.map Prod.fst))
              obtain ⟨D, hD⟩ : ∃ D, blk (pushes (max N 1) st0 (z.map Prod.fst)) = D := ⟨_, rfl⟩
              rw [hD] at hbl9 HBY
              have hDl : D.length ≤ 1000000000 := by omega
              have HDD : Hid (blk (pushes (max N 1) st0 (z.map Prod.fst)) = D ∧ N = z.length) := ⟨hD, hNz⟩
              clear hlen hpl z1 hbl9 hD HQ hds hdw hzl hNz
              have HSM : Hid (∀ W (v : Value) (a' : Option Addr) (n' c' : Nat), v = .slice a' n' c' → Byt.Own 5 wr.heap.size W v D → Below wr.heap.size wr W → Calls Tryd.prog 42 #[.slice a' n' c', .slice (some ⟨bb, bo, none⟩) (m + 8) cap] W fun e w' => e = .returned (.bool (decide (D = l))) ∧ Below W.heap.size W w') := fun W v a' n' c' e ho hb => by
                obtain ⟨g, c, rfl, hg, _, hlc, hib⟩ := ho.isB
                cases e
                exact refSame_dec _ _ _ _ _ _ D l W hib ((HI.out.1.below HDW.out.bl).below hb) (by omega) (by have := HI.out.2.1; omega) rfl HI.out.2.1
              have HBY2 : Hid (Calls Tryd.prog 9 #[.slice aa N cc, .int .i64 (N : Int)] wr fun e w' => ∃ a' n' c', e = .returned (.slice a' n' c') ∧ Byt.Own 5 wr.heap.size w' (.slice a' n' c') D ∧ Below wr.heap.size wr w') := HBY.out.mono fun e w' ⟨v, h1, h2, h3⟩ => by
                obtain ⟨g, c, rfl, _⟩ := h2.isB
                exact ⟨_, _, _, h1, h2, h3⟩
              clear HBY
              by_cases hN0 : 0 < N
              · have q2 : (0 : Int) < (N : Int) := by omega
                have q3 : 1 ≤ (N : Int) := by omega
                go_wp2_with (first
                  | (go_at_call 9; go_loud (refine HBY2.out.mono ?_; rintro e w5 ⟨a', n', c', rfl, ho5, hb5⟩; have H5 : Hid (Byt.Own 5 wr.heap.size w5 (.slice a' n' c') D ∧ Below wr.heap.size wr w5) := ⟨ho5, hb5⟩; clear ho5 hb5))
                  | (go_at_call 42; go_loud (refine (HSM.out w5 _ _ _ _ rfl H5.out.1 H5.out.2).mono ?_; rintro e w6 ⟨rfl, hb6⟩; have H6 : Hid (Below wr.heap.size wr w6) := H5.out.2.trans (hb6.mono H5.out.2.size); clear hb6)))
                go_ret2
                refine ⟨HDW.out.bl.trans (H6.out.mono HDW.out.bl.size), ?_⟩
                have hq := HQ2.out
                rw [HDD.out.1] at hq
                by_cases hDl2 : D = l
                · rw [if_pos hDl2] at hq
                  rw [decide_eq_true hDl2]
                  obtain ⟨⟨R, l2⟩, ho, hl2⟩ := Option.map_eq_some_iff.1 hq
                  dsimp only at hl2
                  subst hl2
                  obtain ⟨a2, c2, e2, hi2, hc2, hn2⟩ := HDW.out.ow.form
                  simp only [Value.slice.injEq] at e2
                  obtain ⟨rfl, _, rfl⟩ := e2
                  exact .inr ⟨R, _, aa, _, cc, ho, rfl, by rw [List.length_map]; exact HDD.out.2, hi2.below H6.out, fun hne => DW.new HDW.out hne, by rw [List.length_map, ← HDD.out.2] at hc2; exact hc2, hn2⟩
                · rw [if_neg hDl2] at hq
                  rw [decide_eq_false hDl2]
                  exact .inl ⟨Option.map_eq_none_iff.1 hq, _, rfl⟩
              · obtain rfl : N = 0 := by omega
                have hs0 : s ≤ 0 := hsN
                go_wp2_with (first
                  | (go_at_call 9; go_loud (refine HBY2.out.mono ?_; rintro e w5 ⟨a', n', c', rfl, ho5, hb5⟩; have H5 : Hid (Byt.Own 5 wr.heap.size w5 (.slice a' n' c') D ∧ Below wr.heap.size wr w5) := ⟨ho5, hb5⟩; clear ho5 hb5))
                  | (go_at_call 42; go_loud (refine (HSM.out w5 _ _ _ _ rfl H5.out.1 H5.out.2).mono ?_; rintro e w6 ⟨rfl, hb6⟩; have H6 : Hid (Below wr.heap.size wr w6) := H5.out.2.trans (hb6.mono H5.out.2.size); clear hb6)))
                go_ret2
                refine ⟨HDW.out.bl.trans (H6.out.mono HDW.out.bl.size), ?_⟩
                have hq := HQ2.out
                rw [HDD.out.1] at hq
                by_cases hDl2 : D = l
                · rw [if_pos hDl2] at hq
                  rw [decide_eq_true hDl2]
                  obtain ⟨⟨R, l2⟩, ho, hl2⟩ := Option.map_eq_some_iff.1 hq
                  dsimp only at hl2
                  subst hl2
                  obtain ⟨a2, c2, e2, hi2, hc2, hn2⟩ := HDW.out.ow.form
                  simp only [Value.slice.injEq] at e2
                  obtain ⟨rfl, _, rfl⟩ := e2
                  exact .inr ⟨R, _, aa, _, cc, ho, rfl, by rw [List.length_map]; exact HDD.out.2, hi2.below H6.out, fun hne => DW.new HDW.out hne, by rw [List.length_map, ← HDD.out.2] at hc2; exact hc2, hn2⟩
                · rw [if_neg hDl2] at hq
                  rw [decide_eq_false hDl2]
                  exact .inl ⟨Option.map_eq_none_iff.1 hq, _, rfl⟩
end Qb
end Go.Proofs.YtkebbmdghnplmaaDoor
