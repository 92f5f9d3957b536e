import Derived.Test.YtakgakjkemphlabDoorLw3
namespace Go.Proofs.YtakgakjkemphlabDoor
namespace Lgw
open Go.RowKit CMath Byt Cod Lg Lga Lgp Lgg Laws Grp Crw Kwn Lgf
set_option linter.unusedVariables false
set_option maxRecDepth 20000
set_option linter.unusedSimpArgs false

theorem below_two {w w1 w2 : World} (h : Below w.heap.size w w1) (h2 : Below w1.heap.size w1 w2) : Below w.heap.size w w2 := h.trans (h2.mono h.size)
theorem num_ne (n : Nat) : num n ≠ [] := by rw [num]; split <;> simp
def cutG (gs : List (List W3)) : List (List W3) := gs.map (List.map cutW)
theorem cutG_take {gs : List (List W3)} {k : Nat} {ws : List W3} (h : gs[k]? = some ws) : cutG (gs.take (k + 1)) = cutG (gs.take k) ++ [ws.map cutW] := by
  unfold cutG
  rw [List.take_add_one, h]
  simp
theorem cntW_take {gs : List (List W3)} {k : Nat} {ws : List W3} (h : gs[k]? = some ws) : cntW (gs.take (k + 1)) = cntW (gs.take k) + ws.length := by
  rw [List.take_add_one, h]
  simp [cntW]

set_option maxHeartbeats 4000000 in
theorem walk (first : Nat) (a : Option Addr) (cap : Nat) (gs : List (List W3)) (w : World) (hf : first < 18446744073709551616) (hg : IsG w a gs) (hgl : (gs.length : Int) ≤ 9223372036854775807) (hnz : Nz w a gs.length) (ht : Tab w) :
    Calls Tryd.prog 6 #[.int .u64 first, .slice a gs.length cap] w fun e w' => e = .returned (.bool true) ∧ Below w.heap.size w w' := by
  obtain ⟨i49, hiw, hzw0, hzw1, hzw2⟩ := info_parts infoW'
  obtain ⟨i43, his, hzs0, hzs1, hzs2⟩ := info_parts infoS
  have HG : Hid (IsG w a gs) := hg
  have HT : Hid (Tab w) := ht
  have HZ : Hid (Nz w a gs.length) := hnz
  clear hg ht hnz
  obtain ⟨n, hn⟩ : ∃ n, gs.length = n := ⟨_, rfl⟩
  have HN : Hid (gs.length = n) := hn
  have HSM := small_any w a cap gs hgl HG.out
  rw [hn] at HSM hgl ⊢
  have HSS : Hid (Calls Tryd.prog 13 #[.slice a n cap] w fun r w' => (∃ b : Bool, r = .returned (.bool b) ∧ (b = true → bulkG gs ≤ 32768)) ∧ Below w.heap.size w w') := HSM
  clear HSM hn
  go_enter Tryd.func6, Tryd.ntmps6
  go_wp2_with fail
  refine HSS.out.mono ?_
  rintro e w1 ⟨⟨bb, rfl, hbk⟩, hb1⟩
  have HB1 : Hid (Below w.heap.size w w1) := hb1
  clear hb1
  cases bb with
  | false =>
    go_wp2
    go_ret
    exact ⟨rfl, HB1.out⟩
  | true =>
    have hbulk := hbk rfl
    have hn32 : n ≤ 32768 := by have h1 := HN.out; unfold bulkG at hbulk; omega
    have HBK : Hid (bulkG gs ≤ 32768) := hbulk
    clear hbk hbulk
    go_wp2_with fail
    refine (known_any w1 (HT.out.below HB1.out HT.out.lt)).mono ?_
    rintro e w2 ⟨rfl, hb2⟩
    have HB2 : Hid (Below w.heap.size w w2) := HB1.out.trans (hb2.mono HB1.out.size)
    clear hb2 HB1
    go_wp2
    go_loopw [5, 6, 7] (fun v vn vi wr => ∃ (svs : List Sv) (cs : List (List W3)) (k : Nat), k ≤ n ∧ vi = .int .i64 (k : Int) ∧ vn = .int .u64 ((cntW (gs.take k) : Nat) : Int) ∧ cntW (gs.take k) ≤ 16 * k ∧ Hid ((∀ ws ∈ gs.take k, (∀ x ∈ ws, okW x) ∧ ws.length ≤ 16) ∧ cs = cutG (gs.take k) ∧ cs.length = k ∧ Gn w.heap.size wr v svs cs ∧ Below w.heap.size w wr)) (fun _ _ vi _ => n - (intOf vi).toNat)
    case atStart => exact ⟨[], [], 0, Nat.zero_le _, rfl, by simp [cntW], by simp [cntW], by simp, by simp [cutG], rfl, ⟨rfl, World.ownsRow_nil _ _ _ _, fun i sv ws h => by simp at h⟩, HB2.out⟩
    case round =>
      clear HB2
      obtain ⟨svs, cs, k, hk, rfl, rfl, hwk, HX⟩ := hrel
      rename World => wr
      by_cases hlt : k < n
      · have q2 : (k : Int) < (n : Int) := by omega
        have hkl : k < gs.length := by rw [HN.out]; exact hlt
        obtain ⟨b, off, ad, c, rfl, hbs, c0, hws⟩ := (HG.out.below HX.out.2.2.2.2).rd hkl
        have hpair : w.cell? ⟨b, off + k, none⟩ = some (.slice ad (gs.getD k []).length c) ∧ b < w.heap.size ∧ Chk.IsWr w ad (gs.getD k []) := by
          obtain ⟨b', off', ad', c', e', hbs', c0', hws'⟩ := HG.out.rd hkl
          cases e'
          have := (HX.out.2.2.2.2.cell (p := ⟨b, off + k, none⟩) hbs').trans c0'
          rw [c0] at this
          cases this
          exact ⟨c0', hbs', hws'⟩
        obtain ⟨hcw, hbw, hws0⟩ := hpair
        have hnc : ad = none → c = 0 := fun e => by subst e; exact HZ.out b off k _ c rfl hkl hcw
        have HNC : Hid (ad = none → c = 0) := hnc
        have HWS : Hid (Chk.IsWr w ad (gs.getD k [])) := hws0
        have HXK : Hid (gs[k]? = some (gs.getD k [])) := by show _ = _; simp [hkl]
        clear hws hws0 hkl hcw hnc
        generalize gs.getD k [] = ws at *
        have HCN : Hid (cntW (gs.take (k + 1)) = cntW (gs.take k) + ws.length) := cntW_take HXK.out
        generalize hWK : cntW (gs.take k) = WK at *
        obtain ⟨m, hm⟩ : ∃ m, ws.length = m := ⟨_, rfl⟩
        have HM : Hid (ws.length = m) := hm
        obtain ⟨eb, heb⟩ : ∃ eb, Chk.errB ws = eb := ⟨_, rfl⟩
        have HCB : Hid (∀ W, Below w.heap.size w W → Calls Tryd.prog 14 #[.slice ad m c] W fun e w' => e = .returned (.int .i64 eb) ∧ Below W.heap.size W w') := fun W hW => by rw [← heb, ← HM.out]; exact Bat.checkBatch_any ad c ws W (HWS.out.below hW)
        rw [hm] at c0
        clear hm
        by_cases he0 : eb = 0
        · subst he0
          obtain ⟨hok, h16⟩ := okB_of heb
          rw [HM.out] at h16
          have HOK : Hid ((∀ x ∈ ws, okW x) ∧ ws.length ≤ 16) := ⟨hok, by rw [HM.out]; exact h16⟩
          clear heb hok
          go_wp2_with (first
            | (go_at_call 14; refine (HCB.out _ HX.out.2.2.2.2).mono ?_; rintro e w3 ⟨rfl, hb3⟩; have HB3 : Hid (Below w.heap.size w w3 ∧ Below wr.heap.size wr w3) := ⟨HX.out.2.2.2.2.trans (hb3.mono HX.out.2.2.2.2.size), hb3⟩; have c3 : w3.cell? ⟨b, off + k, none⟩ = some (.slice ad m c) := (hb3.cell (p := ⟨b, off + k, none⟩) hbs).trans c0; clear hb3)
            | (go_at_call 11; refine (num_any _ _).mono ?_; rintro e w6 ⟨rfl, hw6⟩; obtain rfl := hw6.symm)
            | (at_builtin; refine wpList_appK kW w3 (by rfl) (.tmp 31) (.tmp 35) 43 (by rfl) i49 undW' hiw hzw0 hzw1 hzw2 1 (fun _ => 0) (.slice none 0 0) [] (by rfl) (OwnK.empty _ _ _) ad m c ws (by rfl) HM.out.symm HNC.out (isK_of (HWS.out.below HB3.out.1)) (by rw [HM.out]; simp; omega) ?_; intro a4 c4 T4 w4 ho4 hg4; rw [List.nil_append] at ho4; obtain ⟨hb4, hcp4⟩ := copy_of ho4 hg4; have HC4 : Hid (Cp w3.heap.size w4 a4 c4 ws ∧ Below w3.heap.size w3 w4) := ⟨hcp4, hb4⟩; rw [show ([] : List W3).length + ws.length = m by rw [HM.out]; simp]; clear ho4 hg4 hb4 hcp4))
          go_loopw [9] (fun vk wx => ∃ (i : Nat), i ≤ m ∧ vk = .int .i64 (i : Int) ∧ Hid (Cp w3.heap.size wx a4 c4 (cutK ws i) ∧ Below w3.heap.size w3 wx)) (fun vk _ => m - (intOf vk).toNat)
          case atStart => exact ⟨0, Nat.zero_le _, rfl, by rw [cutK_zero]; exact HC4.out.1, HC4.out.2⟩
          case round =>
            clear HC4
            obtain ⟨i, hi, rfl, HY⟩ := hrel
            rename World => wx
            by_cases hlt3 : i < m
            · have q6 : (i : Int) < (m : Int) := by omega
              have hil : i < ws.length := by rw [HM.out]; exact hlt3
              obtain ⟨⟨kk, dd, vv⟩, hx⟩ : ∃ x, ws[i]? = some x := ⟨_, List.getElem?_eq_getElem hil⟩
              have HX3 : Hid (ws[i]? = some (kk, dd, vv)) := hx
              rcases HY.out.1.form with ⟨_, hnil, _⟩ | ⟨g, rfl, hg0, hg1, hg2, hg3⟩
              · exfalso
                have := congrArg List.length hnil
                rw [cutK_length] at this
                simp at this
                rw [this] at hil
                simp at hil
              · obtain ⟨y0, y1, y2⟩ := hg3 i (kk, dd, vv) (by rw [cutK_get, hx]; simp)
                have y3 := hg2 (i * 3 + 2)
                dsimp only at y1 y2
                clear hx hg2 hg3 hil y0
                cases dd with
                | true =>
                  go_wp2
                  go_roundw
                  case rel => exact ⟨i + 1, by omega, by go_num, HY.out.1.cut HX3.out rfl, HY.out.2.setCell hg0 _⟩
                  case measure => simp [intOf]; omega
                | false =>
                  go_wp2
                  go_roundw
                  case rel => exact ⟨i + 1, by omega, by go_num, by rw [cutK_same HX3.out rfl]; exact HY.out.1, HY.out.2⟩
                  case measure => simp [intOf]; omega
            · obtain rfl : i = m := by omega
              have q6 : ¬ (i : Int) < (i : Int) := by omega
              have hcp := HY.out.1
              rw [show cutK ws i = ws.map cutW by rw [← HM.out]; exact cutK_all ws] at hcp
              have hbat := hcp.isWr (by rw [List.length_map]; exact HOK.out.2) (cut_sz HOK.out.1)
              have hs1 := HX.out.2.2.2.2.size
              have hs3 := HB3.out.2.size
              have HGX : Hid (Gn w.heap.size wx u5 svs cs ∧ Below w.heap.size w wx) := ⟨HX.out.2.2.2.1.below (below_two HB3.out.2 HY.out.2), below_two HB3.out.1 HY.out.2⟩
              have HBT : Hid ((a4 = none ∧ ws.map cutW = []) ∨ ∃ b, a4 = some ⟨b, 0, none⟩ ∧ w.heap.size ≤ b ∧ b < wx.heap.size ∧ u5.ownBlock ≠ some b ∧ Chk.IsWr wx (some ⟨b, 0, none⟩) (ws.map cutW)) := by
                rcases hbat with h | ⟨g, g1, g2, g3, g4⟩
                · exact .inl h
                · exact .inr ⟨g, g1, by omega, g3, fun e => by have := (HX.out.2.2.2.1.own.lt _ e).2; omega, g4⟩
              have hsx := HGX.out.2.size
              clear hbat hcp HY
              go_wp2_with (at_builtin; refine wpList_app _ (by rfl) (.tmp 52) (.tmp 54) 40 (by rfl) w.heap.size 43 i43 _ 1 24 undG his hzs0 hzs1 hzs2 rfl (by omega) u5 k (kS.cells svs) (by rfl) (by rw [← HX.out.2.2.1]; exact HGX.out.1.own.alloc _) ⟨wx.heap.size, 0, none⟩ 1 1 [.slice a4 i c4] (by rfl) (by rfl) (World.news_of_block (heap_alloc_new _ _)) (by intro u hu; simp at hu; subst hu; rfl) (by intro _; omega) (by unfold maxLen; omega) (by omega) (by simp; omega) (wx.heap.size + 1) (by simp) ?_; intro g7 c7 w7 hown7 hgr7 hat7 hlt7; have HG7 : Hid (Gn w.heap.size w7 (.slice (some ⟨g7, 0, none⟩) (k + 1) c7) (svs ++ [(a4, i, c4)]) (cs ++ [ws.map cutW]) ∧ Below w.heap.size w w7) := ⟨(by have hh := HGX.out.1.add (g := g7) (cap := c7) (ad := a4) (n := i) (c := c4) (ws := ws.map cutW) (by rw [List.length_map]; exact HM.out.symm) HBT.out (by rw [HX.out.2.2.1]; exact hown7) hgr7 hat7; rw [HX.out.2.2.1] at hh; exact hh), below_of (HGX.out.2.alloc (by omega) _) hgr7 (Nat.le_refl _) (fun j hj => (HGX.out.1.own.lt j hj).1)⟩; clear hown7 hgr7 hat7 hlt7)
              go_roundw
              case rel =>
                refine ⟨svs ++ [(a4, i, c4)], cs ++ [ws.map cutW], k + 1, by omega, by go_num, by rw [HCN.out, HM.out]; go_num, by rw [HCN.out, HM.out]; omega, fun ys hys => ?_, by rw [cutG_take HXK.out, HX.out.2.1], by rw [List.length_append, HX.out.2.2.1]; rfl, HG7.out.1, HG7.out.2⟩
                rw [List.take_add_one, HXK.out] at hys
                rcases List.mem_append.1 hys with h | h
                · exact HX.out.1 ys h
                · simp at h; subst h; exact HOK.out
              case measure => simp [intOf]; omega
        · have q3 : (eb != 0) = true := by simp; exact he0
          go_wp2_with (first
            | (go_at_call 14; refine (HCB.out _ HX.out.2.2.2.2).mono ?_; rintro e w3 ⟨rfl, hb3⟩; have HB3 : Hid (Below w.heap.size w w3) := HX.out.2.2.2.2.trans (hb3.mono HX.out.2.2.2.2.size); clear hb3)
            | (go_at_call 11; refine (num_any _ _).mono ?_; rintro e w6 ⟨rfl, hw6⟩; obtain rfl := hw6.symm))
          go_ret
          exact ⟨rfl, HB3.out⟩
      · obtain rfl : k = n := by omega
        have q2 : ¬ (k : Int) < (k : Int) := by omega
        have htk : gs.take k = gs := List.take_of_length_le (by rw [HN.out]; exact Nat.le_refl _)
        rw [htk] at hwk HX ⊢
        have HGP : Hid (Fit first (cntW gs) = true → getErr (putB first gs) = 0 ∧ getN (putB first gs) = first ∧ getGs (putB first gs) = cutG gs) := fun h => get_put first gs hf (by rw [HN.out]; omega) HX.out.1 h
        have hpb := putB_bulk first gs hf HBK.out
        obtain ⟨PB, hPB⟩ : ∃ PB, putB first gs = PB := ⟨_, rfl⟩
        have hpne : PB ≠ [] := by rw [← hPB]; unfold putB; intro e; have h1 := (List.append_eq_nil_iff.1 e).1; exact num_ne first h1
        rw [hPB] at hpb
        have HPB : Hid (putB first gs = PB) := hPB
        have HPN : Hid (PB ≠ []) := hpne
        obtain ⟨cn, hcn⟩ : ∃ cn, cntW gs = cn := ⟨_, rfl⟩
        have HCN : Hid (cntW gs = cn) := hcn
        rw [hcn] at hwk ⊢
        clear hPB htk hcn hpne
        by_cases hft : cn = 0 ∨ (first ≤ 72057594037927935 ∧ cn - 1 ≤ 72057594037927935 - first)
        · obtain ⟨he, hnn, hgg⟩ := HGP.out (by rw [HCN.out]; unfold Fit; exact decide_eq_true hft)
          rw [HPB.out] at he hnn hgg
          have HGT : Hid (∀ W a3 c3, IsB W a3 PB → PB.length ≤ c3 → c3 ≤ 9223372036854775807 → Calls Tryd.prog 18 #[.slice a3 PB.length c3] W fun r w' => ∃ v, r = .returned (.tuple #[.int .u64 (first : Int), v, .int .i64 0]) ∧ GtIs W w' (cutG gs) v) := fun W a3 c3 h1 h2 h3 => by
            have hh := get_any a3 c3 PB.length PB W h1 rfl h2 h3 (.inr (by obtain ⟨b, off, e, hr⟩ := h1.1 HPN.out; exact ⟨b, off, e, hr.1⟩)) (by have := HBK.out; omega)
            rw [he, hnn, hgg] at hh
            exact hh
          have hcl : (cutG gs).length = k := by unfold cutG; rw [List.length_map]; exact HN.out
          have HCL : Hid ((cutG gs).length = k) := hcl
          obtain ⟨a9, c9, hv9, hG9⟩ := HX.out.2.2.2.1.isG
          rw [HX.out.2.2.1] at hv9
          rw [HX.out.2.1] at hG9
          have H9 : Hid (IsG wr a9 (cutG gs)) := hG9
          have HBR : Hid (Below w.heap.size w wr) := HX.out.2.2.2.2
          clear he hnn hgg hcl hG9 HX HGP
          subst hv9
          by_cases hc0 : cn = 0
          · have q4 : ¬ (0 : Int) < (cn : Int) := by omega
            go_wp2_with (first
              | (go_at_call 17; refine (put_any first a cap k gs wr hf HN.out.symm (HG.out.below HBR.out) HBK.out).mono ?_; rintro e w3 ⟨v3, rfl, ho3, hb3⟩; rw [HPB.out] at ho3; obtain ⟨a3, c3, rfl, hn3⟩ := New.ofOwn ho3; have H3 : Hid (New 5 wr.heap.size w3 a3 c3 PB ∧ Below w.heap.size w w3 ∧ IsG w3 a9 (cutG gs)) := ⟨hn3, HBR.out.trans (hb3.mono HBR.out.size), H9.out.below hb3⟩; have hle3 := hn3.le; have hmx3 := hn3.max; clear ho3 hb3 hn3)
              | (go_at_call 18; refine (HGT.out w3 a3 c3 H3.out.1.isB hle3 hmx3).mono ?_; rintro e w4 ⟨v4, rfl, hb4, a4, c4, rfl, hG4, h40⟩; rw [HCL.out]; have H4 : Hid (IsG w4 a4 (cutG gs) ∧ IsG w4 a9 (cutG gs) ∧ Below w.heap.size w w4 ∧ (cutG gs).length ≤ 1000000000000) := ⟨hG4, H3.out.2.2.below hb4, below_two H3.out.2.1 hb4, h40⟩; clear hb4 hG4 h40)
              | (go_at_call 19; refine (sameGroups_any a4 a9 c4 c9 k k (cutG gs) w4 H4.out.1 H4.out.2.1 HCL.out.symm HCL.out.symm H4.out.2.2.2).mono ?_; rintro e w' ⟨rfl, d5, rfl⟩; have H5 : Hid (Below w.heap.size w (w4.drewN d5)) := below_two H4.out.2.2.1 (below_drewN (Below.refl _ _) _); generalize w4.drewN d5 = w5 at *)
              | (go_at_call 11; refine (num_any _ _).mono ?_; rintro e w6 ⟨rfl, hw6⟩; obtain rfl := hw6.symm))
            go_ret
            exact ⟨rfl, H5.out⟩
          · have q4 : (0 : Int) < (cn : Int) := by omega
            have q5 : ¬ (72057594037927935 : Int) < (first : Int) := by omega
            have q6 : ¬ (72057594037927935 : Int) - (first : Int) < (cn : Int) - 1 := by omega
            go_wp2_with (first
              | (go_at_call 17; refine (put_any first a cap k gs wr hf HN.out.symm (HG.out.below HBR.out) HBK.out).mono ?_; rintro e w3 ⟨v3, rfl, ho3, hb3⟩; rw [HPB.out] at ho3; obtain ⟨a3, c3, rfl, hn3⟩ := New.ofOwn ho3; have H3 : Hid (New 5 wr.heap.size w3 a3 c3 PB ∧ Below w.heap.size w w3 ∧ IsG w3 a9 (cutG gs)) := ⟨hn3, HBR.out.trans (hb3.mono HBR.out.size), H9.out.below hb3⟩; have hle3 := hn3.le; have hmx3 := hn3.max; clear ho3 hb3 hn3)
              | (go_at_call 18; refine (HGT.out w3 a3 c3 H3.out.1.isB hle3 hmx3).mono ?_; rintro e w4 ⟨v4, rfl, hb4, a4, c4, rfl, hG4, h40⟩; rw [HCL.out]; have H4 : Hid (IsG w4 a4 (cutG gs) ∧ IsG w4 a9 (cutG gs) ∧ Below w.heap.size w w4 ∧ (cutG gs).length ≤ 1000000000000) := ⟨hG4, H3.out.2.2.below hb4, below_two H3.out.2.1 hb4, h40⟩; clear hb4 hG4 h40)
              | (go_at_call 19; refine (sameGroups_any a4 a9 c4 c9 k k (cutG gs) w4 H4.out.1 H4.out.2.1 HCL.out.symm HCL.out.symm H4.out.2.2.2).mono ?_; rintro e w' ⟨rfl, d5, rfl⟩; have H5 : Hid (Below w.heap.size w (w4.drewN d5)) := below_two H4.out.2.2.1 (below_drewN (Below.refl _ _) _); generalize w4.drewN d5 = w5 at *)
              | (go_at_call 11; refine (num_any _ _).mono ?_; rintro e w6 ⟨rfl, hw6⟩; obtain rfl := hw6.symm))
            go_ret
            exact ⟨rfl, H5.out⟩
        · have q4 : (0 : Int) < (cn : Int) := by omega
          have HBR : Hid (Below w.heap.size w wr) := HX.out.2.2.2.2
          by_cases hc0 : 72057594037927935 < first
          · have q5 : (72057594037927935 : Int) < (first : Int) := by omega
            go_wp2
            go_ret
            exact ⟨rfl, HBR.out⟩
          · have q5 : ¬ (72057594037927935 : Int) < (first : Int) := by omega
            have q6 : (72057594037927935 : Int) - (first : Int) < (cn : Int) - 1 := by omega
            go_wp2
            go_ret
            exact ⟨rfl, HBR.out⟩

end Lgw
end Go.Proofs.YtakgakjkemphlabDoor
