import Derived.Test.YtakgakjkemphlaaRg7
namespace Go.Proofs.Ytakgakjkemphlaa
namespace Rfg
open Go.RowKit CMath Byt Cod Lg Laws Grp Lgg Crw Rfw
set_option linter.unusedVariables false
set_option linter.unusedSimpArgs false
set_option maxRecDepth 20000

theorem uint_sub (b off cap n p : Nat) (l : List Nat) (W : World) (h : IsB W (some ⟨b, off, none⟩) l) (hn : n = l.length) (h40 : n ≤ 1000000000000) {x k f : Nat} (hr : rd (l.drop p) 0 0 = (x, k, f)) :
    Calls Try.prog 43 #[.slice (some ⟨b, off + p, none⟩) (n - p) (cap - p)] W fun e w' => e = .returned (.tuple #[.int .u64 (x : Int), .int .i64 (k : Int), .int .i64 (f : Int)]) ∧ w' = W := by
  have hh := refUint_any (some ⟨b, off + p, none⟩) (cap - p) (n - p) (l.drop p) W (isB_sub h p) (by simp; omega) (by simp [hn])
  rw [hr] at hh
  exact hh
theorem uint_end (b off c : Nat) (W : World) :
    Calls Try.prog 43 #[.slice (some ⟨b, off, none⟩) 0 c] W fun e w' => e = .returned (.tuple #[.int .u64 0, .int .i64 0, .int .i64 20]) ∧ w' = W := by
  have hh := refUint_any (some ⟨b, off, none⟩) c 0 [] W (IsB.nil _ _) (by simp) rfl
  rw [rd_nil] at hh
  exact hh

theorem GxAns.ok {w wr : World} {l : List Nat} {v : Value} {svs : List Sv} {gs : List (List W3)} {n1 : Nat} (h0 : getErr l = 0) (h1 : getGs l = gs ∧ getN l = n1) (hG : Gn w.heap.size wr v svs gs) (hb : Below w.heap.size w wr) (hl : gs.length ≤ 1000000000000) : GxAns w l (.returned (.tuple #[.int .u64 (n1 : Int), v, .int .i64 0])) wr := by
  obtain ⟨a, c, e, hi⟩ := hG.isG
  exact ⟨v, by rw [h0, h1.2]; rfl, by rw [h1.1]; exact ⟨hb, a, c, e, hi, hl⟩⟩
theorem below_two {w w1 w2 : World} (h : Below w.heap.size w w1) (h2 : Below w1.heap.size w1 w2) : Below w.heap.size w w2 := h.trans (h2.mono h.size)

set_option maxHeartbeats 4000000 in
theorem refGet_any (a : Option Addr) (cap n : Nat) (l : List Nat) (w : World) (h : IsB w a l) (hn : n = l.length) (hcap : n ≤ cap) (hmx : cap ≤ 9223372036854775807) (h40 : n ≤ 1000000000000) :
    Calls Try.prog 14 #[.slice a n cap] w fun e w' => GxAns w l e w' := by
  obtain ⟨i65, hiw, hzw0, hzw1, hzw2⟩ := info_parts infoW'
  obtain ⟨i63, his, hzs0, hzs1, hzs2⟩ := info_parts infoS
  have HI : Hid (IsB w a l) := h
  have HLL : Hid (n = l.length) := hn
  obtain ⟨⟨n1, k1, f1⟩, hr1⟩ : ∃ x, rd l 0 0 = x := ⟨_, rfl⟩
  have hk1 := rd_k h.2 hr1
  have HR1 : Hid (rd l 0 0 = (n1, k1, f1)) := hr1
  have HU := refUint_any a cap n l w h (by omega) hn
  rw [hr1] at HU
  have HUU : Hid (Calls Try.prog 43 #[.slice a n cap] w fun e w' => e = .returned (.tuple #[.int .u64 (n1 : Int), .int .i64 (k1 : Int), .int .i64 (f1 : Int)]) ∧ w' = w) := HU
  have hby := h.2
  have HBY : Hid (∀ x ∈ l, x < 256) := hby
  rw [← hn] at hk1
  clear HU h hr1 hby hn
  by_cases hf1 : f1 = 0
  · subst hf1
    have hne : l ≠ [] := by intro e; have := HR1.out; rw [e, rd_nil] at this; cases this
    obtain ⟨b, off, rfl, _⟩ := HI.out.1 hne
    obtain ⟨⟨n2, k2, f2⟩, hr2⟩ : ∃ x, rd (l.drop k1) 0 0 = x := ⟨_, rfl⟩
    have hk2 := rd_k (fun x hx => HBY.out x (List.mem_of_mem_drop hx)) hr2
    have HR2 : Hid (rd (l.drop k1) 0 0 = (n2, k2, f2)) := hr2
    have hkl : (l.drop k1).length = n - k1 := by simp [HLL.out]
    rw [hkl] at hk2
    have t1 : (k1 : Int) ≤ (n : Int) := by omega
    have t2 : (k1 : Int) ≤ (cap : Int) := by omega
    have HNX : Hid True := trivial
    clear hr2 hkl hne
    by_cases hc1 : cap = k1
    · have hd0 : l.drop k1 = [] := List.drop_of_length_le (by have := HLL.out; omega)
      have hE : getErr l = 20 := getErr2 HR1.out (grp1 (n := 0) (k := 0) (f := 20) (by rw [hd0]; exact rd_nil) (by omega)) (by omega)
      have HE : Hid (getErr l = 20) := hE
      have z1 : cap - k1 = 0 := by omega
      have z2 : n - k1 = 0 := by omega
      clear hd0 hE hc1
      go_enter Try.func14, Try.ntmps14
      go_wp2_with fail
      refine HUU.out.mono ?_
      rintro e w1 ⟨rfl, hw1⟩
      obtain rfl := hw1.symm
      go_wp2_with fail
      refine (uint_end b off _ w).mono ?_
      rintro e w1 ⟨rfl, hw1⟩
      obtain rfl := hw1.symm
      go_wp2_with fail
      go_ret3
      exact GxAns.err (e := 20) HE.out (by decide) (Below.refl _ _)
    · have z1 : ¬ cap - k1 = 0 := by omega
      have z2 : k1 < cap := by omega
      have z3 : (k1 : Int) < (cap : Int) := by omega
      go_enter Try.func14, Try.ntmps14
      go_wp2_with fail
      refine HUU.out.mono ?_
      rintro e w1 ⟨rfl, hw1⟩
      obtain rfl := hw1.symm
      go_wp2_with fail
      refine (uint_sub b off cap n k1 l w HI.out HLL.out h40 HR2.out).mono ?_
      rintro e w1 ⟨rfl, hw1⟩
      obtain rfl := hw1.symm
      clear hw1
      by_cases hf2 : f2 = 0
      · subst hf2
        go_wp2
        go_loopw [6, 11, 12, 13] (fun vat v vw vi wr => ∃ (svs : List Sv) (gs : List (List W3)) (p : Nat), vat = .int .i64 (p : Int) ∧ vi = .int .u64 (gs.length : Int) ∧ vw = .int .u64 (cntW gs : Int) ∧ gs.length ≤ n2 ∧ p ≤ n ∧ gs.length ≤ p ∧ cntW gs ≤ 16 * gs.length ∧ Hid (Gn w.heap.size wr v svs gs ∧ Gat n2 (l.drop (k1 + k2)) gs (l.drop p) ∧ Below w.heap.size w wr)) (fun _ _ _ vi _ => n2 - (intOf vi).toNat)
        case atStart => exact ⟨[], [], k1 + k2, by go_num, rfl, by simp [cntW], Nat.zero_le _, by omega, Nat.zero_le _, by simp [cntW], ⟨rfl, World.ownsRow_nil _ _ _ _, fun i sv ws h => by simp at h⟩, by simp [Gat], Below.refl _ _⟩
        case round =>
          obtain ⟨svs, gs, p, rfl, rfl, rfl, hgn, hpn, hgp, hcn, HX⟩ := hrel
          rename World => wr
          obtain ⟨j, hj⟩ : ∃ j, gs.length = j := ⟨_, rfl⟩
          obtain ⟨cn, hcj⟩ : ∃ cn, cntW gs = cn := ⟨_, rfl⟩
          have HJ : Hid (gs.length = j ∧ cntW gs = cn) := ⟨hj, hcj⟩
          rw [hj] at hgn hgp hcn ⊢
          rw [hcj] at hcn ⊢
          clear hj hcj
          by_cases hlt2 : j < n2
          · have q2 : (j : Int) < (n2 : Int) := by omega
            have HGR : Hid (∀ x, (rdB (l.drop p)).2.2 = x → x ≠ 0 → getErr l = x) := fun x hx h0 => by
              have h1 := HX.out.2.1.err (by rw [HJ.out.1]; exact hlt2) (by rw [hx]; exact h0)
              rw [hx] at h1
              exact getErr2 HR1.out (by rw [grp2 HR2.out, List.drop_drop]; exact h1) h0
            have HGO : Hid ((rdB (l.drop p)).2.2 = 0 → Gat n2 (l.drop (k1 + k2)) (gs ++ [(rdB (l.drop p)).1]) (rdB (l.drop p)).2.1) := HX.out.2.1.ok (by rw [HJ.out.1]; exact hlt2)
            obtain ⟨⟨n3, k3, f3⟩, hr3⟩ : ∃ x, rd (l.drop p) 0 0 = x := ⟨_, rfl⟩
            have hk3 := rd_k (fun x hx => HBY.out x (List.mem_of_mem_drop hx)) hr3
            have hkl3 : (l.drop p).length = n - p := by simp [HLL.out]
            have hb3 : f3 = 0 → 1 ≤ k3 := fun e => by subst e; have := rd_bytes (fun x hx => HBY.out x (List.mem_of_mem_drop hx)) hr3; omega
            rw [hkl3] at hk3
            have HR3 : Hid (rd (l.drop p) 0 0 = (n3, k3, f3)) := hr3
            have HB3 : Hid (rdB (l.drop p) = if f3 ≠ 0 then ([], [], f3) else if 16 < n3 then ([], [], 22) else rdWs n3 ((l.drop p).drop k3)) := by show _ = _; unfold rdB; rw [hr3]
            clear hr3 hkl3
            have t3 : (p : Int) ≤ (n : Int) := by omega
            have t4 : (p : Int) ≤ (cap : Int) := by omega
            by_cases hcp : cap = p
            · have hd0 : l.drop p = [] := List.drop_of_length_le (by have := HLL.out; omega)
              have HE : Hid (getErr l = 20) := HGR.out 20 (by rw [hd0]; simp [rdB, rd]) (by decide)
              have z4 : cap - p = 0 := by omega
              have z5 : n - p = 0 := by omega
              clear hd0 hcp
              go_wp2_with fail
              refine (uint_end b off _ wr).mono ?_
              rintro e w1 ⟨rfl, hw1⟩
              obtain rfl := hw1.symm
              go_wp2
              go_ret3
              exact GxAns.err (e := 20) HE.out (by decide) HX.out.2.2
            · have z4 : ¬ cap - p = 0 := by omega
              have z5 : p < cap := by omega
              have z6 : (p : Int) < (cap : Int) := by omega
              go_wp2_with fail
              refine (uint_sub b off cap n p l wr (HI.out.below HX.out.2.2) HLL.out h40 HR3.out).mono ?_
              rintro e w1 ⟨rfl, hw1⟩
              obtain rfl := hw1.symm
              clear hw1
              by_cases hf3 : f3 = 0
              · subst hf3
                have hb3' := hb3 rfl
                clear hb3
                by_cases h16 : 16 < n3
                · have HE : Hid (getErr l = 22) := HGR.out 22 (by rw [HB3.out, if_neg (by simp), if_pos h16]) (by decide)
                  have q4 : (16 : Int) < (n3 : Int) := by omega
                  go_wp2
                  go_ret3
                  exact GxAns.err (e := 22) HE.out (by decide) HX.out.2.2
                · have HB4 : Hid (rdB (l.drop p) = rdWs n3 (l.drop (p + k3))) := by show _ = _; rw [HB3.out, if_neg (by simp), if_neg h16, List.drop_drop]
                  have q4 : ¬ (16 : Int) < (n3 : Int) := by omega
                  clear HB3
                  go_wp2
                  go_loopw [6, 17, 18] (fun vat vb vi wx => ∃ (xs : List W3) (q : Nat), vat = .int .i64 (q : Int) ∧ vi = .int .u64 (xs.length : Int) ∧ xs.length ≤ n3 ∧ q ≤ n ∧ p + k3 ≤ q ∧ Hid (wx.ownsRow wr.heap.size 65 3 vb xs.length (kW.cells xs) ∧ Wat n3 (l.drop (p + k3)) xs (l.drop q) 0 ∧ Below wr.heap.size wr wx ∧ (∀ x ∈ xs, x.1.size ≤ 1000 ∧ x.2.2.size ≤ 1000))) (fun _ _ vi _ => n3 - (intOf vi).toNat)
                  case atStart => exact ⟨[], p + k3, by go_num, rfl, Nat.zero_le _, by omega, Nat.le_refl _, World.ownsRow_nil _ _ _ _, ⟨fun _ => by simp, fun h => absurd rfl h⟩, Below.refl _ _, by simp⟩
                  case round =>
                    obtain ⟨xs, q, rfl, rfl, hxn, hqn, hpq, HY⟩ := hrel
                    rename World => wx
                    obtain ⟨i, hi0⟩ : ∃ i, xs.length = i := ⟨_, rfl⟩
                    have HII : Hid (xs.length = i) := hi0
                    rw [hi0] at hxn ⊢
                    clear hi0
                    by_cases hlt3 : i < n3
                    · have q6 : (i : Int) < (n3 : Int) := by omega
                      have t5 : (q : Int) ≤ (n : Int) := by omega
                      have t6 : (q : Int) ≤ (cap : Int) := by omega
                      have HIX : Hid (IsB wx (some ⟨b, off, none⟩) l) := (HI.out.below HX.out.2.2).below HY.out.2.2.1
                      have HWE : Hid (∀ f, f = (rdW (l.drop q)).2.2 → f ≠ 0 → getErr l = f) := fun f hf h0 => by
                        have h1 := (HY.out.2.1.step (x := noW) (l' := []) (f := f) (by rw [HII.out]; exact hlt3) (fun _ => ⟨hf, fun h => absurd h h0⟩) (fun h => absurd rfl h)).2 h0
                        exact HGR.out f (by rw [HB4.out]; exact h1) h0
                      by_cases hcq : cap = q
                      · have hd0 : l.drop q = [] := List.drop_of_length_le (by have := HLL.out; omega)
                        have HE : Hid (getErr l = 20) := HWE.out 20 (by rw [hd0]; simp [rdW]) (by decide)
                        have z7 : cap - q = 0 := by omega
                        have z8 : n - q = 0 := by omega
                        clear hd0 hcq
                        go_wp2_with fail
                        refine (refWrite_any (some ⟨b, off, none⟩) _ 0 [] wx (IsB.nil _ _) rfl (Nat.zero_le _) (by omega)).mono ?_
                        rintro e w2 ⟨⟨kk, dd, vv⟩, sz, f, rfl, hf4, _, hb2⟩
                        obtain rfl : f = 20 := hf4.trans (by simp [rdW])
                        dsimp only
                        have HB2 : Hid (Below w.heap.size w w2) := below_two (below_two HX.out.2.2 HY.out.2.2.1) hb2
                        have hs2 := HB2.out.size
                        clear hb2 hf4
                        go_wp2
                        go_ret3
                        exact GxAns.err (e := 20) HE.out (by decide) (HB2.out.alloc hs2 _)
                      · have z7 : ¬ cap - q = 0 := by omega
                        have z8 : q < cap := by omega
                        have z9 : (q : Int) < (cap : Int) := by omega
                        have HWW : Hid (Calls Try.prog 44 #[.slice (some ⟨b, off + q, none⟩) (n - q) (cap - q)] wx fun e w' => RwAns wx (l.drop q) e w') := refWrite_any _ _ _ _ wx (isB_sub HIX.out q) (by simp [HLL.out]) (by simp; have := HLL.out; omega) (by omega)
                        go_wp2_with fail
                        refine HWW.out.mono ?_
                        rintro e w2 ⟨⟨kk, dd, vv⟩, sz, f, rfl, hf, hok, hb2⟩
                        dsimp only
                        have HB2 : Hid (Below w.heap.size w w2) := below_two (below_two HX.out.2.2 HY.out.2.2.1) hb2
                        have hs2 := HB2.out.size
                        have hs1 := HX.out.2.2.size
                        have hsx := hb2.size
                        by_cases hf4 : f = 0
                        · subst hf4
                          obtain ⟨hx1, hx2, hx3, hx4, hx5⟩ := hok rfl
                          dsimp only at hx4 hx5
                          have hsz : q + sz ≤ n := by have h1 := HLL.out; simp at hx3; omega
                          have HW : Hid (Wat n3 (l.drop (p + k3)) (xs ++ [(kk, dd, vv)]) (l.drop (q + sz)) 0 ∧ Below wr.heap.size wr w2 ∧ w2.ownsRow wr.heap.size 65 3 _ xs.length (kW.cells xs) ∧ (kk.size ≤ 1000 ∧ vv.size ≤ 1000)) := ⟨HY.out.2.1.step (by rw [HII.out]; exact hlt3) (fun _ => ⟨hf, fun _ => ⟨hx1, by rw [hx2, List.drop_drop]⟩⟩) (fun h => absurd rfl h), below_two HY.out.2.2.1 hb2, own_below'' HY.out.1 hb2, hx4, hx5⟩
                          have hsr := HY.out.2.2.1.size
                          clear hf hok hx1 hx2 hx3 hx4 hx5 hb2
                          go_wp2_with (at_builtin; refine wpList_app _ (by rfl) (.tmp 82) (.tmp 84) 63 (by rfl) wr.heap.size 65 i65 _ 3 40 undW' hiw hzw0 hzw1 hzw2 rfl (by omega) u17 i (kW.cells xs) (by rfl) (by rw [← HII.out]; exact (HW.out.2.2.1.alloc _).alloc _) ⟨w2.heap.size + 1, 0, none⟩ 1 1 [.string kk, .bool dd, .string vv] (by rfl) (by rfl) (by rw [show w2.heap.size + 1 = (w2.alloc (.cells #[.string kk, .bool dd, .string vv] 65)).heap.size from (by simp)]; exact World.news_of_block (heap_alloc_new _ _)) (by intro u hu; simp at hu; rcases hu with rfl | rfl | rfl <;> rfl) (by intro _; omega) (by unfold maxLen; omega) (by omega) (by simp; omega) (w2.heap.size + 2) (by simp) ?_; intro g3 c3 w3 hown3 hgr3 hat3 hlt3; have HG3 : Hid (w3.ownsRow wr.heap.size 65 3 (.slice (some ⟨g3, 0, none⟩) (i + 1) c3) (i + 1) (kW.cells (xs ++ [(kk, dd, vv)])) ∧ Below wr.heap.size wr w3) := ⟨by rw [cells_one]; exact hown3, below_of ((HW.out.2.1.alloc (by omega) _).alloc (by simp; omega) _) hgr3 (Nat.le_refl _) (fun j hj => (HW.out.2.2.1.lt j hj).1)⟩; clear hown3 hgr3 hat3 hlt3)
                          go_roundw
                          case rel => exact ⟨xs ++ [(kk, dd, vv)], q + sz, by go_num, by rw [List.length_append, HII.out]; go_num, by rw [List.length_append, HII.out]; simp; omega, hsz, by omega, by rw [List.length_append, HII.out]; exact HG3.out.1, HW.out.1, HG3.out.2, fun x hx => by rcases List.mem_append.1 hx with h | h; exact HY.out.2.2.2 x h; simp at h; subst h; exact HW.out.2.2.2⟩
                          case measure => simp [intOf]; omega
                        · have HE : Hid (getErr l = f) := HWE.out f hf hf4
                          have q7 : ¬ (f : Int) = 0 := by omega
                          have q8 : ((f : Int) != 0) = true := by simp; omega
                          clear hf hok hb2
                          go_wp2
                          go_ret3
                          exact GxAns.err HE.out hf4 (HB2.out.alloc hs2 _)
                    · obtain rfl : i = n3 := by omega
                      have q6 : ¬ (i : Int) < (i : Int) := by omega
                      obtain ⟨ad, c, hv, hbat⟩ := own_wr HY.out.1 HY.out.2.2.2 (by rw [HII.out]; omega)
                      rw [HII.out] at hv
                      have hw0 := HY.out.2.1.1 rfl
                      rw [HII.out, Nat.sub_self] at hw0
                      have e3 : rdB (l.drop p) = (xs, l.drop q, 0) := by rw [HB4.out, hw0]; simp [rdWs]
                      have HGA : Hid (Gat n2 (l.drop (k1 + k2)) (gs ++ [xs]) (l.drop q)) := by have hh := HGO.out (by rw [e3]); rw [e3] at hh; exact hh
                      have HGX : Hid (Gn w.heap.size wx u11 svs gs ∧ Below w.heap.size w wx) := ⟨HX.out.1.below HY.out.2.2.1, below_two HX.out.2.2 HY.out.2.2.1⟩
                      have hs1 := HX.out.2.2.size
                      have hsr := HY.out.2.2.1.size
                      have HBT : Hid ((ad = none ∧ xs = []) ∨ ∃ b, ad = some ⟨b, 0, none⟩ ∧ w.heap.size ≤ b ∧ b < wx.heap.size ∧ u11.ownBlock ≠ some b ∧ Chk.IsWr wx (some ⟨b, 0, none⟩) xs) := by
                        rcases hbat with h | ⟨g, g1, g2, g3, g4⟩
                        · exact .inl h
                        · exact .inr ⟨g, g1, by omega, g3, fun e => by have := (HX.out.1.own.lt _ e).2; omega, g4⟩
                      clear hbat hw0 e3 HY
                      subst hv
                      go_wp2_with (at_builtin; refine wpList_app _ (by rfl) (.tmp 89) (.tmp 91) 23 (by rfl) w.heap.size 63 i63 _ 1 24 undG his hzs0 hzs1 hzs2 rfl (by omega) u11 j (kS.cells svs) (by rfl) (by rw [← HJ.out.1]; exact HGX.out.1.own.alloc _) ⟨wx.heap.size, 0, none⟩ 1 1 [.slice ad i c] (by rfl) (by rfl) (World.news_of_block (heap_alloc_new _ _)) (by intro u hu; simp at hu; subst hu; rfl) (by intro _; omega) (by unfold maxLen; omega) (by omega) (by simp; omega) (wx.heap.size + 1) (by simp) ?_; intro g3 c3 w3 hown3 hgr3 hat3 hlt3; have HG3 : Hid (Gn w.heap.size w3 (.slice (some ⟨g3, 0, none⟩) (j + 1) c3) (svs ++ [(ad, i, c)]) (gs ++ [xs]) ∧ Below w.heap.size w w3) := ⟨(by have hh := HGX.out.1.add (g := g3) (cap := c3) (ad := ad) (n := i) (c := c) (ws := xs) HII.out.symm HBT.out (by rw [HJ.out.1]; exact hown3) hgr3 hat3; rw [HJ.out.1] at hh; exact hh), below_of (HGX.out.2.alloc (by omega) _) hgr3 (Nat.le_refl _) (fun j hj => (HGX.out.1.own.lt j hj).1)⟩; clear hown3 hgr3 hat3 hlt3)
                      go_roundw
                      case rel => exact ⟨svs ++ [(ad, i, c)], gs ++ [xs], q, rfl, by rw [List.length_append, HJ.out.1]; go_num, by rw [cntW_snoc, HJ.out.2, HII.out]; go_num, by rw [List.length_append, HJ.out.1]; simp; omega, hqn, by rw [List.length_append, HJ.out.1]; simp; omega, by rw [cntW_snoc, HJ.out.2, HII.out, List.length_append, HJ.out.1]; simp; omega, HG3.out.1, HGA.out, HG3.out.2⟩
                      case measure => simp [intOf]; omega
              · have q4 : ((f3 : Int) != 0) = true := by simp; omega
                have q5 : ¬ (f3 : Int) = 0 := by omega
                have HE : Hid (getErr l = f3) := HGR.out f3 (by rw [HB3.out, if_pos hf3]) hf3
                go_wp2
                go_ret3
                exact GxAns.err HE.out hf3 HX.out.2.2
          · obtain rfl : j = n2 := by omega
            have q2 : ¬ (j : Int) < (j : Int) := by omega
            have hg := HX.out.2.1
            unfold Gat at hg
            rw [HJ.out.1, Nat.sub_self] at hg
            have e2 : rdGs j (l.drop (k1 + k2)) = (gs, l.drop p, 0) := by rw [hg]; simp [rdGs]
            have hgr : grp (l.drop k1) 0 = (gs, l.drop p, 0) := by rw [grp2 HR2.out, List.drop_drop]; exact e2
            have hE := getErr_eq l
            rw [HR1.out] at hE
            dsimp only at hE
            rw [hgr, if_neg (by simp)] at hE
            dsimp only at hE
            rw [if_neg (by simp)] at hE
            have HGE : Hid (getErr l = if l.drop p ≠ [] then 21 else if Fit n1 (cntW gs) = true then 0 else 22) := hE
            have HGG : Hid (getErr l = 0 → getGs l = gs ∧ getN l = n1) := fun h0 => by
              have h1 := getGs_eq l
              rw [if_neg (by simpa using h0), HR1.out] at h1
              dsimp only at h1
              rw [hgr] at h1
              refine ⟨h1, ?_⟩
              unfold getN
              rw [if_neg (by simpa using h0), HR1.out]
            clear hg e2 hgr hE
            by_cases hpl : p < n
            · have q3 : (p : Int) < (n : Int) := by omega
              have hnd : l.drop p ≠ [] := by intro e; have h1 := congrArg List.length e; have h2 := HLL.out; simp at h1; omega
              have HE : Hid (getErr l = 21) := by have h1 := HGE.out; rw [if_pos hnd] at h1; exact h1
              clear hnd
              go_wp2
              go_ret3
              exact GxAns.err (e := 21) HE.out (by decide) HX.out.2.2
            · have q3 : ¬ (p : Int) < (n : Int) := by omega
              have hnd : ¬ l.drop p ≠ [] := by have h2 := HLL.out; simp; omega
              have hF := HGE.out
              rw [if_neg hnd, HJ.out.2] at hF
              have hb1 := hk1.2.2.1
              clear hnd
              by_cases hft : Fit n1 cn = true
              · rw [if_pos hft] at hF
                have HF0 : Hid (getErr l = 0) := hF
                have hft2 : cn = 0 ∨ (n1 ≤ 72057594037927935 ∧ cn - 1 ≤ 72057594037927935 - n1) := by unfold Fit at hft; exact of_decide_eq_true hft
                clear hF hft
                have hg0 := HGG.out HF0.out
                have HGK : Hid (getGs l = gs ∧ getN l = n1) := hg0
                have hgl : gs.length ≤ 1000000000000 := by rw [HJ.out.1]; omega
                have HGL : Hid (gs.length ≤ 1000000000000) := hgl
                clear hg0 hgl
                by_cases hc0 : cn = 0
                · have q4 : ¬ (0 : Int) < (cn : Int) := by omega
                  go_wp2
                  go_ret3
                  exact GxAns.ok HF0.out HGK.out HX.out.1 HX.out.2.2 HGL.out
                · have q4 : (0 : Int) < (cn : Int) := by omega
                  have q5 : ¬ (72057594037927935 : Int) < (n1 : Int) := by omega
                  have q6 : ¬ (72057594037927935 : Int) - (n1 : Int) < (cn : Int) - 1 := by omega
                  go_wp2
                  go_ret3
                  exact GxAns.ok HF0.out HGK.out HX.out.1 HX.out.2.2 HGL.out
              · rw [if_neg hft] at hF
                have HF0 : Hid (getErr l = 22) := hF
                have hft2 : ¬ (cn = 0 ∨ (n1 ≤ 72057594037927935 ∧ cn - 1 ≤ 72057594037927935 - n1)) := fun hh => hft (by unfold Fit; exact decide_eq_true hh)
                clear hF hft
                have q4 : (0 : Int) < (cn : Int) := by omega
                by_cases hc0 : 72057594037927935 < n1
                · have q5 : (72057594037927935 : Int) < (n1 : Int) := by omega
                  go_wp2
                  go_ret3
                  exact GxAns.err (e := 22) HF0.out (by decide) HX.out.2.2
                · have q5 : ¬ (72057594037927935 : Int) < (n1 : Int) := by omega
                  have q6 : (72057594037927935 : Int) - (n1 : Int) < (cn : Int) - 1 := by omega
                  go_wp2
                  go_ret3
                  exact GxAns.err (e := 22) HF0.out (by decide) HX.out.2.2
      · have q2 : ((f2 : Int) != 0) = true := by simp; omega
        have q3 : ¬ (f2 : Int) = 0 := by omega
        have HE : Hid (getErr l = f2) := getErr2 HR1.out (grp1 HR2.out hf2) hf2
        go_wp2
        go_ret3
        exact GxAns.err HE.out hf2 (Below.refl _ _)
  · have q2 : ((f1 : Int) != 0) = true := by simp; omega
    have q3 : ¬ (f1 : Int) = 0 := by omega
    have HE : Hid (getErr l = f1) := getErr1 HR1.out hf1
    go_enter Try.func14, Try.ntmps14
    go_wp2_with fail
    refine HUU.out.mono ?_
    rintro e w1 ⟨rfl, hw1⟩
    obtain rfl := hw1.symm
    go_wp2
    go_ret3
    exact GxAns.err HE.out hf1 (Below.refl _ _)

end Rfg
end Go.Proofs.Ytakgakjkemphlaa
