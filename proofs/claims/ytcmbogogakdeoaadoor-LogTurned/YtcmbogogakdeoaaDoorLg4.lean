import Derived.Test.YtcmbogogakdeoaaDoorLg3
namespace Go.Proofs.YtcmbogogakdeoaaDoor
namespace Lgg
open Go.RowKit CMath Byt Cod Lg Laws Grp
set_option linter.unusedVariables false
set_option linter.unusedSimpArgs false
set_option maxRecDepth 20000

/-- n writes being laid at G: the first are xs -/
structure Mw (W : World) (G n : Nat) (xs : List W3) : Prop where
  lt : G < W.heap.size
  le : xs.length ≤ n
  ex : ∀ j, j < n * 3 → ∃ u, W.cell? ⟨G, j, none⟩ = some u
  fr : ∀ j, W.frozen? ⟨G, j, none⟩ = false
  row : ∀ (i : Nat) x, xs[i]? = some x → W.cell? ⟨G, i * 3, none⟩ = some (.string x.1) ∧ W.cell? ⟨G, i * 3 + 1, none⟩ = some (.bool x.2.1) ∧ W.cell? ⟨G, i * 3 + 2, none⟩ = some (.string x.2.2)
  sz : ∀ x ∈ xs, x.1.size ≤ 1000 ∧ x.2.2.size ≤ 1000
theorem Mw.start {w w1 : World} {n : Nat} {z : Value} (h : w1.ownsRow w.heap.size 40 3 (.slice (some ⟨w.heap.size, 0, none⟩) n n) n (madeCells z.cells (n * 3)).toList) : Mw w1 w.heap.size n [] := by
  refine ⟨(h.lt _ rfl).2, by simp, fun j hj => ?_, fun j => h.frozenAt j, fun i x hi => by simp at hi, by simp⟩
  rw [h.cellAt j hj]
  have : j < (madeCells z.cells (n * 3)).toList.length := by simpa [size_madeCells] using hj
  exact ⟨_, List.getElem?_eq_getElem this⟩
theorem Mw.keep {W W' : World} {G n R : Nat} {xs : List W3} (h : Mw W G n xs) (hk : Keep [R] W W') (hG : G ≠ R) : Mw W' G n xs := by
  have hm : G ∉ [R] := by simpa using hG
  have hc : ∀ j, W'.cell? ⟨G, j, none⟩ = W.cell? ⟨G, j, none⟩ := fun j => hk.cell (p := ⟨G, j, none⟩) h.lt hm
  refine ⟨Nat.lt_of_lt_of_le h.lt hk.size, h.le, fun j hj => by rw [hc]; exact h.ex j hj, fun j => (hk.frozen (p := ⟨G, j, none⟩) h.lt hm).trans (h.fr j), fun i x hx => ?_, h.sz⟩
  rw [hc, hc, hc]
  exact h.row i x hx
theorem cell_set_ne {W : World} {G i j : Nat} {u : Value} (h : j ≠ i) : (W.setCell ⟨G, i, none⟩ u).cell? ⟨G, j, none⟩ = W.cell? ⟨G, j, none⟩ := World.cell?_setCell_other _ _ _ _ (by simp; try omega)
theorem Mw.add {W : World} {G n : Nat} {xs : List W3} (h : Mw W G n xs) (x : W3) (hn : xs.length < n) (hx : x.1.size ≤ 1000 ∧ x.2.2.size ≤ 1000) :
    Mw (((W.setCell ⟨G, xs.length * 3, none⟩ (.string x.1)).setCell ⟨G, xs.length * 3 + 1, none⟩ (.bool x.2.1)).setCell ⟨G, xs.length * 3 + 2, none⟩ (.string x.2.2)) G n (xs ++ [x]) := by
  obtain ⟨u0, h0⟩ := h.ex (xs.length * 3) (by omega)
  obtain ⟨u1, h1⟩ := h.ex (xs.length * 3 + 1) (by omega)
  obtain ⟨u2, h2⟩ := h.ex (xs.length * 3 + 2) (by omega)
  have k0 : (((W.setCell ⟨G, xs.length * 3, none⟩ (.string x.1)).setCell ⟨G, xs.length * 3 + 1, none⟩ (.bool x.2.1)).setCell ⟨G, xs.length * 3 + 2, none⟩ (.string x.2.2)).cell? ⟨G, xs.length * 3, none⟩ = some (.string x.1) := by
    rw [cell_set_ne (by omega), cell_set_ne (by omega)]
    exact World.cell?_setCell_same _ _ _ h0
  have k1 : (((W.setCell ⟨G, xs.length * 3, none⟩ (.string x.1)).setCell ⟨G, xs.length * 3 + 1, none⟩ (.bool x.2.1)).setCell ⟨G, xs.length * 3 + 2, none⟩ (.string x.2.2)).cell? ⟨G, xs.length * 3 + 1, none⟩ = some (.bool x.2.1) := by
    rw [cell_set_ne (by omega)]
    refine World.cell?_setCell_same _ _ _ (?_ : _ = some u1)
    rw [cell_set_ne (by omega)]; exact h1
  have k2 : (((W.setCell ⟨G, xs.length * 3, none⟩ (.string x.1)).setCell ⟨G, xs.length * 3 + 1, none⟩ (.bool x.2.1)).setCell ⟨G, xs.length * 3 + 2, none⟩ (.string x.2.2)).cell? ⟨G, xs.length * 3 + 2, none⟩ = some (.string x.2.2) := by
    refine World.cell?_setCell_same _ _ _ (?_ : _ = some u2)
    rw [cell_set_ne (by omega), cell_set_ne (by omega)]; exact h2
  have ko : ∀ j, j ≠ xs.length * 3 → j ≠ xs.length * 3 + 1 → j ≠ xs.length * 3 + 2 → (((W.setCell ⟨G, xs.length * 3, none⟩ (.string x.1)).setCell ⟨G, xs.length * 3 + 1, none⟩ (.bool x.2.1)).setCell ⟨G, xs.length * 3 + 2, none⟩ (.string x.2.2)).cell? ⟨G, j, none⟩ = W.cell? ⟨G, j, none⟩ := fun j a b c => by
    rw [cell_set_ne c, cell_set_ne b, cell_set_ne a]
  refine ⟨by simpa using h.lt, by simp; omega, fun j hj => ?_, fun j => by rw [World.frozen?_setCell, World.frozen?_setCell, World.frozen?_setCell]; exact h.fr j, fun i y hy => ?_, ?_⟩
  · by_cases a : j = xs.length * 3
    · subst a; exact ⟨_, k0⟩
    · by_cases b : j = xs.length * 3 + 1
      · subst b; exact ⟨_, k1⟩
      · by_cases c : j = xs.length * 3 + 2
        · subst c; exact ⟨_, k2⟩
        · rw [ko j a b c]; exact h.ex j hj
  · rcases Nat.lt_trichotomy i xs.length with hi | rfl | hi
    · rw [List.getElem?_append_left hi] at hy
      rw [ko _ (by omega) (by omega) (by omega), ko _ (by omega) (by omega) (by omega), ko _ (by omega) (by omega) (by omega)]
      exact h.row i y hy
    · rw [List.getElem?_append_right (Nat.le_refl _)] at hy
      simp at hy
      subst hy
      exact ⟨k0, k1, k2⟩
    · rw [List.getElem?_append_right (by omega)] at hy
      have : i - xs.length ≠ 0 := by omega
      cases hd : i - xs.length with
      | zero => omega
      | succ d => rw [hd] at hy; simp at hy
  · intro y hy
    rcases List.mem_append.1 hy with hy | hy
    · exact h.sz y hy
    · simp at hy; subst hy; exact hx
theorem Mw.isWr {W : World} {G n : Nat} {xs : List W3} (h : Mw W G n xs) (hn : n ≤ 16) : Chk.IsWr W (some ⟨G, 0, none⟩) xs := by
  have := h.le
  refine ⟨fun _ => ⟨G, 0, rfl, h.lt, fun i x hx => ?_⟩, by unfold maxLen; omega, fun x hx => by have := h.sz x hx; unfold maxLen; omega⟩
  rw [Nat.zero_add]
  exact h.row i x hx

/-- how far the writes of a batch are read -/
def Wat (n : Nat) (l1 : List Nat) (xs : List W3) (l : List Nat) (e : Nat) : Prop :=
  (e = 0 → (rdWs n l1) = (xs ++ (rdWs (n - xs.length) l).1, (rdWs (n - xs.length) l).2)) ∧ (e ≠ 0 → (rdWs n l1).2.2 = e)
theorem Wat.step {n : Nat} {l1 : List Nat} {xs : List W3} {l : List Nat} {e : Nat} (h : Wat n l1 xs l e) (hn : xs.length < n) {x : W3} {l' : List Nat} {f : Nat} (h0 : e = 0 → f = (rdW l).2.2 ∧ (f = 0 → x = (rdW l).1 ∧ l' = (rdW l).2.1)) (h1 : e ≠ 0 → f = e) : Wat n l1 (xs ++ [x]) l' f := by
  have hd : n - xs.length = (n - (xs ++ [x]).length) + 1 := by simp; omega
  by_cases he : e = 0
  · have hh := h.1 he
    obtain ⟨g1, g2⟩ := h0 he
    have hs : rdWs (n - xs.length) l = if (rdW l).2.2 ≠ 0 then ([], [], (rdW l).2.2) else ((rdW l).1 :: (rdWs (n - (xs ++ [x]).length) (rdW l).2.1).1, (rdWs (n - (xs ++ [x]).length) (rdW l).2.1).2) := by rw [hd]; rfl
    rw [hs] at hh
    by_cases hf : f = 0
    · rw [if_neg (by rw [← g1]; simpa using hf)] at hh
      obtain ⟨rfl, rfl⟩ := g2 hf
      refine ⟨fun _ => ?_, fun h => absurd hf h⟩
      rw [hh]
      simp
    · rw [if_pos (by rw [← g1]; exact hf)] at hh
      refine ⟨fun h => absurd h hf, fun _ => ?_⟩
      rw [hh, ← g1]
  · have := h1 he
    subst this
    exact ⟨fun h => absurd h he, fun _ => h.2 he⟩

/-- what batch answers -/
def BatIs (w w' : World) (R : Nat) (x : List W3 × List Nat × Nat) (v : Value) : Prop := ∃ (l' : List Nat), Rd w' R l' x.2.2 ∧ Keep [R] w w' ∧ (x.2.2 = 0 → l' = x.2.1 ∧ ∃ b c, v = .slice (some ⟨b, 0, none⟩) x.1.length c ∧ w.heap.size ≤ b ∧ b < w'.heap.size ∧ Chk.IsWr w' (some ⟨b, 0, none⟩) x.1 ∧ x.1.length ≤ 16)
set_option maxHeartbeats 2000000 in
theorem batch_any (R : Nat) (l : List Nat) (w : World) (h : Rd w R l 0) :
    Calls Tryd.prog 34 #[.pointer (some ⟨R, 0, none⟩)] w fun r w' => ∃ (v : Value), r = .returned v ∧ BatIs w w' R (rdB l) v := by
  obtain ⟨i49, hi, hz0, hz1, hz2⟩ := info_parts infoW
  have HN := number_any R l w h
  obtain ⟨⟨n, k, f⟩, hr⟩ : ∃ x, rd l 0 0 = x := ⟨_, rfl⟩
  have hk := rd_k h.by_ hr
  have hlt := h.lt
  have hB : rdB l = if f ≠ 0 then ([], [], f) else if 16 < n then ([], [], 22) else rdWs n (l.drop k) := by unfold rdB; rw [hr]
  rw [hr] at HN
  dsimp only at HN
  have HNN : Hid (Calls Tryd.prog 23 #[.pointer (some ⟨R, 0, none⟩)] w fun r w' => r = .returned (.int .u64 (n : Nat)) ∧ Rd w' R (l.drop k) f ∧ Keep [R] w w') := HN
  clear HN h hr
  by_cases hf : f = 0
  · subst hf
    rw [if_neg (by simp)] at hB
    by_cases h16 : 16 < n
    · rw [if_pos h16] at hB
      rw [hB]
      have q1 : (16 : Int) < (n : Int) := by omega
      go_enter Tryd.func34, Tryd.ntmps34
      go_wp2_with (go_at_call 23; refine HNN.out.mono ?_; rintro r w1 ⟨rfl, hr1, hk1⟩; have HP : Hid (Rd w1 R (l.drop k) 0 ∧ Keep [R] w w1) := ⟨hr1, hk1⟩; have d1 := hr1.c1; have g1 := hr1.fr 1; have hl1 := hr1.lt; clear hr1 hk1)
      go_ret
      exact ⟨_, rfl, _, HP.out.1.err 22, HP.out.2.trans (Keep.set _ R 1 _), fun h => by cases h⟩
    · rw [if_neg h16] at hB
      rw [hB]
      have q1 : ¬ (16 : Int) < (n : Int) := by omega
      go_enter Tryd.func34, Tryd.ntmps34
      go_wp2_with (first
        | (go_at_call 23; refine HNN.out.mono ?_; rintro r w1 ⟨rfl, hr1, hk1⟩; have HP : Hid (Rd w1 R (l.drop k) 0 ∧ Keep [R] w w1) := ⟨hr1, hk1⟩; have d1 := hr1.c1; have hl1 := hr1.lt; clear hr1 hk1)
        | (at_make; refine wpList_make_full _ (by rfl) (.tmp 25) (.tmp 25) 41 (by rfl) w1.heap.size 40 i49 _ 3 Tryd.underlying41 hi hz0 hz1 .u64 .u64 _ _ n (by rfl) (by rfl) rfl rfl (by rw [hz2]; omega) (by unfold maxLen; omega) (Nat.le_refl _) ?_; intro w2 hown2 hgr2; have HM : Hid (Mw w2 w1.heap.size n [] ∧ Rd w2 R (l.drop k) 0 ∧ Keep [R] w w2) := ⟨Mw.start hown2, HP.out.1.below (by simpa using Below.grown (Below.refl _ _) hgr2 (Nat.le_refl _) (by simp)), HP.out.2.later (Keep.grown hgr2) (by simp)⟩; clear hown2 hgr2 d1))
      have hs1 := HP.out.2.size
      go_loopw [29] (fun i wr => ∃ (xs : List W3) (l' : List Nat) (e : Nat), i = .int .i64 (xs.length : Int) ∧ xs.length ≤ n ∧ Hid (Mw wr w1.heap.size n xs ∧ Rd wr R l' e ∧ Keep [R] w wr ∧ Wat n (l.drop k) xs l' e)) (fun i _ => n - (intOf i).toNat)
      case atStart => exact ⟨[], l.drop k, 0, rfl, by simp, HM.out.1, HM.out.2.1, HM.out.2.2, fun _ => by simp, fun h => absurd rfl h⟩
      case round =>
        clear HM
        obtain ⟨xs, l', e, rfl, hxn, HX⟩ := hrel
        rename World => wr
        obtain ⟨j, hj⟩ : ∃ j, xs.length = j := ⟨_, rfl⟩
        rw [hj] at hxn
        have HJ : Hid (xs.length = j) := hj
        rw [hj]
        clear hj
        by_cases hlt2 : j < n
        · have q2 : (j : Int) < (n : Int) := by omega
          go_wp2_with (go_at_call 39; refine (write_any R l' e wr HX.out.2.1).mono ?_; rintro r w3 ⟨⟨kk, dd, vv⟩, l3, f3, rfl, hr3, hk3, hs3, hs4, hz3, hz4⟩; dsimp only; have HW : Hid (Mw w3 w1.heap.size n xs ∧ Rd w3 R l3 f3 ∧ Keep [R] w w3 ∧ Wat n (l.drop k) (xs ++ [(kk, dd, vv)]) l3 f3 ∧ (kk.size ≤ 1000 ∧ vv.size ≤ 1000)) := ⟨HX.out.1.keep hk3 (by omega), hr3, HX.out.2.2.1.trans hk3, HX.out.2.2.2.step (by rw [HJ.out]; exact hlt2) hz3 hz4, hs3, hs4⟩; have y0 := HW.out.1.fr (j * 3); have y1 := HW.out.1.fr (j * 3 + 1); have y2 := HW.out.1.fr (j * 3 + 2); obtain ⟨u0, x0⟩ := HW.out.1.ex (j * 3) (by omega); obtain ⟨u1, x1⟩ := HW.out.1.ex (j * 3 + 1) (by omega); obtain ⟨u2, x2⟩ := HW.out.1.ex (j * 3 + 2) (by omega); clear hr3 hk3 hs3 hs4 hz3 hz4)
          have hkk : Keep [w1.heap.size] w3 (((w3.setCell ⟨w1.heap.size, j * 3, none⟩ (.string kk)).setCell ⟨w1.heap.size, j * 3 + 1, none⟩ (.bool dd)).setCell ⟨w1.heap.size, j * 3 + 2, none⟩ (.string vv)) := ((Keep.set _ w1.heap.size _ _).trans (Keep.set _ w1.heap.size _ _)).trans (Keep.set _ w1.heap.size _ _)
          have hma := HW.out.1.add (kk, dd, vv) (by rw [HJ.out]; exact hlt2) HW.out.2.2.2.2
          rw [HJ.out] at hma
          go_roundw
          case rel => exact ⟨xs ++ [(kk, dd, vv)], l3, f3, by rw [List.length_append, HJ.out]; go_num, by rw [List.length_append, HJ.out]; simp; omega, hma, HW.out.2.1.other hkk hl1, HW.out.2.2.1.later hkk (by simp; omega), HW.out.2.2.2.1⟩
          case measure => simp [intOf]; omega
        · obtain rfl : j = n := by omega
          have q2 : ¬ (j : Int) < (j : Int) := by omega
          go_wp2
          go_ret
          have hw0 := HX.out.2.2.2
          have hxl := HJ.out
          by_cases he : e = 0
          · have hh := hw0.1 he
            rw [hxl, Nat.sub_self] at hh
            have e2 : rdWs j (l.drop k) = (xs, l', 0) := by rw [hh]; simp [rdWs]
            rw [e2]
            refine ⟨_, rfl, l', by rw [← he]; exact HX.out.2.1, HX.out.2.2.1, fun _ => ⟨rfl, w1.heap.size, j, by dsimp only; rw [hxl]; rfl, hs1, HX.out.1.lt, HX.out.1.isWr (by omega), by dsimp only; rw [hxl]; omega⟩⟩
          · have hh := hw0.2 he
            exact ⟨_, rfl, l', by rw [hh]; exact HX.out.2.1, HX.out.2.2.1, fun h => absurd (hh.symm.trans h) he⟩
  · rw [if_pos hf] at hB
    rw [hB]
    have q1 : ¬ (f : Int) = 0 := by omega
    have q2 : ((f : Int) == 0) = false := by simp; omega
    have q3 : ((f : Int) != 0) = true := by simp; omega
    go_enter Tryd.func34, Tryd.ntmps34
    go_wp2_with (go_at_call 23; refine HNN.out.mono ?_; rintro r w1 ⟨rfl, hr1, hk1⟩; have HP : Hid (Rd w1 R (l.drop k) f ∧ Keep [R] w w1) := ⟨hr1, hk1⟩; have d1 := hr1.c1; clear hr1 hk1)
    go_ret
    exact ⟨_, rfl, _, HP.out.1, HP.out.2, fun h => absurd h hf⟩

end Lgg
end Go.Proofs.YtcmbogogakdeoaaDoor
