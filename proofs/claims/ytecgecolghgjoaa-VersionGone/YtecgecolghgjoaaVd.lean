import Derived.Test.YtecgecolghgjoaaVc
namespace Go.Proofs.Ytecgecolghgjoaa
namespace Vr
open Go.RowKit Laws Irw Crw
set_option linter.unusedVariables false
set_option linter.unusedSimpArgs false
set_option maxRecDepth 20000
theorem lev_out {V : Lv} {i : Int} (h : ¬ (0 ≤ i ∧ i < V.length)) : lev V i = [] := by
  unfold lev
  split
  · rename_i h0
    rw [List.getElem?_eq_none (by omega)]
    rfl
  · rfl
theorem lev_in {V : Lv} {i : Nat} {l : List Tb} (h : V[i]? = some l) : lev V (i : Int) = l := by
  unfold lev
  rw [if_pos (by omega), Int.toNat_natCast, h]
  rfl
theorem Fits.len {V : Lv} (h : Fits V) (i : Int) : (lev V i).length ≤ 3000000 := by
  unfold lev
  split
  · cases e : V[i.toNat]? with
    | none => simp
    | some l => exact h.2 l (List.mem_of_getElem? e)
  · simp
set_option maxHeartbeats 400000 in
theorem level_any (vb : Nat) (V : Lv) (i : Int) (w : World) (h : VAt w vb V) : Calls Try.prog 44 #[.pointer (some ⟨vb, 0, none⟩), .int .i64 i] w fun e w' => ∃ s : Sv, e = .returned (svV s) ∧ Ls kTb w s (lev V i) ∧ w' = w := by
  obtain ⟨hf, s, hz, hl⟩ := h
  have c0 := hz.2.1 0 _ rfl
  obtain ⟨sa, sn, sc⟩ := s
  have e := hl.1
  change sn = V.length at e
  subst e
  simp only [svV] at c0
  by_cases hin : 0 ≤ i ∧ i < V.length
  · obtain ⟨h1, vs, h2, h3, h4⟩ := hl
    obtain ⟨k, rfl⟩ : ∃ k : Nat, i = k := ⟨i.toNat, by omega⟩
    have hk : k < V.length := by omega
    obtain ⟨b, off, e, hr⟩ := h3.at_ (by omega)
    change sa = _ at e
    subst e
    have hv : vs[k]? = some (vs[k]'(by omega)) := List.getElem?_eq_getElem (by omega)
    have hc := hr.2 k _ hv 0 _ rfl
    have hL := h4 k _ _ hv (List.getElem?_eq_getElem hk)
    obtain ⟨⟨ka, kn, kc⟩, hx⟩ : ∃ x, vs[k]'(by omega) = x := ⟨_, rfl⟩
    rw [hx] at hc hL
    have he : off + k * kS.size + 0 = off + k := by show off + k * 1 + 0 = _; omega
    rw [he] at hc
    simp only at hc
    have hd : decide (0 ≤ (k : Int) ∧ (k : Int) < (V.length : Int)) = true := by simp; omega
    have HL : Hid (Ls kTb w (ka, kn, kc) (lev V (k : Int))) := by
      rw [lev_in (List.getElem?_eq_getElem hk)]; exact hL
    have q : (k : Int) < (V.length : Int) := by omega
    clear hv hL hx h4 h3 hr h2 h1 hz hf hin
    go_enter Try.func44, Try.ntmps44
    go_wp2_with (go_at_call 47; go_loud (refine (isLevel_any _ _ _ _ _).mono ?_; rintro e w' ⟨rfl, rfl⟩; rw [hd]))
    go_ret
    exact ⟨(ka, kn, kc), rfl, HL.out, rfl⟩
  · have hd : decide (0 ≤ i ∧ i < (V.length : Int)) = false := by simpa using hin
    have HL : Hid (lev V i = []) := lev_out hin
    clear hin hl hz hf
    go_enter Try.func44, Try.ntmps44
    go_wp2_with (go_at_call 47; go_loud (refine (isLevel_any _ _ _ _ _).mono ?_; rintro e w' ⟨rfl, rfl⟩; rw [hd]))
    go_ret
    exact ⟨nS, rfl, by rw [HL.out]; exact Ls.nil _, rfl⟩
/-- a list that was made anew -/
def NewL (w : World) (s : Sv) (l : List Tb) (w' : World) : Prop := ∃ G, s = (some ⟨G, 0, none⟩, l.length, l.length) ∧ w.heap.size ≤ G ∧ w'.ownsRow 0 47 6 (.slice (some ⟨G, 0, none⟩) l.length l.length) l.length (kTb.cells l)
/-- a new list is answered -/
def NewIs (w : World) (l : List Tb) (e : Ending) (w' : World) : Prop := ∃ s : Sv, e = .returned (svV s) ∧ NewL w s l w' ∧ Below w.heap.size w w'
set_option maxHeartbeats 400000 in
theorem tables_any (vb : Nat) (V : Lv) (i : Int) (w : World) (h : VAt w vb V) : Calls Try.prog 30 #[.pointer (some ⟨vb, 0, none⟩), .int .i64 i] w fun e w' => NewIs w (lev V i) e w' := by
  obtain ⟨iz, hi, hz0, hz1, hz2⟩ := info_parts infoTb
  have hlen := h.1.len i
  have HV := level_any vb V i w h
  obtain ⟨l, hl⟩ : ∃ l, lev V i = l := ⟨_, rfl⟩
  rw [hl] at HV hlen ⊢
  have HC : Hid (Calls Try.prog 44 #[.pointer (some ⟨vb, 0, none⟩), .int .i64 i] w fun e w' => ∃ s : Sv, e = .returned (svV s) ∧ Ls kTb w s l ∧ w' = w) := HV
  clear HV h hl
  go_enter Try.func30, Try.ntmps30
  go_wp2_with (first
    | (go_at_call 44; go_loud (refine HC.out.mono ?_; rintro e w1 ⟨⟨sa, sn, sc⟩, rfl, hs, hw⟩; have hw := hw.symm; subst hw; have HL : Hid (Ls kTb w (sa, sn, sc) l) := hs; have hsn := hs.2.1; change sn = l.length at hsn; subst hsn; clear hs; simp only [svV]))
    | (at_make; go_loud (refine wpList_make_full _ (by rfl) (.tmp 11) (.tmp 11) 58 (by rfl) 0 47 iz _ 6 Try.underlying58 hi hz0 hz1 .i64 .i64 _ _ l.length (by rfl) (by rfl) rfl rfl (by rw [hz2]; omega) (by unfold maxLen; omega) (Nat.zero_le _) ?_; intro w2 hown2 hgr2; have HM : Hid ((∃ cells, w2.ownsRow 0 47 6 (.slice (some ⟨w.heap.size, 0, none⟩) l.length l.length) l.length cells) ∧ Below w.heap.size w w2) := ⟨⟨_, hown2⟩, (Below.grown (Below.refl _ _) hgr2 (Nat.le_refl _) (by simp))⟩; clear hown2 hgr2))
    | ((obtain ⟨cells, hcs⟩ := HM.out.1; refine wpList_copyK kTb _ (by rfl) (.tmp 13) (.tmp 14) 58 58 (by rfl) Try.underlying58 (info_size infoTb) w.heap.size l.length sc sa l cells (by rfl) (by rfl) hcs (HL.out.1.below HM.out.2) rfl ?_; intro w3 hw3 hb3; have HN : Hid (w3.ownsRow 0 47 6 (.slice (some ⟨w.heap.size, 0, none⟩) l.length l.length) l.length (kTb.cells l) ∧ Below w.heap.size w w3) := ⟨hw3, hb3 _ _ HM.out.2 (Nat.le_refl _)⟩; clear hw3 hb3 hcs)))
  go_ret
  exact ⟨_, rfl, ⟨w.heap.size, rfl, Nat.le_refl _, HN.out.1⟩, HN.out.2⟩
end Vr
end Go.Proofs.Ytecgecolghgjoaa
