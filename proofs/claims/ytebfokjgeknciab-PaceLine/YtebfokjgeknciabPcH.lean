import Derived.Test.YtebfokjgeknciabPcG
namespace Go.Proofs.Ytebfokjgeknciab
namespace Pcm
open Go.RowKit Laws Irw
set_option linter.unusedVariables false
set_option linter.unusedSimpArgs false
set_option maxRecDepth 20000

theorem fbad_at {l : List Fd} {k : Nat} {t : Fd} (ht : l[k]? = some t) (hb : badF t = true) (h : ∀ (j : Nat) (u : Fd), j < k → l[j]? = some u → badF u = false) : fbad l = some k := by
  unfold fbad
  rw [List.findIdx?_eq_some_iff_getElem]
  obtain ⟨hk, rfl⟩ := List.getElem?_eq_some_iff.1 ht
  exact ⟨hk, hb, fun j hj => by
    have hj' : j < l.length := by omega
    have := h j _ hj (List.getElem?_eq_getElem hj')
    simp [this]⟩
theorem fbad_none {l : List Fd} (h : ∀ (j : Nat) (u : Fd), l[j]? = some u → badF u = false) : fbad l = none := by
  unfold fbad
  rw [List.findIdx?_eq_none_iff]
  intro x hx
  obtain ⟨j, hj, rfl⟩ := List.mem_iff_getElem.1 hx
  exact h j _ (List.getElem?_eq_getElem hj)
theorem ck_some {c : Cf} {k : Nat} (h : bad c = some k) : ckN c = k ∧ ckE c = 150 := by unfold ckN ckE; rw [h]; exact ⟨rfl, rfl⟩
theorem ck_none {c : Cf} (h : bad c = none) : ckN c = 0 ∧ ckE c = 0 := by unfold ckN ckE; rw [h]; exact ⟨rfl, rfl⟩
set_option maxHeartbeats 4000000 in
theorem check_any (c : Cf) (hc : RC c) (w : World) :
    Calls Try.prog 15 #[.agg (cfgA c)] w fun e w' => e = .returned (.tuple #[.int .i64 (ckN c), .int .i64 (ckE c)]) ∧ Below w.heap.size w w' := by
  have HC := hid hc
  clear hc
  have hL0 := lc_new w c 38
  have HB0 : Hid (Below w.heap.size w (w.alloc (.cells (cfgA c) 38))) := (Below.refl _ _).alloc (Nat.le_refl _) _
  have HL : Hid ((flds c (pX c)).length = 27) := flds_len c _
  go_enter Try.func15, Try.ntmps15
  go_wp2_with (first | (refine wpList_cfg (by rfl) _ (by rfl) (by rfl) hL0 ?_) | (go_at_call 27; go_loud (refine (fields_any c HC.out _).mono ?_; rintro e w1 ⟨b, rfl, hr, hb1⟩; have HB1 : Hid (Below w.heap.size w w1) := HB0.out.trans (hb1.mono HB0.out.size); have HR := hid hr; clear hb1 hr)))
  clear hL0
  have HBAD : Hid (bad c = fbad (flds c (pX c))) := hid rfl
  generalize flds c (pX c) = l at *
  go_loopw [9] (fun i V => ∃ k : Nat, k ≤ 27 ∧ i = .int .i64 k ∧ (∀ (j : Nat) (u : Fd), j < k → l[j]? = some u → badF u = false) ∧ Below w1.heap.size w1 V) (fun i _ => 27 - (intOf i).toNat)
  case atStart => exact ⟨0, by omega, rfl, fun j u hj => by omega, Below.refl _ _⟩
  case round =>
    obtain ⟨k, hk, rfl, hgood, hbe⟩ := hrel
    have HGD := hid hgood
    have HBV : Hid (Below w.heap.size w wr) := HB1.out.trans (hbe.mono HB1.out.size)
    have HB := hid hbe
    clear hgood
    by_cases hlt : k < 27
    · obtain ⟨tt, ht⟩ : ∃ x, l[k]? = some x := ⟨_, List.getElem?_eq_getElem (by rw [HL.out]; exact hlt)⟩
      obtain ⟨x, lo, hi⟩ := tt
      have hrow := HR.out.below hbe
      have hbz := hrow.1
      obtain ⟨c0, c1, c2⟩ := hrow.2 k _ ht
      dsimp only at c0 c1 c2
      have HT := hid ht
      have q1 : (k : Int) < 27 := by omega
      clear ht hbe hrow
      by_cases h1 : x < lo
      · have HE : Hid (bad c = some k) := HBAD.out.trans (fbad_at HT.out (by simp [badF, h1]) HGD.out)
        go_wp2
        go_ret2
        obtain ⟨e1, e2⟩ := ck_some HE.out
        exact ⟨by rw [e1, e2]; rfl, HBV.out.alloc HBV.out.size _⟩
      · have h1' : decide (x < lo) = false := by simpa using h1
        by_cases h2 : hi < x
        · have HE : Hid (bad c = some k) := HBAD.out.trans (fbad_at HT.out (by simp [badF, h2]) HGD.out)
          go_wp2
          go_ret2
          obtain ⟨e1, e2⟩ := ck_some HE.out
          exact ⟨by rw [e1, e2]; rfl, HBV.out.alloc HBV.out.size _⟩
        · have HE : Hid (badF (x, lo, hi) = false) := hid (by simp [badF]; omega)
          go_wp2
          go_roundw
          case rel =>
            refine ⟨k + 1, by omega, by go_num, fun j u hj hu => ?_, HB.out.alloc HB.out.size _⟩
            by_cases e : j = k
            · subst e
              rw [HT.out] at hu
              cases hu
              exact HE.out
            · exact HGD.out j u (by omega) hu
          case measure => simp [intOf]; omega
    · have HE : Hid (bad c = none) := HBAD.out.trans (fbad_none fun j u hu => HGD.out j u (by have := (List.getElem?_eq_some_iff.1 hu).1; rw [HL.out] at this; omega) hu)
      go_wp2
      go_ret2
      obtain ⟨e1, e2⟩ := ck_none HE.out
      exact ⟨by rw [e1, e2]; rfl, HBV.out⟩

end Pcm
end Go.Proofs.Ytebfokjgeknciab
