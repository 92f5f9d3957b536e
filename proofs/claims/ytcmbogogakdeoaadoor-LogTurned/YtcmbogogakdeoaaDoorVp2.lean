import Derived.Test.YtcmbogogakdeoaaDoorVp1
import Derived.Test.YtcmbogogakdeoaaDoorGr1
namespace Go.Proofs.YtcmbogogakdeoaaDoor
namespace Lgp
open Go.RowKit CMath Byt Cod Lg Laws Grp
set_option linter.unusedVariables false
set_option linter.unusedSimpArgs false
set_option maxRecDepth 20000

theorem wrB_bulk (x : W3) (h : bulkW x ≤ 32768) : (wrB x).length ≤ 21 * bulkW x := by
  obtain ⟨k, d, v⟩ := x
  unfold bulkW at *
  dsimp only at *
  have h1 := num_le10 (n := k.size) (by omega)
  have h2 := num_le10 (n := v.size) (by omega)
  cases d <;> simp [wrB, words, strB_length] <;> omega
theorem ws_bulk (ws : List W3) (h : bulkS ws ≤ 32768) : (ws.flatMap wrB).length ≤ 21 * bulkS ws := by
  induction ws with
  | nil => simp [bulkS]
  | cons x ws ih =>
    have e : bulkS (x :: ws) = bulkW x + bulkS ws := by simp [bulkS]
    have h1 := wrB_bulk x (by omega)
    have h2 := ih (by omega)
    rw [List.flatMap_cons, List.length_append, e]
    omega
theorem len_bulk (ws : List W3) : ws.length ≤ bulkS ws := by
  induction ws with
  | nil => simp [bulkS]
  | cons x ws ih =>
    have e : bulkS (x :: ws) = bulkW x + bulkS ws := by simp [bulkS]
    have : 1 ≤ bulkW x := by unfold bulkW; omega
    rw [List.length_cons, e]
    omega
theorem batB_bulk (ws : List W3) (h : bulkS ws ≤ 32768) : (batB ws).length ≤ 10 + 21 * bulkS ws := by
  have h1 := ws_bulk ws h
  have h3 := len_bulk ws
  have h2 := num_le10 (n := ws.length) (by omega)
  rw [batB, List.length_append]
  omega
theorem gs_bulk (gs : List (List W3)) (h : (gs.map bulkS).sum ≤ 32768) : (gs.flatMap batB).length ≤ 10 * gs.length + 21 * (gs.map bulkS).sum := by
  induction gs with
  | nil => simp
  | cons x gs ih =>
    rw [List.map_cons, List.sum_cons] at h ⊢
    have h1 := batB_bulk x (by omega)
    have h2 := ih (by omega)
    rw [List.flatMap_cons, List.length_append, List.length_cons]
    omega
theorem flat_mono {α : Type} (f : α → List Nat) (l : List α) (k : Nat) : ((l.take k).flatMap f).length ≤ (l.flatMap f).length := by
  conv => rhs; rw [← List.take_append_drop k l, List.flatMap_append, List.length_append]
  omega
theorem bulk_mem {gs : List (List W3)} {k : Nat} (h : k < gs.length) : bulkS (gs.getD k []) ≤ (gs.map bulkS).sum := by
  have e := sum_take (f := bulkS) (l := gs) (k := k) (x := gs.getD k []) (by simp [h])
  have : ((gs.take (k + 1)).map bulkS).sum ≤ (gs.map bulkS).sum := by
    conv => rhs; rw [← List.take_append_drop (k + 1) gs, List.map_append, List.sum_append]
    omega
  omega
theorem bulkW_mem {ws : List W3} {k : Nat} {x : W3} (h : ws[k]? = some x) : bulkW x ≤ bulkS ws := by
  have e := sum_take (f := bulkW) h
  have : ((ws.take (k + 1)).map bulkW).sum ≤ (ws.map bulkW).sum := by
    conv => rhs; rw [← List.take_append_drop (k + 1) ws, List.map_append, List.sum_append]
    omega
  unfold bulkS
  omega
theorem putB_bulk (first : Nat) (gs : List (List W3)) (hf : first < 18446744073709551616) (h : bulkG gs ≤ 32768) : (putB first gs).length ≤ 20 + 31 * bulkG gs := by
  unfold bulkG at *
  have h1 := gs_bulk gs (by omega)
  have h2 := num_le10 hf
  have h3 := num_le10 (n := gs.length) (by omega)
  rw [putB, List.length_append, List.length_append]
  omega

set_option maxHeartbeats 2000000 in
theorem put_any (first : Nat) (a : Option Addr) (cap n : Nat) (gs : List (List Chk.Wr)) (w : World) (hf : first < 18446744073709551616) (hn : n = gs.length) (hg : IsG w a gs) (hbk : bulkG gs ≤ 32768) :
    Calls Tryd.prog 11 #[.int .u64 first, .slice a n cap] w fun e w' => ∃ v, e = .returned v ∧ Own 5 w.heap.size w' v (putB first gs) ∧ Below w.heap.size w w' := by
  have HG : Hid (IsG w a gs) := hg
  have HN : Hid (gs.length = n) := hn.symm
  have hn1 : n ≤ 32768 := by unfold bulkG at hbk; omega
  have hsum : (gs.map bulkS).sum ≤ 32768 := by unfold bulkG at hbk; omega
  have hgl := gs_bulk gs hsum
  rw [← hn] at hgl
  have h10 := num_le10 hf
  have h10n := num_le10 (n := n) (by omega)
  clear hg hn
  go_enter Tryd.func11, Tryd.ntmps11
  go_wp2_with (first
    | (go_at_call 17; refine (putUint_n none 0 0 [] first w (IsB.nil _ _) (fun _ => rfl) (by simp) hf rfl).mono ?_; rintro e w1 ⟨v1, rfl, ho1, hb1⟩; rw [List.nil_append] at ho1; have HO1 : Hid (Own 5 w.heap.size w1 v1 (num first) ∧ Below w.heap.size w w1) := ⟨ho1, hb1⟩; clear ho1 hb1)
    | (go_at_call 18; refine (appendCount_any w.heap.size v1 (num first) n _ w1 rfl (by omega) HO1.out.1.row HO1.out.1.byte HO1.out.2.size (by omega)).mono ?_; rintro e w2 ⟨v2, rfl, ho2, hb2⟩; have HO2 : Hid (Own 5 w.heap.size w2 v2 (num first ++ num n) ∧ Below w.heap.size w w2) := ⟨ho2, HO1.out.2.trans hb2⟩; clear ho2 hb2))
  go_loopw [5, 18] (fun v i wr => ∃ k : Nat, k ≤ n ∧ i = .int .i64 (k : Int) ∧ Hid (Own 5 w.heap.size wr v (num first ++ num n ++ (gs.take k).flatMap batB) ∧ Below w.heap.size w wr)) (fun _ i _ => n - (intOf i).toNat)
  case atStart => exact ⟨0, Nat.zero_le _, rfl, by simpa using HO2.out.1, HO2.out.2⟩
  case round =>
    clear HO1 HO2
    obtain ⟨k, hk, rfl, HK⟩ := hrel
    rename World => wr
    by_cases hlt : k < n
    · have q1 : (k : Int) < (n : Int) := by omega
      have hkl : k < gs.length := by rw [HN.out]; exact hlt
      obtain ⟨b, off, ad, c, rfl, hbs, c0, hws⟩ := (HG.out.below HK.out.2).rd hkl
      have hwb : bulkS (gs.getD k []) ≤ 32768 := Nat.le_trans (bulk_mem hkl) hsum
      have hwl := len_bulk (gs.getD k [])
      have hwn := ws_bulk _ hwb
      have HFT : Hid ((gs.take (k + 1)).flatMap batB = (gs.take k).flatMap batB ++ batB (gs.getD k [])) := flat_take (by simp [hkl])
      have hfm := flat_mono batB gs k
      have hws0 : Chk.IsWr w ad (gs.getD k []) := by
        obtain ⟨b', off', ad', c', e', hbs', c0', hws'⟩ := HG.out.rd hkl
        cases e'
        have := (HK.out.2.cell (p := ⟨b, off + k, none⟩) hbs').trans c0'
        rw [c0] at this
        cases this
        exact hws'
      have HWS : Hid (Chk.IsWr w ad (gs.getD k [])) := hws0
      clear hws hws0 hkl hbs
      generalize gs.getD k [] = ws at *
      generalize (gs.take k).flatMap batB = pre at *
      obtain ⟨W, hW⟩ : ∃ W, ws.length = W := ⟨_, rfl⟩
      have HWL : Hid (ws.length = W) := hW
      rw [hW] at c0 hwl
      have h10w := num_le10 (n := W) (by omega)
      clear hW
      go_wp2_with (go_at_call 18; refine (appendCount_any w.heap.size _ (num first ++ num n ++ pre) W _ wr rfl (by omega) HK.out.1.row HK.out.1.byte HK.out.2.size (by simp; omega)).mono ?_; rintro e w3 ⟨v3, rfl, ho3, hb3⟩; have HO3 : Hid (Own 5 w.heap.size w3 v3 (num first ++ num n ++ pre ++ num W) ∧ Below w.heap.size w w3) := ⟨ho3, HK.out.2.trans hb3⟩; clear ho3 hb3)
      go_loopw [5, 28] (fun v j wi => ∃ m : Nat, m ≤ W ∧ j = .int .i64 (m : Int) ∧ Hid (Own 5 w.heap.size wi v (num first ++ num n ++ pre ++ num W ++ (ws.take m).flatMap wrB) ∧ Below w.heap.size w wi)) (fun _ j _ => W - (intOf j).toNat)
      case atStart => exact ⟨0, Nat.zero_le _, rfl, by simpa using HO3.out.1, HO3.out.2⟩
      case round =>
        clear HO3
        obtain ⟨m, hm, rfl, HM⟩ := hrel
        rename World => wi
        by_cases hlm : m < W
        · have q2 : (m : Int) < (W : Int) := by omega
          have hml : m < ws.length := by rw [HWL.out]; exact hlm
          obtain ⟨kk, dd, vv, hx⟩ : ∃ kk dd vv, ws[m]? = some (kk, dd, vv) := ⟨_, _, _, List.getElem?_eq_getElem hml⟩
          obtain ⟨b', off', rfl, hr⟩ := (HWS.out.below HM.out.2).1 (by intro e; rw [e] at hml; simp at hml)
          obtain ⟨d0, d1, d2⟩ := hr.2 m _ hx
          dsimp only at d0 d1 d2
          have hbw := bulkW_mem hx
          have hfw := flat_mono wrB ws m
          have HFW : Hid ((ws.take (m + 1)).flatMap wrB = (ws.take m).flatMap wrB ++ wrB (kk, dd, vv)) := flat_take hx
          unfold bulkW at hbw
          dsimp only at hbw
          clear hr hx hml
          generalize (ws.take m).flatMap wrB = mid at *
          have hsi := HM.out.2.size
          go_wp2_with (go_at_call 19; refine (appendWrite_any w.heap.size _ (num first ++ num n ++ pre ++ num W ++ mid) kk dd vv _ (HM.out.1.row.alloc _) HM.out.1.byte (by simp; omega) (by simp; omega)).mono ?_; rintro e w5 ⟨v5, rfl, ho5, hb5⟩; have HO5 : Hid (Own 5 w.heap.size w5 v5 (num first ++ num n ++ pre ++ num W ++ (mid ++ wrB (kk, dd, vv))) ∧ Below w.heap.size w w5) := ⟨by rw [← List.append_assoc]; exact ho5, (HM.out.2.alloc hsi _).trans hb5⟩; clear ho5 hb5)
          go_roundw
          case rel => exact ⟨m + 1, by omega, by go_num, by rw [HFW.out]; exact HO5.out.1, HO5.out.2⟩
          case measure => simp [intOf]; omega
        · obtain rfl : m = W := by omega
          have q2 : ¬ (m : Int) < (m : Int) := by omega
          go_wp2
          go_roundw
          case rel =>
            refine ⟨k + 1, by omega, by go_num, ?_, HM.out.2⟩
            have h := HM.out.1
            rw [List.take_of_length_le (by rw [HWL.out]; exact Nat.le_refl _)] at h
            rw [HFT.out, batB, HWL.out]
            simpa [List.append_assoc] using h
          case measure => simp [intOf]; omega
    · obtain rfl : k = n := by omega
      have q1 : ¬ (k : Int) < (k : Int) := by omega
      go_wp2
      go_ret
      refine ⟨_, rfl, ?_, HK.out.2⟩
      have h := HK.out.1
      rw [List.take_of_length_le (by rw [HN.out]; exact Nat.le_refl _)] at h
      rw [putB, HN.out, ← List.append_assoc]
      exact h

end Lgp
end Go.Proofs.YtcmbogogakdeoaaDoor
