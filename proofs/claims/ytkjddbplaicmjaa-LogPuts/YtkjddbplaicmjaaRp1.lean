import Derived.Test.YtkjddbplaicmjaaVp2
import Derived.Test.YtkjddbplaicmjaaWor
import Derived.Test.YtkjddbplaicmjaaRg7
namespace Go.Proofs.Ytkjddbplaicmjaa
namespace Rfp
open Go.RowKit CMath Byt Cod Lg Lgp Laws Grp Crw
set_option linter.unusedVariables false
set_option linter.unusedSimpArgs false
set_option maxRecDepth 20000

def Ow (w W : World) (v : Value) (L : List Nat) : Prop := W.ownsRow w.heap.size 5 1 v L.length (cellsB L) ∧ Below w.heap.size w W
theorem Ow.to {w W W1 : World} {v : Value} {L : List Nat} (h : Ow w W v L) (hb : Below W.heap.size W W1) : W1.ownsRow w.heap.size 5 1 v L.length (cellsB L) := Rfg.own_below'' h.1 hb
theorem Ow.app {w W W1 w2 : World} {v v2 : Value} {L r : List Nat} (h : Ow w W v L) (hb : Below W.heap.size W W1) (hown : w2.ownsRow w.heap.size 5 1 v2 (L.length + r.length) (cellsB (L ++ r))) (hgr : W1.grownBy w2 v.ownBlock) : Ow w w2 v2 (L ++ r) :=
  ⟨by rw [List.length_append]; exact hown, below_of (h.2.trans (hb.mono h.2.size)) hgr (Nat.le_refl _) (fun j hj => (h.1.lt j hj).1)⟩
theorem Ow.big {w W W1 : World} {v : Value} {L : List Nat} (h : Ow w W v L) (hb : Below W.heap.size W W1) : w.heap.size ≤ W1.heap.size := Nat.le_trans h.2.size hb.size
theorem words_len (s : ByteArray) : (words (strB s)).length = (num s.size).length + s.size := by unfold words; rw [List.length_append, strB_length]

set_option maxHeartbeats 1500000 in
theorem refPut_any (first : Nat) (a : Option Addr) (cap n : Nat) (gs : List (List Chk.Wr)) (w : World) (hf : first < 18446744073709551616) (hn : n = gs.length) (hg : IsG w a gs) (hbk : bulkG gs ≤ 32768) :
    Calls Try.prog 9 #[.int .u64 first, .slice a n cap] w fun e w' => ∃ v, e = .returned v ∧ Ow w w' v (putB first gs) := by
  obtain ⟨i8, hi, hz0, hz1, hz2⟩ := info_parts info8
  have HG : Hid (IsG w a gs) := hg
  have HN : Hid (gs.length = n) := hn.symm
  have hn1 : n ≤ 32768 := by unfold bulkG at hbk; omega
  have hsum : (gs.map bulkS).sum ≤ 32768 := by unfold bulkG at hbk; omega
  have hgl := gs_bulk gs hsum
  rw [← hn] at hgl
  have h10 := num_le10 hf
  have h10n := num_le10 (n := n) (by omega)
  clear hg hn
  go_enter Try.func9, Try.ntmps9
  go_wp2_with fail
  refine (number_any first w hf).mono ?_
  rintro e w1 ⟨v1, rfl, ho1, hb1⟩
  obtain ⟨a1, c1, rfl, hn1'⟩ := New.ofOwn ho1
  have HO1 : Hid (New 5 w.heap.size w1 a1 c1 (num first) ∧ Below w.heap.size w w1) := ⟨hn1', hb1⟩
  clear ho1 hb1 hn1'
  go_wp2_with (at_builtin; refine wpList_appB (by rfl) (.tmp 9) (.tmp 11) 44 (by rfl) w.heap.size 5 i8 Try.underlying44 hi hz0 hz1 hz2 _ [] 0 (by rfl) (World.ownsRow_nil _ _ _ _) a1 _ c1 (num first) (by rfl) rfl HO1.out.1.cap HO1.out.1.isB (by omega) HO1.out.2.size ?_; intro v2 w2 hown2 hgr2 _; have HO2 : Hid (Ow w w2 v2 (num first)) := Ow.app (L := []) ⟨World.ownsRow_nil _ _ _ _, Below.refl _ _⟩ HO1.out.2 hown2 hgr2; clear hown2 hgr2)
  refine (number_any n w2 (by omega)).mono ?_
  rintro e w3 ⟨v3, rfl, ho3, hb3⟩
  obtain ⟨a3, c3, rfl, hn3⟩ := New.ofOwn ho3
  have HO3 : Hid (New 5 w2.heap.size w3 a3 c3 (num n) ∧ Below w2.heap.size w2 w3) := ⟨hn3, hb3⟩
  clear ho3 hb3 hn3
  go_wp2_with (at_builtin; refine wpList_appB (by rfl) (.tmp 13) (.tmp 17) 44 (by rfl) w.heap.size 5 i8 Try.underlying44 hi hz0 hz1 hz2 _ (num first) _ (by rfl) (HO2.out.to HO3.out.2) a3 _ c3 (num n) (by rfl) rfl HO3.out.1.cap HO3.out.1.isB (by omega) (HO2.out.big HO3.out.2) ?_; intro v4 w4 hown4 hgr4 _; have HO4 : Hid (Ow w w4 v4 (num first ++ num n)) := HO2.out.app HO3.out.2 hown4 hgr4; clear hown4 hgr4)
  go_loopw [5, 6] (fun v i wr => ∃ k : Nat, k ≤ n ∧ i = .int .i64 (k : Int) ∧ Hid (Ow w wr v (num first ++ num n ++ (gs.take k).flatMap batB))) (fun _ i _ => n - (intOf i).toNat)
  case atStart => exact ⟨0, Nat.zero_le _, rfl, by simpa using HO4⟩
  case round =>
    clear HO1 HO2 HO3 HO4
    obtain ⟨k, hk, rfl, HK⟩ := hrel
    rename World => wr
    by_cases hlt : k < n
    · have q1 : (k : Int) < (n : Int) := by omega
      have hkl : k < gs.length := by rw [HN.out]; exact hlt
      obtain ⟨b, off, ad, c, rfl, hbs, c0, hws⟩ := (HG.out.below HK.out.2).rd hkl
      have hwb : bulkS (gs.getD k []) ≤ 32768 := Nat.le_trans (bulk_mem hkl) hsum
      have hwl := len_bulk (gs.getD k [])
      have hwn := ws_bulk _ hwb
      have HFT : Hid ((gs.take (k + 1)).flatMap batB = (gs.take k).flatMap batB ++ batB (gs.getD k [])) := flat_take (by simp [hkl])
      have hfm := flat_mono batB gs k
      have hws0 : Chk.IsWr w ad (gs.getD k []) := by
        obtain ⟨b', off', ad', c', e', hbs', c0', hws'⟩ := HG.out.rd hkl
        cases e'
        have := (HK.out.2.cell (p := ⟨b, off + k, none⟩) hbs').trans c0'
        rw [c0] at this
        cases this
        exact hws'
      have HWS : Hid (Chk.IsWr w ad (gs.getD k [])) := hws0
      clear hws hws0 hkl hbs
      generalize gs.getD k [] = ws at *
      generalize (gs.take k).flatMap batB = pre at *
      obtain ⟨W, hW⟩ : ∃ W, ws.length = W := ⟨_, rfl⟩
      have HWL : Hid (ws.length = W) := hW
      rw [hW] at c0 hwl
      have h10w := num_le10 (n := W) (by omega)
      clear hW
      obtain ⟨P, hP⟩ : ∃ P, num first ++ num n ++ pre = P := ⟨_, rfl⟩
      have hPl : P.length ≤ 1000000000 := by rw [← hP]; simp; omega
      have HP : Hid (num first ++ num n ++ pre = P) := hP
      rw [hP] at HK
      clear hP
      go_wp2_with fail
      refine (number_any W wr (by omega)).mono ?_
      rintro e w3 ⟨v3, rfl, ho3, hb3⟩
      obtain ⟨a3, c3, rfl, hn3⟩ := New.ofOwn ho3
      have HO3 : Hid (New 5 wr.heap.size w3 a3 c3 (num W) ∧ Below wr.heap.size wr w3) := ⟨hn3, hb3⟩
      clear ho3 hb3 hn3
      go_wp2_with (at_builtin; refine wpList_appB (by rfl) (.tmp 29) (.tmp 33) 44 (by rfl) w.heap.size 5 i8 Try.underlying44 hi hz0 hz1 hz2 _ P _ (by rfl) (HK.out.to HO3.out.2) a3 _ c3 (num W) (by rfl) rfl HO3.out.1.cap HO3.out.1.isB (by omega) (HK.out.big HO3.out.2) ?_; intro v4 w4 hown4 hgr4 _; have HO4 : Hid (Ow w w4 v4 (P ++ num W)) := HK.out.app HO3.out.2 hown4 hgr4; clear hown4 hgr4)
      go_loopw [5, 8] (fun v j wi => ∃ m : Nat, m ≤ W ∧ j = .int .i64 (m : Int) ∧ Hid (Ow w wi v (P ++ num W ++ (ws.take m).flatMap wrB))) (fun _ j _ => W - (intOf j).toNat)
      case atStart => exact ⟨0, Nat.zero_le _, rfl, by simpa using HO4⟩
      case round =>
        clear HO3 HO4
        obtain ⟨m, hm, rfl, HM⟩ := hrel
        rename World => wi
        by_cases hlm : m < W
        · have q2 : (m : Int) < (W : Int) := by omega
          have hml : m < ws.length := by rw [HWL.out]; exact hlm
          obtain ⟨kk, dd, vv, hx⟩ : ∃ kk dd vv, ws[m]? = some (kk, dd, vv) := ⟨_, _, _, List.getElem?_eq_getElem hml⟩
          have hwi := HWS.out.below HM.out.2
          obtain ⟨b', off', rfl, hr⟩ := hwi.1 (by intro e; rw [e] at hml; simp at hml)
          have hr1 := hr.1
          obtain ⟨d0, d1, d2⟩ := hr.2 m _ hx
          dsimp only at d0 d1 d2
          have hbw := bulkW_mem hx
          have hfw := flat_mono wrB ws m
          have HFW : Hid ((ws.take (m + 1)).flatMap wrB = (ws.take m).flatMap wrB ++ wrB (kk, dd, vv)) := flat_take hx
          unfold bulkW at hbw
          dsimp only at hbw
          have hbb : b' < w.heap.size := by
            obtain ⟨b2, off2, e2, hr2⟩ := HWS.out.1 (by intro e; rw [e] at hml; simp at hml)
            cases e2
            exact hr2.1
          have HD : Hid (w.cell? ⟨b', off' + m * 3, none⟩ = some (.string kk) ∧ w.cell? ⟨b', off' + m * 3 + 1, none⟩ = some (.bool dd) ∧ w.cell? ⟨b', off' + m * 3 + 2, none⟩ = some (.string vv)) := by
            obtain ⟨b2, off2, e2, hr2⟩ := HWS.out.1 (by intro e; rw [e] at hml; simp at hml)
            cases e2
            exact hr2.2 m _ hx
          clear hr hx hml hwi
          generalize (ws.take m).flatMap wrB = mid at *
          obtain ⟨L, hL⟩ : ∃ L, P ++ num W ++ mid = L := ⟨_, rfl⟩
          have hLl : L.length ≤ 100000000000 := by rw [← hL]; simp; omega
          have HL : Hid (P ++ num W ++ mid = L) := hL
          rw [hL] at HM
          clear hL
          have h10k := num_le10 (n := kk.size) (by omega)
          have h10v := num_le10 (n := vv.size) (by omega)
          have hwk : (words (strB kk)).length ≤ kk.size + 10 := by rw [words_len]; omega
          have hwv : (words (strB vv)).length ≤ vv.size + 10 := by rw [words_len]; omega
          clear h10k h10v
          have hsi := HM.out.2.size
          cases dd with
          | true =>
            go_wp2_with (at_builtin; refine wpList_appB (by rfl) (.tmp 46) (.tmp 47) 44 (by rfl) w.heap.size 5 i8 Try.underlying44 hi hz0 hz1 hz2 _ L _ (by rfl) (HM.out.1.alloc _) (some ⟨wi.heap.size, 0, none⟩) 1 1 [1] (by rfl) rfl (by simp) (isB_new rfl (by omega)) (by omega) (by simp; omega) ?_; intro v5 w5 hown5 hgr5 _; have HO5 : Hid (Ow w w5 v5 (L ++ [1])) := HM.out.app ((Below.refl _ _).alloc (Nat.le_refl _) _) hown5 hgr5; have x0 : w5.cell? ⟨b', off' + m * 3, none⟩ = some (.string kk) := (HO5.out.2.cell (p := ⟨b', _, none⟩) hbb).trans HD.out.1; clear hown5 hgr5)
            refine (words_any kk w5 (by omega)).mono ?_
            rintro e w6 ⟨v6, rfl, ho6, hb6⟩
            obtain ⟨a6, c6, rfl, hn6⟩ := New.ofOwn ho6
            have HO6 : Hid (New 5 w5.heap.size w6 a6 c6 (words (strB kk)) ∧ Below w5.heap.size w5 w6) := ⟨hn6, hb6⟩
            clear ho6 hb6 hn6
            go_wp2_with (at_builtin; refine wpList_appB (by rfl) (.tmp 49) (.tmp 55) 44 (by rfl) w.heap.size 5 i8 Try.underlying44 hi hz0 hz1 hz2 _ (L ++ [1]) _ (by rfl) (HO5.out.to HO6.out.2) a6 _ c6 (words (strB kk)) (by rfl) rfl HO6.out.1.cap HO6.out.1.isB (by simp; omega) (HO5.out.big HO6.out.2) ?_; intro v7 w7 hown7 hgr7 _; have HO7 : Hid (Ow w w7 v7 (L ++ [1] ++ words (strB kk))) := HO5.out.app HO6.out.2 hown7 hgr7; clear hown7 hgr7)
            go_roundw
            case rel => exact ⟨m + 1, by omega, by go_num, by rw [HFW.out, ← List.append_assoc, HL.out, wrB_true]; have h := HO7.out; rw [List.append_assoc] at h; exact h⟩
            case measure => simp [intOf]; omega
          | false =>
            go_wp2_with (at_builtin; refine wpList_appB (by rfl) (.tmp 57) (.tmp 58) 44 (by rfl) w.heap.size 5 i8 Try.underlying44 hi hz0 hz1 hz2 _ L _ (by rfl) (HM.out.1.alloc _) (some ⟨wi.heap.size, 0, none⟩) 1 1 [0] (by rfl) rfl (by simp) (isB_new rfl (by omega)) (by omega) (by simp; omega) ?_; intro v5 w5 hown5 hgr5 _; have HO5 : Hid (Ow w w5 v5 (L ++ [0])) := HM.out.app ((Below.refl _ _).alloc (Nat.le_refl _) _) hown5 hgr5; have x0 : w5.cell? ⟨b', off' + m * 3, none⟩ = some (.string kk) := (HO5.out.2.cell (p := ⟨b', _, none⟩) hbb).trans HD.out.1; clear hown5 hgr5)
            refine (words_any kk w5 (by omega)).mono ?_
            rintro e w6 ⟨v6, rfl, ho6, hb6⟩
            obtain ⟨a6, c6, rfl, hn6⟩ := New.ofOwn ho6
            have HO6 : Hid (New 5 w5.heap.size w6 a6 c6 (words (strB kk)) ∧ Below w5.heap.size w5 w6) := ⟨hn6, hb6⟩
            clear ho6 hb6 hn6
            go_wp2_with (at_builtin; refine wpList_appB (by rfl) (.tmp 60) (.tmp 66) 44 (by rfl) w.heap.size 5 i8 Try.underlying44 hi hz0 hz1 hz2 _ (L ++ [0]) _ (by rfl) (HO5.out.to HO6.out.2) a6 _ c6 (words (strB kk)) (by rfl) rfl HO6.out.1.cap HO6.out.1.isB (by simp; omega) (HO5.out.big HO6.out.2) ?_; intro v7 w7 hown7 hgr7 _; have HO7 : Hid (Ow w w7 v7 (L ++ [0] ++ words (strB kk))) := HO5.out.app HO6.out.2 hown7 hgr7; have x2 : w7.cell? ⟨b', off' + m * 3 + 2, none⟩ = some (.string vv) := (HO7.out.2.cell (p := ⟨b', _, none⟩) hbb).trans HD.out.2.2; clear hown7 hgr7)
            refine (words_any vv w7 (by omega)).mono ?_
            rintro e w8 ⟨v8, rfl, ho8, hb8⟩
            obtain ⟨a8, c8, rfl, hn8⟩ := New.ofOwn ho8
            have HO8 : Hid (New 5 w7.heap.size w8 a8 c8 (words (strB vv)) ∧ Below w7.heap.size w7 w8) := ⟨hn8, hb8⟩
            clear ho8 hb8 hn8
            go_wp2_with (at_builtin; refine wpList_appB (by rfl) (.tmp 68) (.tmp 74) 44 (by rfl) w.heap.size 5 i8 Try.underlying44 hi hz0 hz1 hz2 _ (L ++ [0] ++ words (strB kk)) _ (by rfl) (HO7.out.to HO8.out.2) a8 _ c8 (words (strB vv)) (by rfl) rfl HO8.out.1.cap HO8.out.1.isB (by simp; omega) (HO7.out.big HO8.out.2) ?_; intro v9 w9 hown9 hgr9 _; have HO9 : Hid (Ow w w9 v9 (L ++ [0] ++ words (strB kk) ++ words (strB vv))) := HO7.out.app HO8.out.2 hown9 hgr9; clear hown9 hgr9)
            go_roundw
            case rel => exact ⟨m + 1, by omega, by go_num, by rw [HFW.out, ← List.append_assoc, HL.out, wrB_false]; have h := HO9.out; simp only [List.append_assoc] at h; exact h⟩
            case measure => simp [intOf]; omega
        · obtain rfl : m = W := by omega
          have q2 : ¬ (m : Int) < (m : Int) := by omega
          go_wp2
          go_roundw
          case rel =>
            refine ⟨k + 1, by omega, by go_num, ?_⟩
            have h := HM.out
            rw [List.take_of_length_le (by rw [HWL.out]; exact Nat.le_refl _)] at h
            rw [HFT.out, batB, HWL.out, ← List.append_assoc, HP.out, ← List.append_assoc]
            exact h
          case measure => simp [intOf]; omega
    · obtain rfl : k = n := by omega
      have q1 : ¬ (k : Int) < (k : Int) := by omega
      go_wp2
      go_ret
      refine ⟨_, rfl, ?_⟩
      have h := HK.out
      rw [List.take_of_length_le (by rw [HN.out]; exact Nat.le_refl _)] at h
      rw [putB, HN.out, ← List.append_assoc]
      exact h

end Rfp
end Go.Proofs.Ytkjddbplaicmjaa
