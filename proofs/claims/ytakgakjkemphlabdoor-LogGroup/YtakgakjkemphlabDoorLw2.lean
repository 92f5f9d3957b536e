import Derived.Test.YtakgakjkemphlabDoorKw1
import Derived.Test.YtakgakjkemphlabDoorBat7
import Derived.Test.YtakgakjkemphlabDoorWei7
import Derived.Test.YtakgakjkemphlabDoorLgF
namespace Go.Proofs.YtakgakjkemphlabDoor
namespace Lgf
open Go.RowKit CMath Byt Cod Lg Lga Lgp Lgg Lgr Laws Grp Crw Kwn
set_option linter.unusedVariables false
set_option maxRecDepth 20000
set_option linter.unusedSimpArgs false

theorem okW_of {x : W3} (h : Chk.errW x.1 x.2.1 x.2.2 = 0) : okW x := by
  obtain ⟨k, d, v⟩ := x
  dsimp only at h
  unfold Chk.errW at h
  have he : Chk.err k.size = 0 := by
    by_cases he : Chk.err k.size = 0
    · exact he
    · rw [if_neg he] at h; exact absurd h he
  rw [if_pos he] at h
  have hv : ¬ 512 < (Chk.val d v).size := fun hv => by rw [if_pos hv] at h; cases h
  unfold Chk.err at he
  refine ⟨?_, ?_, fun hd => ?_⟩
  · dsimp only
    rcases Nat.eq_zero_or_pos k.size with h0 | h0
    · rw [if_pos h0] at he; cases he
    · exact h0
  · dsimp only
    rcases Nat.lt_or_ge 64 k.size with h0 | h0
    · rw [if_neg (by omega), if_pos h0] at he; cases he
    · exact h0
  · dsimp only at hd ⊢
    subst hd
    rw [Chk.val_false] at hv
    omega
theorem okL_of (ws : List W3) : Chk.errL ws = 0 → ∀ x ∈ ws, okW x := by
  induction ws with
  | nil => intro _ x hx; simp at hx
  | cons y ws ih =>
    intro h x hx
    have hy : Chk.errW y.1 y.2.1 y.2.2 = 0 := by
      by_cases hy : Chk.errW y.1 y.2.1 y.2.2 = 0
      · exact hy
      · have := Chk.errL_no (ws := y :: ws) (k := 0) (x := y) rfl hy
        rw [List.drop_zero] at this
        rw [this] at h
        exact absurd h hy
    have h2 := Chk.errL_ok (ws := y :: ws) (k := 0) (x := y) rfl hy
    rw [List.drop_zero, h, List.drop_succ_cons, List.drop_zero] at h2
    rcases List.mem_cons.1 hx with rfl | hx
    · exact okW_of hy
    · exact ih h2.symm x hx
theorem okB_of {ws : List W3} (h : Chk.errB ws = 0) : (∀ x ∈ ws, okW x) ∧ ws.length ≤ 16 := by
  unfold Chk.errB at h
  by_cases h16 : 16 < ws.length
  · rw [if_pos h16] at h; cases h
  · rw [if_neg h16] at h
    exact ⟨okL_of ws h, by omega⟩
theorem wt_eq {x : W3} (h : okW x) : Wei.wt x.1 x.2.1 x.2.2 = (weiW x : Int) ∧ weiW x ≤ 1088 := by
  obtain ⟨k, d, v⟩ := x
  obtain ⟨h1, h2, h3⟩ := h
  dsimp only at h1 h2 h3
  cases d with
  | true =>
    have hs : (Chk.val true v).size = 0 := rfl
    unfold Wei.wt weiW wrap64
    dsimp only
    rw [hs]
    simp
    omega
  | false =>
    have := h3 rfl
    have hs : (Chk.val false v).size = v.size := rfl
    unfold Wei.wt weiW wrap64
    dsimp only
    rw [hs]
    simp
    omega
theorem sumF_eq (ws : List W3) (h : ∀ x ∈ ws, okW x) (hl : ws.length ≤ 16) : Wei.sumF ws = ((ws.map weiW).sum : Nat) ∧ (ws.map weiW).sum ≤ 1088 * ws.length := by
  have key : ∀ n, n ≤ ws.length → Wei.sumF (ws.take n) = (((ws.take n).map weiW).sum : Nat) ∧ ((ws.take n).map weiW).sum ≤ 1088 * n := by
    intro n
    induction n with
    | zero => intro _; exact ⟨rfl, by simp⟩
    | succ n ih =>
      intro hn
      obtain ⟨e1, e2⟩ := ih (by omega)
      obtain ⟨x, hx⟩ : ∃ x, ws[n]? = some x := ⟨_, List.getElem?_eq_getElem (by omega)⟩
      obtain ⟨e3, e4⟩ := wt_eq (h x (List.mem_of_getElem? hx))
      rw [Wei.sumF_take hx, e1, e3, sum_take hx]
      refine ⟨?_, by omega⟩
      unfold wrap64
      omega
  have := key ws.length (Nat.le_refl _)
  rw [List.take_length] at this
  exact this

set_option maxHeartbeats 2000000 in
theorem walk (at' : Int) (first : Nat) (a : Option Addr) (cap : Nat) (gs : List (List W3)) (w : World) (hat : -9223372036854775808 ≤ at' ∧ at' ≤ 9223372036854775807) (hf : first < 18446744073709551616) (hg : IsG w a gs) (hgl : (gs.length : Int) ≤ 9223372036854775807) (ht : Tab w) :
    Calls Tryd.prog 5 #[.int .i64 at', .int .u64 first, .slice a gs.length cap] w fun e w' => e = .returned (.bool true) ∧ Below w.heap.size w w' := by
  have HG : Hid (IsG w a gs) := hg
  have HT : Hid (Tab w) := ht
  clear hg ht
  obtain ⟨n, hn⟩ : ∃ n, gs.length = n := ⟨_, rfl⟩
  have HN : Hid (gs.length = n) := hn
  have HSM := small_any w a cap gs hgl HG.out
  rw [hn] at HSM hgl ⊢
  have HSS : Hid (Calls Tryd.prog 13 #[.slice a n cap] w fun r w' => (∃ b : Bool, r = .returned (.bool b) ∧ (b = true → bulkG gs ≤ 32768)) ∧ Below w.heap.size w w') := HSM
  clear HSM hn
  by_cases h8 : 8 < n
  · have q1 : (8 : Int) < (n : Int) := by omega
    go_enter Tryd.func5, Tryd.ntmps5
    go_wp2
    go_ret
    exact ⟨rfl, Below.refl _ _⟩
  · have q1 : ¬ (8 : Int) < (n : Int) := by omega
    go_enter Tryd.func5, Tryd.ntmps5
    go_wp2_with fail
    refine HSS.out.mono ?_
    rintro e w1 ⟨⟨bb, rfl, hbk⟩, hb1⟩
    have HB1 : Hid (Below w.heap.size w w1) := hb1
    clear hb1
    cases bb with
    | false =>
      go_wp2
      go_ret
      exact ⟨rfl, HB1.out⟩
    | true =>
      have hbulk := hbk rfl
      clear hbk
      go_wp2_with fail
      refine (known_any w1 (HT.out.below HB1.out HT.out.lt)).mono ?_
      rintro e w2 ⟨rfl, hb2⟩
      have HB2 : Hid (Below w.heap.size w w2) := HB1.out.trans (hb2.mono HB1.out.size)
      clear hb2 HB1
      go_wp2
      go_loopw [7, 8] (fun vw vi wr => ∃ (k : Nat), k ≤ n ∧ vi = .int .i64 (k : Int) ∧ vw = .int .i64 ((weiG (gs.take k) : Nat) : Int) ∧ weiG (gs.take k) ≤ 17408 * k ∧ Hid ((∀ ws ∈ gs.take k, (∀ x ∈ ws, okW x) ∧ ws.length ≤ 16) ∧ Below w.heap.size w wr)) (fun _ vi _ => n - (intOf vi).toNat)
      case atStart => exact ⟨0, Nat.zero_le _, rfl, by simp [weiG], by simp [weiG], by simp, HB2.out⟩
      case round =>
        clear HB2
        obtain ⟨k, hk, rfl, rfl, hwk, HX⟩ := hrel
        rename World => wr
        by_cases hlt : k < n
        · have q2 : (k : Int) < (n : Int) := by omega
          have hkl : k < gs.length := by rw [HN.out]; exact hlt
          obtain ⟨b, off, ad, c, rfl, hbs, c0, hws⟩ := (HG.out.below HX.out.2).rd hkl
          have hws0 : Chk.IsWr w ad (gs.getD k []) := by
            obtain ⟨b', off', ad', c', e', hbs', c0', hws'⟩ := HG.out.rd hkl
            cases e'
            have := (HX.out.2.cell (p := ⟨b, off + k, none⟩) hbs').trans c0'
            rw [c0] at this
            cases this
            exact hws'
          have hbw : b < w.heap.size := by
            obtain ⟨b', off', ad', c', e', hbs', c0', hws'⟩ := HG.out.rd hkl
            cases e'
            exact hbs'
          have HWS : Hid (Chk.IsWr w ad (gs.getD k [])) := hws0
          have HXK : Hid (gs[k]? = some (gs.getD k [])) := by show _ = _; simp [hkl]
          clear hws hws0 hkl
          generalize gs.getD k [] = ws at *
          have hwe : weiG (gs.take (k + 1)) = weiG (gs.take k) + (ws.map weiW).sum := sum_take HXK.out
          have HWE : Hid (weiG (gs.take (k + 1)) = weiG (gs.take k) + (ws.map weiW).sum) := hwe
          clear hwe
          generalize hWK : weiG (gs.take k) = WK at *
          obtain ⟨eb, heb⟩ : ∃ eb, Chk.errB ws = eb := ⟨_, rfl⟩
          have HCB : Hid (∀ W, Below w.heap.size w W → Calls Tryd.prog 14 #[.slice ad ws.length c] W fun e w' => e = .returned (.int .i64 eb) ∧ Below W.heap.size W w') := fun W hW => by rw [← heb]; exact Bat.checkBatch_any ad c ws W (HWS.out.below hW)
          by_cases he0 : eb = 0
          · subst he0
            obtain ⟨hok, h16⟩ := okB_of heb
            obtain ⟨es, hs⟩ := sumF_eq ws hok h16
            have HOK : Hid ((∀ x ∈ ws, okW x) ∧ ws.length ≤ 16) := ⟨hok, h16⟩
            have HBW : Hid (∀ W, Below w.heap.size w W → Calls Tryd.prog 15 #[.slice ad ws.length c] W fun e w' => e = .returned (.int .i64 (((ws.map weiW).sum : Nat) : Int)) ∧ Below W.heap.size W w') := fun W hW => by rw [← es]; exact Wei.batchWeight_any ad c ws W (HWS.out.below hW)
            clear heb hok es
            generalize (ws.map weiW).sum = SW at *
            go_wp2_with (first
              | (go_at_call 14; refine (HCB.out _ HX.out.2).mono ?_; rintro e w3 ⟨rfl, hb3⟩; have HB3 : Hid (Below w.heap.size w w3) := HX.out.2.trans (hb3.mono HX.out.2.size); have c3 : w3.cell? ⟨b, off + k, none⟩ = some (.slice ad ws.length c) := (hb3.cell (p := ⟨b, off + k, none⟩) hbs).trans c0; clear hb3)
              | (go_at_call 11; refine (num_any _ _).mono ?_; rintro e w6 ⟨rfl, hw6⟩; obtain rfl := hw6.symm)
              | (go_at_call 15; refine (HBW.out _ HB3.out).mono ?_; rintro e w4 ⟨rfl, hb4⟩; have HB4 : Hid (Below w.heap.size w w4) := HB3.out.trans (hb4.mono HB3.out.size); clear hb4))
            go_roundw
            case rel =>
              refine ⟨k + 1, by omega, by go_num, by rw [HWE.out]; go_num, by rw [HWE.out]; omega, fun ys hys => ?_, HB4.out⟩
              rw [List.take_add_one, HXK.out] at hys
              rcases List.mem_append.1 hys with h | h
              · exact HX.out.1 ys h
              · simp at h; subst h; exact HOK.out
            case measure => simp [intOf]; omega
          · have q3 : (eb != 0) = true := by simp; exact he0
            go_wp2_with (first
              | (go_at_call 14; refine (HCB.out _ HX.out.2).mono ?_; rintro e w3 ⟨rfl, hb3⟩; have HB3 : Hid (Below w.heap.size w w3) := HX.out.2.trans (hb3.mono HX.out.2.size); clear hb3)
              | (go_at_call 11; refine (num_any _ _).mono ?_; rintro e w6 ⟨rfl, hw6⟩; obtain rfl := hw6.symm))
            go_ret
            exact ⟨rfl, HB3.out⟩
        · obtain rfl : k = n := by omega
          have q2 : ¬ (k : Int) < (k : Int) := by omega
          have htk : gs.take k = gs := List.take_of_length_le (by rw [HN.out]; exact Nat.le_refl _)
          rw [htk] at hwk HX ⊢
          have hfits := fits at'.toNat first gs hf (by rw [HN.out]; omega) HX.out.1
          have hpb := putB_bulk first gs hf hbulk
          obtain ⟨PB, hPB⟩ : ∃ PB, putB first gs = PB := ⟨_, rfl⟩
          rw [hPB] at hfits hpb
          have HPB : Hid (putB first gs = PB) := hPB
          generalize hWG : weiG gs = WG at *
          clear hPB htk
          go_wp2_with (first
            | (go_at_call 17; refine (put_any first a cap k gs wr hf HN.out.symm (HG.out.below HX.out.2) hbulk).mono ?_; rintro e w3 ⟨v3, rfl, ho3, hb3⟩; rw [HPB.out] at ho3; obtain ⟨a3, c3, rfl, hn3⟩ := New.ofOwn ho3; have H3 : Hid (New 5 wr.heap.size w3 a3 c3 PB ∧ Below w.heap.size w w3) := ⟨hn3, HX.out.2.trans (hb3.mono HX.out.2.size)⟩; have hle3 := hn3.le; have hmx3 := hn3.max; clear ho3 hb3 hn3)
            | (go_at_call 16; refine (append_any at' a3 c3 PB.length PB w3 H3.out.1.isB H3.out.1.cap hle3 hmx3 (HT.out.below H3.out.2 HT.out.lt) rfl (by omega) hat).mono ?_; rintro e w4 ⟨v4, rfl, ho4, hb4⟩; obtain ⟨a4, c4, rfl, hn4⟩ := New.ofOwn ho4; have H4 : Hid (Below w.heap.size w w4) := H3.out.2.trans (hb4.mono H3.out.2.size); clear ho4 hb4 hn4))
          go_ret
          refine ⟨?_, H4.out⟩
          simp
          omega

end Lgf
end Go.Proofs.YtakgakjkemphlabDoor
