import Derived.Test.YtbloifnibgdeoaaProg
import Derived.Test.YtbloifnibgdeoaaDMap
import Derived.WalkKit
import Derived.WalkSpells
import Derived.WalkLawsBesides
namespace Go.Proofs.Ytbloifnibgdeoaa
namespace Dsk
open Go.RowKit Go.Maps Go.Sort Byt Laws
set_option linter.unusedVariables false
set_option maxRecDepth 100000

def Dm.enter (m : Dm) (ok : Bool) : Int × Dm := ((enterR m.down m.rig ok).1, { m with rig := (enterR m.down m.rig ok).2 })
def Dm.spend (m : Dm) (n : Nat) : Nat × Dm := ((spendR m.rig m.down n).1, { m with rig := (spendR m.rig m.down n).2.1, down := (spendR m.rig m.down n).2.2 })

section
variable {T : Nat → Nat} {w : World} {d mb : Nat} {fb : Nat → Nat} {m : Dm} {cv : Value} {D : DataW (Option Addr)}
theorem enter_pd (h : Pdi T w d mb fb m cv D) (a : Option Addr) (n c : Nat) (ss : List ByteArray)
    (hs : ∀ i s, ss[i]? = some s → ∃ nb, a = some ⟨nb, 0, none⟩ ∧ w.cell? ⟨nb, i, none⟩ = some (.string s)) (hn : n = ss.length) (hc : n ≤ c) (hc2 : c ≤ 9223372036854775807) (hl : ∀ s ∈ ss, s.size ≤ 9223372036854775807) :
    Calls Try.prog 59 #[.pointer (some ⟨d, 0, none⟩), .slice a n c] w fun e w' => e = .returned (.int .i64 (m.enter (ss.all okN)).1) ∧ Pdi T w' d mb fb (m.enter (ss.all okN)).2 cv D ∧ Goes T T w w' ∧ Keep [d] w w' := by
  refine (enter_any d _ a n c ss w h.top hs hn hc hc2 hl).mono ?_
  rintro e w' ⟨rfl, h1, h2⟩
  exact ⟨rfl, h.turn h2 h1, h.goes h2, h2⟩
/-- A call with one name. -/
theorem enter_one (h : Pdi T w d mb fb m cv D) (s : ByteArray) (hs : s.size ≤ 9223372036854775807) :
    Calls Try.prog 59 #[.pointer (some ⟨d, 0, none⟩), .slice (some ⟨w.heap.size, 0, none⟩) 1 1] (w.alloc (.cells #[.string s] 9)) fun e w' => e = .returned (.int .i64 (m.enter (okN s)).1) ∧ Pdi T w' d mb fb (m.enter (okN s)).2 cv D ∧ Goes T T w w' := by
  have hb : Below w.heap.size w (w.alloc (.cells #[.string s] 9)) := (Below.refl _ _).alloc (Nat.le_refl _) _
  refine (enter_pd (h.below hb) _ 1 1 [s] (fun i s' hi => ?_) rfl (Nat.le_refl _) (by omega) (by simpa using hs)).mono ?_
  · cases i with
    | zero => simp at hi; subst hi; exact ⟨_, rfl, by rw [World.cell?_alloc_at _ _ _ _ rfl]; rfl⟩
    | succ i => simp at hi
  · rintro e w' ⟨rfl, h1, h2, _⟩
    have e1 : [s].all okN = okN s := by simp
    rw [e1] at h1 ⊢
    exact ⟨rfl, h1, (Goes.below hb).trans h2⟩
theorem spend_pd (h : Pdi T w d mb fb m cv D) (n : Nat) (hn : n ≤ 9223372036854775807) :
    Calls Try.prog 60 #[.pointer (some ⟨d, 0, none⟩), .int .i64 n] w fun e w' => e = .returned (.int .i64 (m.spend n).1) ∧ Pdi T w' d mb fb (m.spend n).2 cv D ∧ Goes T T w w' := by
  refine (spend_any d _ n w h.top hn).mono ?_
  rintro e w' ⟨rfl, h1, h2⟩
  exact ⟨rfl, h.turn h2 h1, h.goes h2⟩
end

/-- P3.2, P3.3: Create. -/
def Dm.create (m : Dm) (s : ByteArray) : Int × Dm :=
  if (m.enter (okN s)).1 ≠ 0 then m.enter (okN s)
  else if (look m.now (ky s)).isSome then (35, (m.enter (okN s)).2)
  else if 8388608 ≤ m.now.length then (32, (m.enter (okN s)).2)
  else if 0 < ((m.enter (okN s)).2.spend 1).1 then (30, ((m.enter (okN s)).2.spend 1).2)
  else (0, (((m.enter (okN s)).2.spend 1).2.note ⟨s, none, ⟨#[]⟩, none⟩).born (ky s))

set_option maxHeartbeats 1000000 in
theorem create_any {T : Nat → Nat} {w : World} {d mb : Nat} {fb : Nat → Nat} {m : Dm} (h : Pd T w d mb fb m) (s : ByteArray) (hs : s.size ≤ maxLen) (hm : m.ch.length ≤ 1000000) :
    Calls Try.prog 23 #[.pointer (some ⟨d, 0, none⟩), .string s] w fun e w' => e = .returned (.int .i64 (m.create s).1) ∧ ∃ T' fb', Pd T' w' d mb fb' (m.create s).2 ∧ Goes T T' w w' := by
  obtain ⟨cv, D, h⟩ := h
  have HH : Hid (Pdi T w d mb fb m cv D) := h
  have HS : Hid (s.size ≤ maxLen) := hs
  have hs9 : s.size ≤ 9223372036854775807 := by unfold maxLen at hs; omega
  clear h hs
  go_enter Try.func23, Try.ntmps23
  go_wp2_with fail
  refine (enter_one HH.out s hs9).mono ?_
  rintro e w1 ⟨rfl, h1, g1⟩
  have H1 : Hid (Pdi T w1 d mb fb (m.enter (okN s)).2 cv D) := h1
  have G1 : Hid (Goes T T w w1) := g1
  clear h1 g1 HH
  by_cases he : (m.enter (okN s)).1 = 0
  · rw [he]
    have hnow : (m.enter (okN s)).2.now = m.now := rfl
    have hch : (m.enter (okN s)).2.ch = m.ch := rfl
    obtain ⟨m1, hm1⟩ : ∃ m1, m1 = (m.enter (okN s)).2 := ⟨_, rfl⟩
    have HM1 : Hid (m1 = (m.enter (okN s)).2) := hm1
    rw [← hm1] at hnow hch
    have H1' : Hid (Pdi T w1 d mb fb m1 cv D) := by rw [hm1]; exact H1.out
    have c6 := (H1'.out.top.1.2 6 (by omega)).1
    simp only [Top.cell] at c6
    have HN : Hid (m1.now = m.now ∧ m1.ch = m.ch) := ⟨hnow, hch⟩
    clear hm1 H1 hnow hch
    cases hl : look m1.now (ky s) with
    | some i =>
      go_wp2_with (at_lookup; refine wpList_look H1'.out s HS.out (by rfl) (.tmp 16) (.tmp 17) (by rfl) (by rfl) (by rfl) ?_; rw [hl]; simp only [pv])
      go_ret
      have e : m.create s = (35, m1) := by
        rw [HM1.out]; unfold Dm.create
        rw [if_neg (by simp [he]), if_pos (by rw [← HN.out.1, hl]; rfl)]
      rw [e]
      exact ⟨rfl, T, fb, ⟨cv, D, H1'.out⟩, G1.out⟩
    | none =>
      by_cases hbig : 8388608 ≤ m1.now.length
      · have hbig' : (8388608 : Int) ≤ (m1.now.length : Int) := by omega
        go_wp2_with (first | (at_lookup; refine wpList_look H1'.out s HS.out (by rfl) (.tmp 16) (.tmp 17) (by rfl) (by rfl) (by rfl) ?_; rw [hl]; simp only [pv]) | (at_len; refine wpList_lenD H1'.out (by rfl) (.tmp 23) (by rfl) (by rfl) ?_))
        go_ret
        have e : m.create s = (32, m1) := by
          rw [HM1.out]; unfold Dm.create
          rw [if_neg (by simp [he]), if_neg (by rw [← HN.out.1, hl]; simp), if_pos (by rw [← HN.out.1]; exact hbig)]
        rw [e]
        exact ⟨rfl, T, fb, ⟨cv, D, H1'.out⟩, G1.out⟩
      · obtain ⟨L, hL⟩ : ∃ L : Int, ((m1.now.length : Nat) : Int) = L := ⟨_, rfl⟩
        have hbig' : L < 8388608 := by omega
        have HLE : Hid (((m1.now.length : Nat) : Int) = L) := hL
        clear hL
        have HBG : Hid (¬ 8388608 ≤ m1.now.length) := hbig
        clear hbig
        go_wp2_with (first | (at_lookup; refine wpList_look H1'.out s HS.out (by rfl) (.tmp 16) (.tmp 17) (by rfl) (by rfl) (by rfl) ?_; rw [hl]; simp only [pv]) | (at_len; refine wpList_lenD H1'.out (by rfl) (.tmp 23) (by rfl) (by rfl) ?_; rw [HLE.out]))
        refine (spend_pd H1'.out 1 (by omega)).mono ?_
        rintro e w2 ⟨rfl, h2, g2⟩
        have H2 : Hid (Pdi T w2 d mb fb (m1.spend 1).2 cv D) := h2
        have G2 : Hid (Goes T T w w2) := G1.out.trans g2
        clear h2 g2
        by_cases hp : 0 < (m1.spend 1).1
        · have hp' : (0 : Int) < ((m1.spend 1).1 : Int) := by omega
          go_wp2
          go_ret
          have e : m.create s = (30, (m1.spend 1).2) := by
            rw [HM1.out] at hp ⊢; unfold Dm.create
            rw [if_neg (by simp [he]), if_neg (by rw [← HN.out.1, hl]; simp), if_neg (by rw [← HN.out.1]; exact HBG.out), if_pos hp]
          rw [e]
          exact ⟨rfl, T, fb, ⟨cv, D, H2.out⟩, G2.out⟩
        · have hp' : (m1.spend 1).1 = 0 := by omega
          rw [hp']
          go_wp2_with fail
          have HS2 : Hid ((m1.spend 1).2.now = m.now ∧ (m1.spend 1).2.ch = m.ch) := HN.out
          refine (note_any ⟨cv, D, H2.out⟩ ⟨s, none, ⟨#[]⟩, none⟩ ⟨(fun i e => by cases e), (fun i e => by cases e)⟩ (by rw [HS2.out.2]; exact hm) ⟨HS.out, Nat.zero_le _⟩).mono ?_
          rintro e w3 ⟨rfl, T3, ⟨cv3, D3, h3⟩, g3⟩
          have H3 : Hid (Pdi T3 w3 d mb fb ((m1.spend 1).2.note ⟨s, none, ⟨#[]⟩, none⟩) cv3 D3) := h3
          have G3 : Hid (Goes T T3 w w3) := G2.out.trans g3
          have c63 := (h3.top.1.2 6 (by omega)).1
          simp only [Top.cell] at c63
          have HMX : Hid (((m1.spend 1).2.note ⟨s, none, ⟨#[]⟩, none⟩).now.length < maxLen) := by
            have := h3.most
            show _ < _
            unfold maxLen; omega
          clear h3 g3 c6
          go_wp2_with (at_mapUpdate; refine wpList_mapUpdate_own _ (by rfl) (.tmp 36) (.tmp 37) (.tmp 39) 82 (by rfl) 9 87 keyed Try.underlying82 ptrR mb _ D3 (by rfl) (H3.out.map.alloc _) HMX.out _ _ (.string (ky s)) (by rfl) (by rfl) (keyOf_s s HS.out) (.held (some ⟨w3.heap.size, 0, none⟩)) [] (by rfl) ?_; intro w4 ho4 hg4; obtain ⟨T4, h4, g4⟩ := H3.out.born (k := ky s) (by show look (m1.spend 1).2.now (ky s) = none; exact hl) (by show (m1.spend 1).2.now.length < 8388608; have := HBG.out; rw [HS2.out.1, ← HN.out.1]; omega) ho4 hg4; have H4 : Hid (Pdi T4 w4 d mb (upd fb ((m1.spend 1).2.note ⟨s, none, ⟨#[]⟩, none⟩).fl.length w3.heap.size) (((m1.spend 1).2.note ⟨s, none, ⟨#[]⟩, none⟩).born (ky s)) cv3 _) := h4; have G4 : Hid (Goes T T4 w w4) := G3.out.trans g4; clear ho4 hg4 h4 g4)
          go_ret
          have e : m.create s = (0, ((m1.spend 1).2.note ⟨s, none, ⟨#[]⟩, none⟩).born (ky s)) := by
            rw [HM1.out] at hp ⊢; unfold Dm.create
            rw [if_neg (by simp [he]), if_neg (by rw [← HN.out.1, hl]; simp), if_neg (by rw [← HN.out.1]; exact HBG.out), if_neg hp]
          rw [e]
          exact ⟨rfl, T4, _, ⟨cv3, _, H4.out⟩, G4.out⟩
  · have he' : ((m.enter (okN s)).1 != 0) = true := by simp [he]
    go_wp2
    go_ret
    have e : m.create s = m.enter (okN s) := by unfold Dm.create; rw [if_pos he]
    rw [e]
    exact ⟨rfl, T, fb, ⟨cv, D, H1.out⟩, G1.out⟩
end Dsk
end Go.Proofs.Ytbloifnibgdeoaa
