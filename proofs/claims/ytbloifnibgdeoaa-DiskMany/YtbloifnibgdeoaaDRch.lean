import Derived.Test.YtbloifnibgdeoaaProg
import Derived.Test.YtbloifnibgdeoaaDApp
import Derived.WalkKit
import Derived.WalkSpells
import Derived.WalkLawsBesides
import Derived.Deep.QuietTactic
import Derived.BigQuiet
namespace Go.Proofs.Ytbloifnibgdeoaa
namespace Dsk
open Go.RowKit Go.Maps Go.Sort Byt Laws
set_option linter.unusedVariables false
set_option maxRecDepth 100000

/-- Places 1 to 6 of P3.2, for a call that needs a file and costs one unit. -/
def Dm.reach (m : Dm) (ok : Bool) (k : Key) : Int × Dm :=
  if (m.enter ok).1 ≠ 0 then m.enter ok
  else match look m.now k with
    | none => (34, (m.enter ok).2)
    | some _ => if 0 < ((m.enter ok).2.spend 1).1 then (30, ((m.enter ok).2.spend 1).2) else (0, ((m.enter ok).2.spend 1).2)

/-- The file that such a call hands on. -/
def reachV (fb : Nat → Nat) (ec : Int) (o : Option Nat) : Value := if ec = 0 then pv fb o else .pointer none
theorem reachV_no (fb : Nat → Nat) {ec : Int} (h : ec ≠ 0) (o : Option Nat) : reachV fb ec o = .pointer none := if_neg h
theorem reachV_ok (fb : Nat → Nat) (o : Option Nat) : reachV fb 0 o = pv fb o := if_pos rfl

set_option maxHeartbeats 1000000 in
theorem reach_pd {T : Nat → Nat} {w : World} {d mb : Nat} {fb : Nat → Nat} {m : Dm} {cv : Value} {D : DataW (Option Addr)} (h : Pdi T w d mb fb m cv D) (nb n c : Nat) (ss : List ByteArray) (s : ByteArray)
    (hs : ∀ i s, ss[i]? = some s → w.cell? ⟨nb, i, none⟩ = some (.string s)) (hnb : nb < w.heap.size) (hnd : T nb = 0) (hn : n = ss.length) (h0 : ss[0]? = some s) (hc : n ≤ c) (hc2 : c ≤ 9223372036854775807) (hl : ∀ s ∈ ss, s.size ≤ maxLen) :
    Calls Try.prog 71 #[.pointer (some ⟨d, 0, none⟩), .slice (some ⟨nb, 0, none⟩) n c] w fun e w' =>
      e = .returned (.tuple #[reachV fb (m.reach (ss.all okN) (ky s)).1 (look m.now (ky s)), .int .i64 (m.reach (ss.all okN) (ky s)).1]) ∧ Pdi T w' d mb fb (m.reach (ss.all okN) (ky s)).2 cv D ∧ Goes T T w w' := by
  have HH : Hid (Pdi T w d mb fb m cv D) := h
  have HL : Hid (∀ s ∈ ss, s.size ≤ maxLen) := hl
  have HSS : Hid (∀ i s, ss[i]? = some s → w.cell? ⟨nb, i, none⟩ = some (.string s)) := hs
  have hs0 := hs 0 s h0
  have hsz : s.size ≤ maxLen := hl s (List.mem_of_getElem? h0)
  have HZ : Hid (s.size ≤ maxLen) := hsz
  have HN : Hid (n = ss.length) := hn
  have hn1 : 1 ≤ n := by rw [hn]; have := (List.getElem?_eq_some_iff.1 h0).1; omega
  have ND : Hid (T nb = 0 ∧ nb < w.heap.size) := ⟨hnd, hnb⟩
  generalize hok : ss.all okN = ok
  have HOK : Hid (ss.all okN = ok) := hok
  clear h hs hl hsz hn hnd hnb h0 hok
  go_enter Try.func71, Try.ntmps71
  go_wp2_with fail
  refine (enter_pd HH.out _ n c ss (fun i s hi => ⟨nb, rfl, HSS.out i s hi⟩) HN.out hc hc2 (fun s hs => by have := HL.out s hs; unfold maxLen at this; omega)).mono ?_
  rintro e w1 ⟨rfl, h1, g1, _⟩
  rw [HOK.out] at h1 ⊢
  have cs1 : w1.cell? ⟨nb, 0, none⟩ = some (.string s) := by rw [World.cell?_of_block (g1.block nb ND.out.2 ND.out.1).1]; exact hs0
  have G1 : Hid (Goes T T w w1) := g1
  obtain ⟨m1, hm1⟩ : ∃ m1, m1 = (m.enter ok).2 := ⟨_, rfl⟩
  have HM1 : Hid (m1 = (m.enter ok).2) := hm1
  rw [← hm1] at h1
  have H1 : Hid (Pdi T w1 d mb fb m1 cv D) := h1
  have HNW : Hid (m1.now = m.now) := by rw [hm1]; rfl
  have c6 := (h1.top.1.2 6 (by omega)).1
  simp only [Top.cell] at c6
  clear hm1 g1 hs0
  obtain ⟨ec, hec⟩ : ∃ ec, ec = (m.enter ok).1 := ⟨_, rfl⟩
  have HEC : Hid (ec = (m.enter ok).1) := hec
  rw [← hec]
  clear hec
  by_cases he : ec = 0
  · subst he
    have hlk : ∀ k, (Instr.lookup 82 (.map (some mb)) (.string s) false).run Try.prog (w1.drewN k) = .ok (pv fb (look m1.now (ky s))) (w1.drewN k) := fun k => look_run (w := w1.drewN k) (m := m1) H1.out.map H1.out.dir s HZ.out
    clear h1
    cases hl : look m1.now (ky s) with
    | none =>
      rw [hl] at hlk
      simp only [pv] at hlk
      have HE : Hid (m.reach ok (ky s) = (34, m1)) := by
        show _ = _
        rw [HM1.out]; unfold Dm.reach
        rw [if_neg (by rw [← HEC.out]; simp), ← HNW.out, hl]
      go_wp2
      go_quiet (fail)
      have hbq : ∀ k, Below w1.heap.size w1 (w1.drewN k) := fun k => below_drewN (Below.refl _ _) _
      go_wp2
      go_ret2
      rw [HE.out]
      simp only [reachV_no fb (show (34 : Int) ≠ 0 by decide)]
      exact ⟨rfl, H1.out.below (hbq _), G1.out.trans (Goes.below (hbq _))⟩
    | some i =>
      rw [hl] at hlk
      simp only [pv] at hlk
      go_wp2
      go_quiet (fail)
      have hbq : ∀ k, Below w1.heap.size w1 (w1.drewN k) := fun k => below_drewN (Below.refl _ _) _
      go_wp2_with fail
      refine (spend_pd (H1.out.below (hbq _)) 1 (by omega)).mono ?_
      rintro e w2 ⟨rfl, h2, g2⟩
      have H2 : Hid (Pdi T w2 d mb fb (m1.spend 1).2 cv D ∧ Goes T T w w2) := ⟨h2, G1.out.trans ((Goes.below (hbq _)).trans g2)⟩
      clear h2 g2 hbq
      by_cases hp : 0 < (m1.spend 1).1
      · have hp' : (0 : Int) < ((m1.spend 1).1 : Int) := by omega
        have HE : Hid (m.reach ok (ky s) = (30, (m1.spend 1).2)) := by
          show _ = _
          rw [HM1.out] at hp ⊢; unfold Dm.reach
          rw [if_neg (by rw [← HEC.out]; simp), ← HNW.out, hl]
          simp only
          rw [if_pos hp]
        go_wp2
        go_ret2
        rw [HE.out]
        simp only [reachV_no fb (show (30 : Int) ≠ 0 by decide)]
        exact ⟨rfl, H2.out.1, H2.out.2⟩
      · have hp' : (m1.spend 1).1 = 0 := by omega
        have HE : Hid (m.reach ok (ky s) = (0, (m1.spend 1).2)) := by
          show _ = _
          rw [HM1.out] at hp ⊢; unfold Dm.reach
          rw [if_neg (by rw [← HEC.out]; simp), ← HNW.out, hl]
          simp only
          rw [if_neg hp]
        rw [hp']
        go_wp2
        go_ret2
        rw [HE.out, ← HNW.out, hl, reachV_ok]
        exact ⟨rfl, H2.out.1, H2.out.2⟩
  · have he0 : (ec != 0) = true := by simp [he]
    have HE : Hid (m.reach ok (ky s) = (ec, m1)) := by
      show _ = _
      rw [HM1.out, HEC.out]; unfold Dm.reach
      rw [if_pos (by rw [← HEC.out]; exact he)]
    clear h1
    go_wp2
    go_ret2
    rw [HE.out, reachV_no fb he]
    exact ⟨rfl, H1.out, G1.out⟩
/-- .. with one name. -/
theorem reach_one {T : Nat → Nat} {w : World} {d mb : Nat} {fb : Nat → Nat} {m : Dm} {cv : Value} {D : DataW (Option Addr)} (h : Pdi T w d mb fb m cv D) (s : ByteArray) (hs : s.size ≤ maxLen) :
    Calls Try.prog 71 #[.pointer (some ⟨d, 0, none⟩), .slice (some ⟨w.heap.size, 0, none⟩) 1 1] (w.alloc (.cells #[.string s] 9)) fun e w' =>
      e = .returned (.tuple #[reachV fb (m.reach (okN s) (ky s)).1 (look m.now (ky s)), .int .i64 (m.reach (okN s) (ky s)).1]) ∧ Pdi T w' d mb fb (m.reach (okN s) (ky s)).2 cv D ∧ Goes T T w w' := by
  have hb : Below w.heap.size w (w.alloc (.cells #[.string s] 9)) := (Below.refl _ _).alloc (Nat.le_refl _) _
  have e1 : [s].all okN = okN s := by simp
  have := reach_pd (h.below hb) w.heap.size 1 1 [s] s (fun i s' hi => by
    cases i with
    | zero => simp at hi; subst hi; rw [World.cell?_alloc_at _ _ _ _ rfl]; rfl
    | succ i => simp at hi) (by simp) (h.fresh _ (Nat.le_refl _)) rfl rfl (Nat.le_refl _) (by omega) (by simpa using hs)
  rw [e1] at this
  refine this.mono ?_
  rintro e w' ⟨rfl, h1, h2⟩
  exact ⟨rfl, h1, (Goes.below hb).trans h2⟩
theorem reach_ok {m : Dm} {ok : Bool} {k : Key} (h : (m.reach ok k).1 = 0) : ∃ i, look m.now k = some i := by
  unfold Dm.reach at h
  split at h
  · rename_i h2; exact absurd h h2
  · cases hl : look m.now k with
    | none => rw [hl] at h; simp at h
    | some i => exact ⟨i, rfl⟩
theorem reach_same (m : Dm) (ok : Bool) (k : Key) : (m.reach ok k).2.now = m.now ∧ (m.reach ok k).2.fl = m.fl ∧ (m.reach ok k).2.ch = m.ch ∧ (m.reach ok k).2.room = m.room := by
  unfold Dm.reach
  split
  · exact ⟨rfl, rfl, rfl, rfl⟩
  · split
    · exact ⟨rfl, rfl, rfl, rfl⟩
    · split <;> exact ⟨rfl, rfl, rfl, rfl⟩
end Dsk
end Go.Proofs.Ytbloifnibgdeoaa
