import Derived.Test.YtdbiliigbinmfaaDoorProg
import Derived.Test.YtdbiliigbinmfaaDoorFra
import Derived.WalkKit
import Derived.WalkSpells
import Derived.WalkLawsBesides
import Derived.Deep.QuietTactic
import Derived.BigQuiet
namespace Go.Proofs.YtdbiliigbinmfaaDoor
namespace Cod
open Go.RowKit CMath Byt
set_option linter.unusedVariables false
set_option maxRecDepth 20000

theorem unframe_mea (l : List Nat) : unframe l = if meaErr l 262144 4 ≠ 0 then ([], 0, meaErr l 262144 4)
    else if (l.drop ((rd l 0 0).2.1 + (rd l 0 0).1)).take 4 ≠ four (crc (l.take ((rd l 0 0).2.1 + (rd l 0 0).1))) then ([], 0, 23)
    else ((l.drop (rd l 0 0).2.1).take (rd l 0 0).1, (rd l 0 0).2.1 + (rd l 0 0).1 + 4, 0) := by
  unfold unframe meaErr
  by_cases h1 : (rd l 0 0).2.2 ≠ 0
  · simp only [if_pos h1]
  · simp only [if_neg h1]
    by_cases h2 : 262144 < (rd l 0 0).1
    · have h2' : (262144 : Int) < ((rd l 0 0).1 : Int) := by omega
      simp [if_pos h2, if_pos h2']
    · have h2' : ¬ (262144 : Int) < ((rd l 0 0).1 : Int) := by omega
      simp only [if_neg h2, if_neg h2']
      by_cases h3 : l.length < (rd l 0 0).2.1 + (rd l 0 0).1 + 4
      · simp [if_pos h3]
      · simp [if_neg h3]
theorem mea_le {l : List Nat} {most : Int} {t : Nat} (he : meaErr l most t = 0) : (rd l 0 0).2.1 + (rd l 0 0).1 + t ≤ l.length ∧ ((rd l 0 0).1 : Int) ≤ most ∧ (rd l 0 0).2.2 = 0 := by
  unfold meaErr at he
  split at he
  · exact absurd he (by assumption)
  · rename_i h1
    split at he
    · omega
    · split at he
      · omega
      · exact ⟨by omega, by omega, by simpa using h1⟩
theorem same4 {x : List Nat} {s : Nat} (hx : ∀ y ∈ x, y < 256) (hl : x.length = 4) (hs : s < 4294967296) : (x = four s) ↔ (s : Int) = ((val x : Nat) : Int) := by
  constructor
  · intro e
    rw [e, four_val hs]
  · intro e
    refine val_inj _ _ hx (four_byte _) (by rw [hl]; rfl) ?_
    rw [four_val hs]
    omega

/-- What Unframe answers, where it is handed a body. -/
def unfV (a : Option Addr) (c : Nat) (u : List Nat × Nat × Nat) : Value := .tuple #[.slice a u.1.length c, .int .i64 (u.2.1 : Nat), .int .i64 (u.2.2 : Nat)]
theorem New.nil (T base : Nat) (w : World) : New T base w none 0 [] := ⟨World.ownsRow_nil _ _ _ _, by simp⟩

set_option maxHeartbeats 1000000 in
theorem unframe_any (a : Option Addr) (cap n' : Nat) (l : List Nat) (w : World) (ha : IsB w a l) (ht : Tab w) (hcap : l.length ≤ cap) (hlen : cap ≤ 9223372036854775807) (hn : n' = l.length) :
    Calls Tryd.prog 22 #[.slice a n' cap] w fun e w' => ∃ a' c', e = .returned (unfV a' c' (unframe l)) ∧ New 5 w.heap.size w' a' c' (unframe l).1 ∧ Below w.heap.size w w' := by
  subst hn
  unfold unfV
  rw [unframe_mea]
  by_cases he : meaErr l 262144 4 = 0
  · have c1 := measured_ok a l.length l.length l 262144 4 w ha (Nat.le_refl _) (Nat.le_trans hcap hlen) (by omega) (by omega) rfl he
    obtain ⟨h1, h2, h3⟩ := mea_le he
    obtain ⟨k1, k2, k3⟩ : 1 ≤ (rd l 0 0).2.1 ∧ (rd l 0 0).2.1 ≤ l.length ∧ (rd l 0 0).2.1 ≤ 10 := rd_bytes (n := (rd l 0 0).1) (k := (rd l 0 0).2.1) ha.2 (Prod.ext rfl (Prod.ext rfl h3))
    obtain ⟨b, off, rfl, hrow⟩ := ha.1 (by intro e; subst e; simp at k2; omega)
    rw [if_neg (by simpa using he)]
    clear he h3
    generalize (rd l 0 0).2.1 = k at *
    generalize (rd l 0 0).1 = n at *
    have hln : ((l.drop k).take n).length = n := by simp; omega
    have hl4 : ((l.drop (k + n)).take 4).length = 4 := by simp; omega
    have hlp : (l.take (k + n)).length = k + n := by simp; omega
    have hcl := crc_lt (l.take (k + n)) (mem_take ha.2)
    have hcmp := same4 (x := (l.drop (k + n)).take 4) (mem_take (mem_drop ha.2)) hl4 hcl
    have HS : Hid (∀ d, Calls Tryd.prog 50 #[.slice (some ⟨b, off, none⟩) (k + n) (k + n)] (w.drewN d) fun e w' => e = .returned (.int .u32 ((crc (l.take (k + n)) : Nat) : Int)) ∧ w' = w.drewN d) := fun d => by
      have q := sum_any (some ⟨b, off, none⟩) (k + n) (k + n) (l.take (k + n)) (w.drewN d) ((ha.take _).below (below_drewN (Below.refl _ _) d)) (ht.below (below_drewN (Below.refl w.heap.size _) d) ht.lt) (by omega) hlp.symm
      exact q
    have HL : Hid (∀ d, Calls Tryd.prog 56 #[.slice (some ⟨b, off + (k + n), none⟩) 4 4] (w.drewN d) fun e w' => e = .returned (.int .u32 ((val ((l.drop (k + n)).take 4) : Nat) : Int)) ∧ ∃ m, w' = (w.drewN d).drewN m) := fun d =>
      laidSum_any (some ⟨b, off + (k + n), none⟩) 4 ((l.drop (k + n)).take 4) (w.drewN d) (IsB.some (((hrow.drop (k + n)).take 4).below (below_drewN (Below.refl w.heap.size _) d) hrow.1) (mem_take (mem_drop ha.2))) hl4
    have C1 : Hid (Calls Tryd.prog 55 #[.slice (some ⟨b, off, none⟩) l.length l.length, .int .i64 262144, .int .i64 4] w fun e w' => (∃ a', e = .returned (.tuple #[.slice (some a') n n, .int .i64 k, .int .i64 0]) ∧ IsB w (some a') ((l.drop k).take n)) ∧ w' = w) := c1
    have hb : ∀ d, Below w.heap.size w (w.drewN d) := fun d => below_drewN (Below.refl w.heap.size _) d
    have HD : Hid (∀ d, Below w.heap.size w (w.drewN d)) := hb
    clear hb c1
    generalize (l.drop k).take n = body at *
    generalize val ((l.drop (k + n)).take 4) = sv at *
    generalize crc (l.take (k + n)) = sc at *
    generalize (l.drop (k + n)).take 4 = tl at *
    clear hrow ha ht hlp hl4
    by_cases hq : tl = four sc
    · rw [if_neg (by simpa using hq)]
      have hcm : ((sc : Int) != (sv : Int)) = false := by simp; exact hcmp.1 hq
      have hsv : sv = sc := by have := hcmp.1 hq; omega
      clear hq hcmp
      go_enter Tryd.func22, Tryd.ntmps22
      go_wp2_with (go_at_call 55; refine C1.out.mono ?_; rintro e w' ⟨⟨a', rfl, hb⟩, hw⟩; have hw2 := hw.symm; clear hw; subst hw2; have HBD : Hid (IsB w (some a') body) := hb; clear hb)
      go_quiet (first | (go_at_call 50; exact Calls.quiet_of_same (HS.out _)) | (go_at_call 56; exact Calls.quiet_of (HL.out _)))
      go_wp2_with (go_at_call 57; refine (clone_any a' n n body _ (HBD.out.below (HD.out _)) (by omega) hln.symm).mono ?_; rintro e w2 ⟨v2, rfl, ho, hb⟩; have HO : Hid (Own 5 _ w2 v2 body) := ho; have HB : Hid (Below _ _ w2) := hb; clear ho hb)
      go_ret3
      obtain ⟨a2, c2, rfl, hn2⟩ := New.ofOwn HO.out
      exact ⟨a2, c2, rfl, hn2, (HD.out _).trans HB.out⟩
    · rw [if_pos (by simpa using hq)]
      have hcm : ((sc : Int) != (sv : Int)) = true := by simp; intro e; exact hq (hcmp.2 e)
      clear hq hcmp
      go_enter Tryd.func22, Tryd.ntmps22
      go_wp2_with (go_at_call 55; refine C1.out.mono ?_; rintro e w' ⟨⟨a', rfl, hb⟩, hw⟩; have hw2 := hw.symm; clear hw; subst hw2; have HBD : Hid (IsB w (some a') body) := hb; clear hb)
      go_quiet (first | (go_at_call 50; exact Calls.quiet_of_same (HS.out _)) | (go_at_call 56; exact Calls.quiet_of (HL.out _)))
      go_wp2
      go_ret3
      exact ⟨none, 0, rfl, New.nil _ _ _, HD.out _⟩
  · have c1 := measured_err a l.length l.length l 262144 4 w ha (Nat.le_refl _) (Nat.le_trans hcap hlen) (by omega) (by omega) rfl he
    rw [if_pos he]
    generalize meaErr l 262144 4 = f at *
    have g : ((f : Int) != 0) = true := by simp; omega
    have C1 : Hid (Calls Tryd.prog 55 #[.slice a l.length l.length, .int .i64 262144, .int .i64 4] w fun e w' => e = .returned (.tuple #[.slice none 0 0, .int .i64 0, .int .i64 f]) ∧ w' = w) := c1
    clear c1 ha he ht
    go_enter Tryd.func22, Tryd.ntmps22
    go_wp2_with (go_at_call 55; refine C1.out.mono ?_; rintro e w' ⟨rfl, hw⟩; have hw2 := hw.symm; clear hw; subst hw2)
    go_ret3
    exact ⟨none, 0, rfl, New.nil _ _ _, Below.refl _ _⟩

end Cod
end Go.Proofs.YtdbiliigbinmfaaDoor
