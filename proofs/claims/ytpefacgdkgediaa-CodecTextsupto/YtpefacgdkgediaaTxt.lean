import Derived.Test.YtpefacgdkgediaaProg
import Derived.Test.YtpefacgdkgediaaTxr
import Derived.WalkKit
import Derived.WalkSpells
import Derived.WalkLawsBesides
namespace Go.Proofs.Ytpefacgdkgediaa
namespace Cod
open Go.RowKit CMath Byt
set_option linter.unusedVariables false
set_option maxRecDepth 20000

theorem refText_any (a : Option Addr) (cap n' : Nat) (l : List Nat) (most : Int) (w : World) (ha : IsB w a l) (hcap : l.length ≤ cap) (hlen : cap ≤ 9223372036854775807) (hm : -9223372036854775808 ≤ most ∧ most ≤ 9223372036854775807) (hn : n' = l.length) :
    Calls Try.prog 35 #[.slice a n' cap, .int .i64 most] w fun e w' => e = .returned (txt l most) ∧ w' = w := by
  subst hn
  have c1 := refUint_any a cap l.length l w ha (Nat.le_trans hcap hlen) rfl
  have hby := ha.2
  obtain ⟨n, k, f, hr⟩ : ∃ n k f, rd l 0 0 = (n, k, f) := ⟨_, _, _, rfl⟩
  unfold txt
  have ht : text l most = text l most := rfl
  conv at ht => rhs; unfold text
  rw [hr] at c1 ht
  simp only [] at c1 ht
  have hL : l.length ≤ 9223372036854775807 := Nat.le_trans hcap hlen
  by_cases hf : f = 0
  · subst hf
    obtain ⟨h1, h2, h3⟩ := rd_bytes hby hr
    have h4 := (rd_ok0 hby hr).1
    rw [if_neg (by simp)] at ht
    by_cases hmo : most < (n : Int)
    · rw [if_pos hmo] at ht
      rw [ht]
      by_cases hm0 : most < 0
      · exact refText_neg a cap l.length n k most w c1 hL h1 h2 h3 h4 hm hm0
      · exact refText_long a cap l.length n k most w c1 hL h1 h2 h3 h4 hm (by omega) hmo
    · rw [if_neg hmo] at ht
      by_cases hsh : l.length < k + n
      · rw [if_pos hsh] at ht
        rw [ht]
        exact refText_short a cap l.length n k most w c1 hL h1 h2 h3 h4 hm (by omega) hsh
      · rw [if_neg hsh] at ht
        rw [ht]
        obtain ⟨b, off, rfl, hrow⟩ := ha.1 (by intro e; subst e; simp at h2; omega)
        have hlt : ((l.drop k).take n).length = n := by simp; omega
        by_cases hck : cap = k
        · refine refText_end _ cap l.length n k most w c1 hL h1 h2 h3 h4 hm (by omega) (by omega) hcap hlen hck _ b off rfl (fun c => ?_)
          have hn0 : n = 0 := by omega
          subst hn0
          rw [List.take_zero]
          exact conv_back w _ c 0 [] (IsB.nil _ _) rfl
        · exact refText_ok _ cap l.length n k most w c1 hL h1 h2 h3 h4 hm (by omega) (by omega) hcap hlen (by omega) _ b off rfl (fun c => conv_back w _ c n _ (IsB.some ((hrow.drop k).take n) (mem_take (mem_drop hby))) hlt.symm)
  · obtain ⟨rfl, rfl, hf2⟩ := rd_err0 l hr hf
    rw [if_pos (by simpa using hf)] at ht
    rw [ht]
    exact refText_err a cap l.length 0 0 most w f c1 (by simp; omega)

set_option maxHeartbeats 1000000 in
theorem textOf_any (a b : Option Addr) (ca cb n m : Nat) (l : List Nat) (most : Int) (w : World) (ha : IsB w a l) (hb : IsB w b l) (hca : l.length ≤ ca) (hca2 : ca ≤ 9223372036854775807) (hcb : l.length ≤ cb) (hcb2 : cb ≤ 9223372036854775807) (hm : -9223372036854775808 ≤ most ∧ most ≤ 9223372036854775807) (hn : n = l.length) (hm' : m = l.length) :
    Calls Try.prog 14 #[.slice a n ca, .slice b m cb, .int .i64 most] w fun e w' => e = .returned (.bool true) ∧ w' = w := by
  have c1 := text_any a ca n l most w ha hca hca2 hm hn
  have c2 := refText_any b cb m l most w hb hcb hcb2 hm hm'
  unfold txt at c1 c2
  obtain ⟨s, k, f, hr⟩ : ∃ s k f, text l most = (s, k, f) := ⟨_, _, _, rfl⟩
  rw [hr] at c1 c2
  simp only [] at c1 c2
  generalize ofB s = t at *
  clear hr ha hb
  have C1 : Hid (Calls Try.prog 34 #[.slice a n ca, .int .i64 most] w fun e w' => e = .returned (.tuple #[.string t, .int .i64 k, .int .i64 f]) ∧ w' = w) := c1
  have C2 : Hid (Calls Try.prog 35 #[.slice b m cb, .int .i64 most] w fun e w' => e = .returned (.tuple #[.string t, .int .i64 k, .int .i64 f]) ∧ w' = w) := c2
  clear c1 c2 hca hca2 hn hm hm' hcb hcb2
  go_enter Try.func14, Try.ntmps14
  go_wp2_with (first | (go_at_call 34; refine C1.out.mono ?_; rintro e w' ⟨rfl, hw⟩; have hw2 := hw.symm; clear hw; subst hw2) | (go_at_call 35; refine C2.out.mono ?_; rintro e w' ⟨rfl, hw⟩; have hw2 := hw.symm; clear hw; subst hw2))
  go_ret
  exact ⟨by simp, rfl⟩

set_option maxHeartbeats 1000000 in
theorem putText_any (a : Option Addr) (cap m : Nat) (l : List Nat) (s : ByteArray) (w : World) (h : IsB w a l) (hc : a = none → cap = 0) (hk : l.length + 10 + s.size ≤ 140737488355328) (hm : m = l.length) :
    Calls Try.prog 12 #[.slice a m cap, .string s] w fun e w' => ∃ v, e = .returned v ∧ Own 5 w.heap.size w' v (l ++ words (strB s)) ∧ Below w.heap.size w w' := by
  subst hm
  obtain ⟨i8, hi, hz0, hz1, hz2⟩ := info_parts info8
  have HI : Hid (IsB w a l) := h
  have HN : Hid (a = none → cap = 0) := hc
  have hs18 : s.size < 18446744073709551616 := by omega
  have h10 := num_le10 hs18
  clear h hc
  go_enter Try.func12, Try.ntmps12
  go_wp2_with (first | (go_at_call 17; refine (grown_int a cap (10 + s.size) _ l w (by omega) HI.out HN.out (by omega)).mono ?_; rintro e w1 ⟨v1, rfl, ho1, hb1⟩; have HO1 : Hid (Own 5 w.heap.size w1 v1 l) := ho1; have HB1 : Hid (Below w.heap.size w w1) := hb1; clear ho1 hb1) | (go_at_call 16; refine (appendUint_any w.heap.size v1 l s.size w1 HO1.out.row HO1.out.byte hs18 HB1.out.size (by omega)).mono ?_; rintro e w2 ⟨v2, rfl, ho2, hb2⟩; have HO2 : Hid (Own 5 w.heap.size w2 v2 (l ++ num s.size)) := ho2; have HB2 : Hid (Below w.heap.size w1 w2) := hb2; clear ho2 hb2) | (at_builtin; refine Lib.wpList_append_own_string _ (by rfl) (.tmp 15) (.tmp 16) 22 9 (by rfl) w.heap.size 5 i8 Try.underlying22 Try.underlying9 hi hz0 hz1 hz2 _ (l ++ num s.size).length (cellsB (l ++ num s.size)) (by rfl) HO2.out.row s (by rfl) (by unfold maxLen; simp; omega) (by simp; omega) (by have := HB1.out.size; have := HB2.out.size; omega) ?_; intro v3 w3 hown3 hgr3 hnn3; have HG3 : Hid (w2.grownBy w3 _) := hgr3; have HO3 : Hid (w3.ownsRow w.heap.size 5 1 v3 ((l ++ num s.size).length + s.size) (cellsB (l ++ num s.size) ++ Lib.strCells s)) := hown3; clear hgr3 hown3 hnn3))
  go_ret
  have e1 : l ++ words (strB s) = (l ++ num s.size) ++ strB s := by unfold words; rw [strB_length, List.append_assoc]
  have h3 := HO3.out
  rw [strCells_eq, ← cellsB_append] at h3
  refine ⟨v3, rfl, ?_, (HB1.out.trans HB2.out).trans (below_of (Below.refl _ _) HG3.out (Nat.le_trans HB1.out.size HB2.out.size) (fun j hj => (HO2.out.row.lt j hj).1))⟩
  rw [e1]
  refine Own.pos h3 ?_ (by have := num_pos s.size; simp; omega)
  intro x hx
  rcases List.mem_append.1 hx with hx | hx
  · exact HO2.out.byte x hx
  · exact strB_byte s x hx

end Cod
end Go.Proofs.Ytpefacgdkgediaa
