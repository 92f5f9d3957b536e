import Derived.Test.YtcmbogogakdeoaaDoorVr4
import Derived.Test.YtcmbogogakdeoaaDoorSam
import Derived.Deep.QuietTactic
import Derived.BigQuiet
namespace Go.Proofs.YtcmbogogakdeoaaDoor
namespace Lgr
open Go.RowKit CMath Byt Cod Lg Laws Crw
set_option linter.unusedVariables false
set_option linter.unusedSimpArgs false
set_option maxRecDepth 100000

/-- lists of bytes as they lie, whoever owns them -/
def IsD (w : World) (a : Option Addr) (rs : List (List Nat)) : Prop :=
  ∃ vs : List Sv, vs.length = rs.length ∧ IsK kB w a vs ∧ ∀ (i : Nat) v r, vs[i]? = some v → rs[i]? = some r → v.2.1 = r.length ∧ IsB w v.1 r ∧ (v.1 = none → v.2.2 = 0) ∧ r.length ≤ v.2.2 ∧ v.2.2 ≤ 9223372036854775807
theorem IsC.isD {w : World} {a : Option Addr} {rs : List (List Nat)} (h : IsC w a rs) : IsD w a rs := by
  obtain ⟨vs, h1, h2, h3⟩ := h
  exact ⟨vs, h1, h2, fun i v r hv hw => by obtain ⟨a1, a2, a3, a4, a5, _⟩ := h3 i v r hv hw; exact ⟨a1, a2, a3, a4, a5⟩⟩
theorem IsD.below {w w' : World} {a : Option Addr} {rs : List (List Nat)} (h : IsD w a rs) (hb : Below w.heap.size w w') : IsD w' a rs := by
  obtain ⟨vs, h1, h2, h3⟩ := h
  exact ⟨vs, h1, h2.below hb, fun i v r hv hw => by obtain ⟨a1, a2, a3, a4, a5⟩ := h3 i v r hv hw; exact ⟨a1, a2.below hb, a3, a4, a5⟩⟩
theorem IsD.rd {w : World} {a : Option Addr} {rs : List (List Nat)} (h : IsD w a rs) {k : Nat} (hk : k < rs.length) : ∃ b off ad c, a = some ⟨b, off, none⟩ ∧ b < w.heap.size ∧ w.cell? ⟨b, off + k, none⟩ = some (.slice ad (rs.getD k []).length c) ∧ IsB w ad (rs.getD k []) ∧ (ad = none → c = 0) ∧ (rs.getD k []).length ≤ c ∧ c ≤ 9223372036854775807 := by
  obtain ⟨vs, h1, h2, h3⟩ := h
  obtain ⟨b, off, e, hr⟩ := h2.at_ (by omega)
  have hkv : k < vs.length := by omega
  have hv : vs[k]? = some vs[k] := List.getElem?_eq_getElem hkv
  have hg : rs[k]? = some (rs.getD k []) := by simp [hk]
  obtain ⟨h4, h5, h6, h7, h8⟩ := h3 k _ _ hv hg
  have hc := hr.2 k _ hv 0 _ rfl
  refine ⟨b, off, vs[k].1, vs[k].2.2, e, hr.1, ?_, h5, h6, h7, h8⟩
  have : off + k * kB.size + 0 = off + k := by show off + k * 1 + 0 = _; omega
  rw [this, h4] at hc
  exact hc
theorem IsD.take {w : World} {a : Option Addr} {rs : List (List Nat)} (h : IsD w a rs) (k : Nat) : IsD w a (rs.take k) := by
  obtain ⟨vs, h1, h2, h3⟩ := h
  refine ⟨vs.take k, by simp [h1], fun hne => ?_, fun i v r hv hw => ?_⟩
  · obtain ⟨b, off, e, hr⟩ := h2 (by rintro rfl; simp at hne)
    refine ⟨b, off, e, hr.1, fun i e he j u hu => ?_⟩
    have hi : i < k := by have := (List.getElem?_eq_some_iff.1 he).1; simp at this; omega
    rw [List.getElem?_take_of_lt hi] at he
    exact hr.2 i e he j u hu
  · have hi : i < k := by have := (List.getElem?_eq_some_iff.1 hv).1; simp at this; omega
    rw [List.getElem?_take_of_lt hi] at hv hw
    exact h3 i v r hv hw

set_option maxHeartbeats 2000000 in
theorem sameRecords_any (a b : Option Addr) (ca cb n m : Nat) (rs : List (List Nat)) (w : World) (ha : IsD w a rs) (hb : IsD w b rs) (hn : n = rs.length) (hm : m = rs.length) (h40 : rs.length ≤ 1000000000000) :
    Calls Tryd.prog 8 #[.slice a n ca, .slice b m cb] w fun e w' => e = .returned (.bool true) ∧ ∃ k, w' = w.drewN k := by
  obtain rfl : m = n := by omega
  have HA : Hid (IsD w a rs) := ha
  have HB : Hid (IsD w b rs) := hb
  have HN : Hid (m = rs.length) := hm
  have hm40 : m ≤ 1000000000000 := by omega
  clear ha hb hn hm h40
  go_enter Tryd.func8, Tryd.ntmps8
  go_wp2
  go_loopw [5] (fun i wr => ∃ k n : Nat, k ≤ m ∧ i = .int .i64 k ∧ wr = w.drewN n) (fun i _ => m - (intOf i).toNat)
  case atStart => exact ⟨0, 0, Nat.zero_le _, rfl, rfl⟩
  case round =>
    obtain ⟨k, d, hk, rfl, rfl⟩ := hrel
    by_cases hlt : k < m
    · have hkl : k < rs.length := by rw [← HN.out]; exact hlt
      obtain ⟨b1, o1, ad1, c1, rfl, hs1, x1, hw1, _, hl1, hm1⟩ := HA.out.rd hkl
      obtain ⟨b2, o2, ad2, c2, rfl, hs2, x2, hw2, _⟩ := HB.out.rd hkl
      have q1 : (k : Int) < (m : Int) := by omega
      obtain ⟨r, hr⟩ : ∃ r, rs.getD k [] = r := ⟨_, rfl⟩
      rw [hr] at x1 x2 hw1 hw2 hl1
      have HC : Hid (∀ z, Calls Tryd.prog 12 #[.slice ad1 r.length c1, .slice ad2 r.length c2] (w.drewN (d + z)) fun e' w' => e' = .returned (.bool true) ∧ ∃ q, w' = w.drewN (d + q)) := fun z =>
        (same_any ad1 ad2 c1 c2 _ _ r _ (hw1.below (below_drewN (Below.refl _ _) _)) (hw2.below (below_drewN (Below.refl _ _) _)) (by omega) rfl rfl).mono fun e' w' h => by
          obtain ⟨h1, n, h2⟩ := h
          exact ⟨h1, z + n, by rw [h2]; simp only [World.drewN_drewN, Nat.add_assoc]⟩
      clear hw1 hw2 hkl hr hl1
      go_wp2
      go_quiet ((go_at_call 12; exact (HC.out _)))
      go_wp2
      go_roundw
      case rel => exact ⟨k + 1, _, by omega, by go_num, rfl⟩
      case measure => simp [intOf]; omega
    · go_wp2
      go_ret
      exact ⟨rfl, _, rfl⟩

end Lgr
end Go.Proofs.YtcmbogogakdeoaaDoor
