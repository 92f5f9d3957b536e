import Derived.Test.YtbloifnibgdeoaaDLos
namespace Go.Proofs.Ytbloifnibgdeoaa
namespace Dsk
open Go.RowKit Go.Shelf Go.Maps Go.Sort Byt Laws
set_option linter.unusedVariables false
set_option maxRecDepth 100000

/-- How many bytes a fall leaves of a file. -/
def leftN (len sure : Nat) (others : Int) : Nat := sure + min others.toNat (len - sure)
theorem leftN_le {len sure : Nat} (h : sure ≤ len) (o : Int) : leftN len sure o ≤ len := by unfold leftN; omega
set_option maxHeartbeats 1000000 in
theorem left_any {w : World} {b : Nat} {a : Option Addr} {c : Nat} {f : Fl} (hf : Fld 2 w b (fcell a c f)) (hn : Hb w a c f.data) (hs : f.sure ≤ f.data.length) (hb : f.data.length ≤ 2147483648) (o : Int) (ho : o ≤ 9223372036854775807) :
    Calls Try.prog 54 #[.pointer (some ⟨b, 0, none⟩), .int .i64 o] w fun e w' => e = .returned (.slice a (leftN f.data.length f.sure o) (leftN f.data.length f.sure o)) ∧ w' = w.drew := by
  have c0 := (hf.2 0 (by omega)).1
  have c1 := (hf.2 1 (by omega)).1
  simp only [fcell, if_true, Nat.one_ne_zero, if_false] at c0 c1
  have hle := hn.le
  have hmx := hn.max
  have hll := leftN_le hs o
  have HL : Hid ((f.sure : Int) + min (max o 0) ((f.data.length : Int) - (f.sure : Int)) = ((leftN f.data.length f.sure o : Nat) : Int)) := by show _ = _; unfold leftN; omega
  have hl2 := HL.out
  generalize leftN f.data.length f.sure o = E at *
  generalize f.data.length = len at *
  generalize f.sure = sure at *
  have HL2 : Hid ((sure : Int) + min (max o 0) ((len : Int) - (sure : Int)) = ((E : Nat) : Int)) := hl2
  clear hf hn hl2
  go_enter Try.func54, Try.ntmps54
  go_wp2
  go_region
  all_goals rw [HL2.out]
  all_goals go_wp2
  all_goals go_ret
  all_goals exact ⟨rfl, rfl⟩

/-- Numbers that lie in a slice. -/
def IntsAt (w : World) (a : Option Addr) (ks : List Int) : Prop := ∀ (j : Nat) (x : Int), ks[j]? = some x → ∃ b off, a = some ⟨b, off, none⟩ ∧ w.cell? ⟨b, off + j, none⟩ = some (.int .i64 x)
def amongN (ks : List Int) (i : Nat) : Int := (ks[i % ks.length]?).getD 0
set_option maxHeartbeats 1000000 in
theorem among_any {w : World} {a : Option Addr} {n c : Nat} {ks : List Int} (hk : IntsAt w a ks) (hn : n = ks.length) (hc : n ≤ c) (hc2 : c ≤ 9223372036854775807) (i : Nat) (hi : i ≤ 9223372036854775807) :
    Calls Try.prog 55 #[.slice a n c, .int .i64 i] w fun e w' => e = .returned (.int .i64 (amongN ks i)) ∧ w' = w := by
  by_cases h0 : ks.length = 0
  · have e : amongN ks i = 0 := by
      have := List.eq_nil_of_length_eq_zero h0
      subst this; rfl
    rw [e]
    have hn0 : n = 0 := by omega
    subst hn0
    clear hn hk
    go_enter Try.func55, Try.ntmps55
    go_wp2
    go_ret
    exact ⟨rfl, rfl⟩
  · have hlt : i % ks.length < ks.length := Nat.mod_lt _ (by omega)
    obtain ⟨x, hx⟩ : ∃ x, ks[i % ks.length]? = some x := ⟨_, List.getElem?_eq_getElem hlt⟩
    have e : amongN ks i = x := by unfold amongN; rw [hx]; rfl
    rw [e]
    obtain ⟨b, off, rfl, hcell⟩ := hk _ x hx
    rw [← hn] at hcell hlt h0
    have hmod : (i : Int) % (n : Int) = ((i % n : Nat) : Int) := by omega
    have hq : ((n : Int) == 0) = false := by simp; omega
    have hn0 : (n : Int) ≠ 0 := by omega
    have hmt : (i : Int).tmod (n : Int) = ((i % n : Nat) : Int) := by rw [Int.tmod_eq_emod_of_nonneg (by omega)]; exact hmod
    have hb1 : ((i % n : Nat) : Int) < (n : Int) := by omega
    have hb0 : (0 : Int) ≤ ((i % n : Nat) : Int) := by omega
    generalize i % n = r at *
    clear hk hn hx e hmod
    go_enter Try.func55, Try.ntmps55
    go_wp2
    go_ret
    exact ⟨rfl, rfl⟩
end Dsk
end Go.Proofs.Ytbloifnibgdeoaa
