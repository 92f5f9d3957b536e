import Derived.Test.YtpappjcbeibhiaaEAp
import Derived.Test.YtpappjcbeibhiaaHp2
import Derived.Deep.RegionLaw
namespace Go.Proofs.Ytpappjcbeibhiaa
namespace Ehp
open Go.RowKit Laws Irw Erw
open Hp (swp swp_length swp_perm Ord Heapy Up Dn fore fore1 goes_drew goes_drewN above_any below_drewN)
set_option linter.unusedVariables false
set_option maxRecDepth 100000
set_option linter.unusedSimpArgs false

theorem rowOf {s : Nat} {T : Nat → Nat} {w : World} {gl n c : Nat} {l : List En} (h : OwnE s T w (.slice (some ⟨gl, 0, none⟩) n c) l) (h0 : 0 < l.length) : ERow w gl 0 l := by
  obtain ⟨b, off, e, hr⟩ := h.isE.1.at_ h0
  simp only [Option.some.injEq, Addr.mk.injEq] at e
  obtain ⟨rfl, rfl, _⟩ := e
  exact hr
theorem at0 {w : World} {b : Nat} {l : List En} (h : ERow w b 0 l) {i : Nat} (hi : i < l.length) : w.cell? ⟨b, i * 4, none⟩ = some (.string (l.getD i ez).1) ∧ w.cell? ⟨b, i * 4 + 1, none⟩ = some (.int .u64 (l.getD i ez).2.1) ∧ w.cell? ⟨b, i * 4 + 2, none⟩ = some (.bool (l.getD i ez).2.2.1) ∧ w.cell? ⟨b, i * 4 + 3, none⟩ = some (.string (l.getD i ez).2.2.2) := by
  have := h.2 i (l.getD i ez) (by simp [hi])
  simpa using this

theorem own_drewE {s : Nat} {T : Nat → Nat} {w : World} {v : Value} {l : List En} (h : OwnE s T w v l) : OwnE s T w.drew v l := h
theorem goes4 {s : Nat} {T : Nat → Nat} {w : World} {g i : Nat} {e : En} (h : T g = s) : Goes (· = s) T w T ((((w.setCell ⟨g, i * 4, none⟩ (.string e.1)).setCell ⟨g, i * 4 + 1, none⟩ (.int .u64 e.2.1)).setCell ⟨g, i * 4 + 2, none⟩ (.bool e.2.2.1)).setCell ⟨g, i * 4 + 3, none⟩ (.string e.2.2.2)) :=
  (((Goes.setCell (t := (· = s)) (T := T) (p := g) h).trans (Goes.setCell (t := (· = s)) (T := T) (p := g) h)).trans (Goes.setCell (t := (· = s)) (T := T) (p := g) h)).trans (Goes.setCell (t := (· = s)) (T := T) (p := g) h)
set_option maxHeartbeats 4000000 in
theorem swapE_any (s : Nat) (T : Nat → Nat) (w : World) (g n c : Nat) (l : List En) (i j : Nat) (h : OwnE s T w (.slice (some ⟨g, 0, none⟩) n c) l) (hi : i < l.length) (hj : j < l.length) (hij : i ≠ j) (hl : l.length ≤ 1000000000000) :
    Calls Try.prog 27 #[.slice (some ⟨g, 0, none⟩) n c, .int .i64 (i : Int), .int .i64 (j : Int)] w fun e w' => e = .returned (.tuple #[]) ∧ OwnE s T w' (.slice (some ⟨g, 0, none⟩) n c) (swp ez l i j) ∧ Goes (· = s) T w T w' := by
  have hr := rowOf h (by omega)
  obtain ⟨i0, i1, i2, i3⟩ := at0 hr hi
  obtain ⟨j0, j1, j2, j3⟩ := at0 hr hj
  have hfz := fun q => h.frozen q
  have hn := h.isE.2.1
  have qi : (i : Int) < (n : Int) := by omega
  have qj : (j : Int) < (n : Int) := by omega
  have HO : Hid (OwnE s T w (.slice (some ⟨g, 0, none⟩) n c) l) := h
  have HT : Hid (T g = s) := h.2 g rfl
  have HS : Hid ((l.set i (l.getD j ez)).set j (l.getD i ez) = swp ez l i j) := rfl
  have HI : Hid (i < l.length ∧ j < l.length) := ⟨hi, hj⟩
  have n0 : ¬ j * 4 = i * 4 := by omega
  have n1 : ¬ j * 4 = i * 4 + 1 := by omega
  have n2 : ¬ j * 4 = i * 4 + 2 := by omega
  have n3 : ¬ j * 4 = i * 4 + 3 := by omega
  clear h hr hn hij
  generalize l.getD i ez = x at *
  generalize l.getD j ez = y at *
  obtain ⟨xk, xs, xd, xv⟩ := x
  obtain ⟨yk, ys, yd, yv⟩ := y
  dsimp only at i0 i1 i2 i3 j0 j1 j2 j3
  go_enter Try.func27, Try.ntmps27
  go_wp2
  go_region
  all_goals (try go_wp2)
  go_end0
  have k1 := (HO.out.set i (yk, ys, yd, yv) HI.out.1).set j (xk, xs, xd, xv) (by rw [List.length_set]; exact HI.out.2)
  rw [HS.out] at k1
  have k2 : Goes (· = s) T w T _ := (goes4 (w := w) (i := i) (e := (yk, ys, yd, yv)) HT.out).trans (goes4 (i := j) (e := (xk, xs, xd, xv)) HT.out)
  dsimp only at k1 k2
  clear i0 i1 i2 i3 j0 j1 j2 j3 hfz
  exact ⟨rfl, own_drewE k1, goes_drew k2⟩

/-- The less of PileSorts: by the length of the key, or by the number. -/
def lessE (o : Bool) (a b : En) : Bool := if o = true then decide (a.1.size < b.1.size) else decide (b.2.1 < a.2.1)
theorem ord_lessE (o : Bool) : Ord (lessE o) := by
  unfold lessE
  cases o with
  | true => simp only [if_true]; exact ⟨fun a b h => by simp at *; omega, fun a b c h k => by simp at *; omega⟩
  | false => simp only [Bool.false_eq_true, if_false]; exact ⟨fun a b h => by simp at *; omega, fun a b c h k => by simp at *; omega⟩
set_option maxHeartbeats 1000000 in
theorem clo_any (o : Bool) (a b : En) (B : Nat) (w : World) (hB : B < w.heap.size) (hc : w.cell? ⟨B, 0, none⟩ = some (.bool o)) :
    Calls Try.prog 6 #[entV a, entV b, .pointer (some ⟨B, 0, none⟩)] w fun e w' => e = .returned (.bool (lessE o a b)) ∧ Below w.heap.size w w' := by
  obtain ⟨ak, as_, ad, av⟩ := a
  obtain ⟨bk, bs, bd, bv⟩ := b
  have hc2 : ((w.alloc (.cells #[.string ak, .int .u64 as_, .bool ad, .string av] 28)).alloc (.cells #[.string bk, .int .u64 bs, .bool bd, .string bv] 28)).cell? ⟨B, 0, none⟩ = some (.bool o) := by
    rw [World.cell?_alloc_past _ _ _ (by simp; omega), World.cell?_alloc_past _ _ _ hB]; exact hc
  have HBW : Hid (Below w.heap.size w ((w.alloc (.cells #[.string ak, .int .u64 as_, .bool ad, .string av] 28)).alloc (.cells #[.string bk, .int .u64 bs, .bool bd, .string bv] 28))) := ((Below.refl _ _).alloc (Nat.le_refl _) _).alloc (by simp) _
  unfold entV
  cases o with
  | true =>
    go_enter Try.func6, Try.ntmps6
    go_wp2
    go_ret
    exact ⟨by simp [lessE], HBW.out⟩
  | false =>
    go_enter Try.func6, Try.ntmps6
    go_wp2
    go_ret
    exact ⟨by simp [lessE], HBW.out⟩

end Ehp
end Go.Proofs.Ytpappjcbeibhiaa
