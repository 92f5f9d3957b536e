import Derived.Test.YtbloifnibgdeoaaRRst
import Derived.Test.YtbloifnibgdeoaaDSml
import Derived.Test.YtbloifnibgdeoaaDRch
import Derived.BigQuiet
import Derived.Test.YtbloifnibgdeoaaRWit
import Derived.Test.YtbloifnibgdeoaaDRoo
import Derived.Test.YtbloifnibgdeoaaRNw
import Derived.Deep.CutBlock
import Derived.Deep.DeepCutAuto
import Derived.Test.YtbloifnibgdeoaaDApp
namespace Go.Proofs.Ytbloifnibgdeoaa
namespace Dsk
open Go.RowKit Go.Shelf Go.Maps Go.Sort Byt Laws
set_option linter.unusedVariables false
set_option maxRecDepth 100000
set_option linter.unusedSimpArgs false

theorem ten {P : Nat → Prop} (h0 : P 0) (h1 : P 1) (h2 : P 2) (h3 : P 3) (h4 : P 4) (h5 : P 5) (h6 : P 6) (h7 : P 7) (h8 : P 8) (h9 : P 9) : ∀ j, j < 10 → P j
  | 0, _ => h0 | 1, _ => h1 | 2, _ => h2 | 3, _ => h3 | 4, _ => h4 | 5, _ => h5 | 6, _ => h6 | 7, _ => h7 | 8, _ => h8 | 9, _ => h9
  | n + 10, h => by omega
/-- What is rigged, and whether it is down, turns; nothing else. -/
theorem Rd.turn {T : Nat → Nat} {w w' : World} {d : Nat} {fb : Nat → Nat} {m : Rm} {vf vn vs vc : Value} (h : Rd T w d fb m vf vn vs vc) (hk : Keep [d] w w') {r : Rig} {dn : Bool} (ht : Fld 10 w' d (rcell { m with rig := r, down := dn } vf vn vs vc)) (hr : r.ok) :
    Rd T w' d fb { m with rig := r, down := dn } vf vn vs vc := by
  have hx : ∀ {v : Value} {t : Nat}, 1 < t → (∀ b, v.ownBlock = some b → T b = t) → ∀ g, v.ownBlock = some g → g ∉ [d] := fun ht hv g hg hm => by
    have h1 := hv g hg
    simp at hm
    have h2 := h.td
    rw [hm] at h1
    omega
  refine { h with top := ht, rok := hr, fresh := fun b hb' => h.fresh b (Nat.le_trans hk.size hb'), fls := hk.own h.fls (hx (by omega) h.tf), dir := hk.own h.dir (hx (by omega) h.tn), sur := hk.own h.sur (hx (by omega) h.ts), chg := hk.own h.chg (hx (by omega) h.tc), file := fun i f hf => ?_ }
  have h2 := h.td
  obtain ⟨a, c, hf⟩ := h.file i f hf
  exact ⟨a, c, hf.keep hk (fun x hx => by simp at hx; subst hx; omega) (fun x hx => by simp at hx; subst hx; omega)⟩
theorem Rd.goesD {T : Nat → Nat} {w w' : World} {d : Nat} {fb : Nat → Nat} {m : Rm} {vf vn vs vc : Value} (h : Rd T w d fb m vf vn vs vc) (hk : Keep [d] w w') : Goes T T w w' :=
  Goes.keep hk (by intro b hb _; simp at hb; subst hb; rw [h.td]; omega)

def Rm.enter (m : Rm) (ok : Bool) : Int × Rm := ((enterR m.down m.rig ok).1, { m with rig := (enterR m.down m.rig ok).2 })
def Rm.spend (m : Rm) (n : Nat) : Nat × Rm := ((spendR m.rig m.down n).1, { m with rig := (spendR m.rig m.down n).2.1, down := (spendR m.rig m.down n).2.2 })
def Rm.fails (m : Rm) : Rm := { m with rig := m.rig.fails.2 }

set_option maxHeartbeats 1000000 in
theorem rrigged_any {T : Nat → Nat} {w : World} {d : Nat} {fb : Nat → Nat} {m : Rm} {vf vn vs vc : Value} (h : Rd T w d fb m vf vn vs vc) :
    Calls Try.prog 63 #[.pointer (some ⟨d, 0, none⟩)] w fun e w' => e = .returned (.bool m.rig.fails.1) ∧ Rd T w' d fb m.fails vf vn vs vc ∧ Goes T T w w' := by
  have c6 := (h.top.2 6 (by omega)).1
  have c7 := (h.top.2 7 (by omega)).1
  have f6 := (h.top.2 6 (by omega)).2
  have f7 := (h.top.2 7 (by omega)).2
  have HH : Hid (Rd T w d fb m vf vn vs vc) := h
  obtain ⟨r1, r2, r3, r4⟩ := h.rok
  obtain ⟨⟨u, a, c, p⟩, room, fl, now, su, ch, down⟩ := m
  simp only [rcell] at c6 c7 r1 r2 r3 r4
  clear h
  by_cases h1 : 0 < a
  · have h1' : (0 : Int) < (a : Int) := by omega
    go_enter Try.func63, Try.ntmps63
    go_wp2
    go_ret
    have e : Rig.fails ⟨u, a, c, p⟩ = (false, ⟨u, a - 1, c, p⟩) := by simp [Rig.fails, h1]
    simp only [Rm.fails, e]
    refine ⟨rfl, HH.out.turn (Keep.set _ _ _ _) ((HH.out.top.set 6 (by omega) _).eq (ten rfl rfl rfl rfl rfl rfl ?_ rfl rfl rfl)) ⟨r1, by simp only; omega, r3, r4⟩, HH.out.goesD (Keep.set _ _ _ _)⟩
    rw [upd_same]
    show _ = Value.int .i64 ((a - 1 : Nat) : Int)
    go_num
  · have h1' : ¬ (0 : Int) < (a : Int) := by omega
    by_cases h2 : 0 < c
    · have h2' : (0 : Int) < (c : Int) := by omega
      go_enter Try.func63, Try.ntmps63
      go_wp2
      go_ret
      have e : Rig.fails ⟨u, a, c, p⟩ = (true, ⟨u, a, c - 1, p⟩) := by simp [Rig.fails, h1, h2]
      simp only [Rm.fails, e]
      refine ⟨rfl, HH.out.turn (Keep.set _ _ _ _) ((HH.out.top.set 7 (by omega) _).eq (ten rfl rfl rfl rfl rfl rfl rfl ?_ rfl rfl)) ⟨r1, r2, by simp only; omega, r4⟩, HH.out.goesD (Keep.set _ _ _ _)⟩
      rw [upd_same]
      show _ = Value.int .i64 ((c - 1 : Nat) : Int)
      go_num
    · have h2' : ¬ (0 : Int) < (c : Int) := by omega
      go_enter Try.func63, Try.ntmps63
      go_wp2
      go_ret
      have e : Rig.fails ⟨u, a, c, p⟩ = (false, ⟨u, a, c, p⟩) := by simp [Rig.fails, h1, h2]
      simp only [Rm.fails, e]
      exact ⟨rfl, HH.out, Goes.refl _ _⟩

set_option maxHeartbeats 1000000 in
theorem rfalls_any {T : Nat → Nat} {w : World} {d : Nat} {fb : Nat → Nat} {m : Rm} {vf vn vs vc : Value} (h : Rd T w d fb m vf vn vs vc) (n : Nat) (hn : n ≤ 9223372036854775807) :
    Calls Try.prog 65 #[.pointer (some ⟨d, 0, none⟩), .int .i64 (n : Int)] w fun e w' => e = .returned (.tuple #[.int .i64 (((m.spend n).1 - 1 : Nat) : Int), .bool (decide (0 < (m.spend n).1))]) ∧ Rd T w' d fb (m.spend n).2 vf vn vs vc ∧ Goes T T w w' := by
  have c5 := (h.top.2 5 (by omega)).1
  have f5 := (h.top.2 5 (by omega)).2
  have f6 := (h.top.2 6 (by omega)).2
  have f7 := (h.top.2 7 (by omega)).2
  have f8 := (h.top.2 8 (by omega)).2
  have f9 := (h.top.2 9 (by omega)).2
  have d6 := (h.top.2 6 (by omega)).1
  have d7 := (h.top.2 7 (by omega)).1
  have d8 := (h.top.2 8 (by omega)).1
  have d9 := (h.top.2 9 (by omega)).1
  have HH : Hid (Rd T w d fb m vf vn vs vc) := h
  obtain ⟨r1, r2, r3, r4⟩ := h.rok
  obtain ⟨⟨u, a, c, p⟩, room, fl, now, su, ch, down⟩ := m
  simp only [rcell] at c5 d6 d7 d8 d9 r1 r2 r3 r4
  clear h
  by_cases h0 : u = 0
  · subst h0
    go_enter Try.func65, Try.ntmps65
    go_wp2
    go_ret2
    have e : spendR ⟨0, a, c, p⟩ down n = (0, ⟨0, a, c, p⟩, down) := by simp [spendR, Rig.charge]
    simp only [Rm.spend, e]
    exact ⟨rfl, HH.out, Goes.refl _ _⟩
  · have h0' : ¬ (u : Int) = 0 := by omega
    by_cases h1 : n < u
    · have h1' : (n : Int) < (u : Int) := by omega
      go_enter Try.func65, Try.ntmps65
      go_wp2
      go_ret2
      have e : spendR ⟨u, a, c, p⟩ down n = (0, ⟨u - n, a, c, p⟩, down) := by simp [spendR, Rig.charge, h1]
      simp only [Rm.spend, e]
      refine ⟨rfl, HH.out.turn (Keep.set _ _ _ _) ((HH.out.top.set 5 (by omega) _).eq (ten rfl rfl rfl rfl rfl ?_ rfl rfl rfl rfl)) ⟨by simp only; omega, r2, r3, r4⟩, HH.out.goesD (Keep.set _ _ _ _)⟩
      rw [upd_same]
      show _ = Value.int .i64 ((u - n : Nat) : Int)
      go_num
    · have h1' : ¬ (n : Int) < (u : Int) := by omega
      go_enter Try.func65, Try.ntmps65
      go_wp2
      go_ret2
      have e : spendR ⟨u, a, c, p⟩ down n = (u, Rig.zero, true) := by
        have : 0 < u := by omega
        simp [spendR, Rig.charge, h1, this]
      simp only [Rm.spend, e]
      have hp : decide (0 < u) = true := by simp; omega
      rw [hp]
      refine ⟨?_, HH.out.turn ((((Keep.set _ _ _ _).trans (Keep.set _ _ _ _)).trans (Keep.set _ _ _ _)).trans (Keep.set _ _ _ _) |>.trans (Keep.set _ _ _ _)) (((((HH.out.top.set 5 (by omega) _).set 6 (by omega) _).set 7 (by omega) _).set 8 (by omega) _).set 9 (by omega) _ |>.eq (ten rfl rfl rfl rfl rfl rfl rfl rfl rfl rfl)) ⟨Nat.zero_le _, Nat.zero_le _, Nat.zero_le _, Nat.zero_le _⟩, HH.out.goesD ((((Keep.set _ _ _ _).trans (Keep.set _ _ _ _)).trans (Keep.set _ _ _ _)).trans (Keep.set _ _ _ _) |>.trans (Keep.set _ _ _ _))⟩
      go_num

theorem rfell_any {T : Nat → Nat} {w : World} {d : Nat} {fb : Nat → Nat} {m : Rm} {vf vn vs vc : Value} (h : Rd T w d fb m vf vn vs vc) :
    Calls Try.prog 16 #[.pointer (some ⟨d, 0, none⟩)] w fun e w' => e = .returned (.bool m.down) ∧ w' = w := by
  have c9 := (h.top.2 9 (by omega)).1
  simp only [rcell] at c9
  clear h
  go_enter Try.func16, Try.ntmps16
  go_wp2
  go_ret
  exact ⟨rfl, rfl⟩

def Rm.arm (m : Rm) (n : Int) : Rm := if m.down then m else { m with rig := { m.rig with units := n.toNat } }
def Rm.fail (m : Rm) (a c p : Int) : Rm := if m.down then m else { m with rig := { m.rig with after := a.toNat, calls := c.toNat, part := p.toNat } }
set_option maxHeartbeats 1000000 in
theorem rarm_any {T : Nat → Nat} {w : World} {d : Nat} {fb : Nat → Nat} {m : Rm} {vf vn vs vc : Value} (h : Rd T w d fb m vf vn vs vc) (n : Int) (hn : n ≤ 9223372036854775807) :
    Calls Try.prog 20 #[.pointer (some ⟨d, 0, none⟩), .int .i64 n] w fun e w' => e = .returned (.tuple #[]) ∧ Rd T w' d fb (m.arm n) vf vn vs vc ∧ Goes T T w w' := by
  have c5 := (h.top.2 5 (by omega)).1
  have f5 := (h.top.2 5 (by omega)).2
  have c9 := (h.top.2 9 (by omega)).1
  have HH : Hid (Rd T w d fb m vf vn vs vc) := h
  obtain ⟨r1, r2, r3, r4⟩ := h.rok
  simp only [rcell] at c5 c9
  clear h
  cases hd : m.down with
  | true =>
    rw [hd] at c9
    have e : m.arm n = m := by simp [Rm.arm, hd]
    rw [e]
    go_enter Try.func20, Try.ntmps20
    go_wp2
    go_end0
    exact ⟨rfl, HH.out, Goes.refl _ _⟩
  | false =>
    rw [hd] at c9
    have e : m.arm n = { m with rig := { m.rig with units := n.toNat }, down := false } := by cases m; simp only at hd; subst hd; rfl
    rw [e]
    have fin : ∀ v : Int, v = (n.toNat : Int) → Rd T (w.setCell ⟨d, 5, none⟩ (.int .i64 v)) d fb { m with rig := { m.rig with units := n.toNat }, down := false } vf vn vs vc ∧ Goes T T w (w.setCell ⟨d, 5, none⟩ (.int .i64 v)) := by
      rintro v rfl
      have hk := Keep.set w d 5 (.int .i64 (n.toNat : Int))
      exact ⟨HH.out.turn hk ((HH.out.top.set 5 (by omega) _).eq (ten rfl rfl rfl rfl rfl rfl rfl rfl rfl (congrArg Value.bool hd))) ⟨by simp only; omega, r2, r3, r4⟩, HH.out.goesD hk⟩
    have FIN : Hid (∀ v : Int, v = (n.toNat : Int) → Rd T (w.setCell ⟨d, 5, none⟩ (.int .i64 v)) d fb { m with rig := { m.rig with units := n.toNat }, down := false } vf vn vs vc ∧ Goes T T w (w.setCell ⟨d, 5, none⟩ (.int .i64 v))) := fin
    clear fin
    go_enter Try.func20, Try.ntmps20
    go_wp2
    all_goals
      go_end0
      exact ⟨rfl, FIN.out _ (by omega)⟩
set_option maxHeartbeats 1000000 in
theorem rfail_any {T : Nat → Nat} {w : World} {d : Nat} {fb : Nat → Nat} {m : Rm} {vf vn vs vc : Value} (h : Rd T w d fb m vf vn vs vc) (x y z : Int) (hx : x ≤ 9223372036854775807) (hy : y ≤ 9223372036854775807) (hz : z ≤ 9223372036854775807) :
    Calls Try.prog 47 #[.pointer (some ⟨d, 0, none⟩), .int .i64 x, .int .i64 y, .int .i64 z] w fun e w' => e = .returned (.tuple #[]) ∧ Rd T w' d fb (m.fail x y z) vf vn vs vc ∧ Goes T T w w' := by
  have c6 := (h.top.2 6 (by omega)).1
  have f6 := (h.top.2 6 (by omega)).2
  have c7 := (h.top.2 7 (by omega)).1
  have f7 := (h.top.2 7 (by omega)).2
  have c8 := (h.top.2 8 (by omega)).1
  have f8 := (h.top.2 8 (by omega)).2
  have c9 := (h.top.2 9 (by omega)).1
  have HH : Hid (Rd T w d fb m vf vn vs vc) := h
  obtain ⟨r1, r2, r3, r4⟩ := h.rok
  simp only [rcell] at c6 c7 c8 c9
  clear h
  cases hd : m.down with
  | true =>
    rw [hd] at c9
    have e : m.fail x y z = m := by simp [Rm.fail, hd]
    rw [e]
    go_enter Try.func47, Try.ntmps47
    go_wp2
    go_end0
    exact ⟨rfl, HH.out, Goes.refl _ _⟩
  | false =>
    rw [hd] at c9
    have e : m.fail x y z = { m with rig := { m.rig with after := x.toNat, calls := y.toNat, part := z.toNat }, down := false } := by cases m; simp only at hd; subst hd; rfl
    rw [e]
    have FIN : Hid (∀ u v t : Int, u = (x.toNat : Int) → v = (y.toNat : Int) → t = (z.toNat : Int) → Rd T (((w.setCell ⟨d, 6, none⟩ (.int .i64 u)).setCell ⟨d, 7, none⟩ (.int .i64 v)).setCell ⟨d, 8, none⟩ (.int .i64 t)) d fb { m with rig := { m.rig with after := x.toNat, calls := y.toNat, part := z.toNat }, down := false } vf vn vs vc ∧ Goes T T w (((w.setCell ⟨d, 6, none⟩ (.int .i64 u)).setCell ⟨d, 7, none⟩ (.int .i64 v)).setCell ⟨d, 8, none⟩ (.int .i64 t))) := by
      rintro u v t rfl rfl rfl
      have hk := ((Keep.set w d 6 (.int .i64 (x.toNat : Int))).trans (Keep.set _ d 7 (.int .i64 (y.toNat : Int)))).trans (Keep.set _ d 8 (.int .i64 (z.toNat : Int)))
      exact ⟨HH.out.turn hk ((((HH.out.top.set 6 (by omega) _).set 7 (by omega) _).set 8 (by omega) _).eq (ten rfl rfl rfl rfl rfl rfl rfl rfl rfl (congrArg Value.bool hd))) ⟨r1, by show x.toNat ≤ _; omega, by show y.toNat ≤ _; omega, by show z.toNat ≤ _; omega⟩, HH.out.goesD hk⟩
    go_enter Try.func47, Try.ntmps47
    go_wp2
    all_goals
      go_end0
      exact ⟨rfl, FIN.out _ _ _ (by omega) (by omega) (by omega)⟩
end Dsk
end Go.Proofs.Ytbloifnibgdeoaa
namespace Go.Proofs.Ytbloifnibgdeoaa
namespace Dsk
open Go.RowKit Go.Shelf Go.Maps Go.Sort Byt Laws
set_option linter.unusedVariables false
set_option maxRecDepth 100000
set_option linter.unusedSimpArgs false

theorem ptr_at {t : TypeId} {w : World} {base : Nat} {fb : Nat → Nat} {F c : Nat} {af : Option Addr} (h : w.ownsRow base t 1 (.slice af F c) F (ptrRow fb F)) {i : Nat} (hi : i < F) :
    ∃ g, af = some ⟨g, 0, none⟩ ∧ F ≤ c ∧ c ≤ 9223372036854775807 ∧ w.cell? ⟨g, i, none⟩ = some (.pointer (some ⟨fb i, 0, none⟩)) := by
  rcases h.2 with ⟨e, e0⟩ | ⟨g, cap, cur, e, h1, h2, h3, h4, h5, h6⟩
  · omega
  · cases e
    refine ⟨g, rfl, h3, h4, ?_⟩
    have q := ptrRow_get (fb := fb) hi
    rw [Go.Joins.cell_of_block h2]
    rw [← h6, List.getElem?_take, if_pos (by omega)] at q
    simpa using q
theorem en_at {w : World} {base n c : Nat} {a : Option Addr} {l : List (Key × Nat)} (h : w.ownsRow base 98 2 (.slice a n c) n (enRow l)) {i : Nat} {p : Key × Nat} (hp : l[i]? = some p) :
    ∃ g, a = some ⟨g, 0, none⟩ ∧ i < n ∧ n ≤ c ∧ c ≤ 9223372036854775807 ∧ w.cell? ⟨g, i * 2, none⟩ = some (.string (ofK p.1)) ∧ w.cell? ⟨g, i * 2 + 1, none⟩ = some (.int .i64 p.2) := by
  obtain ⟨h1, h2, h3⟩ := enR_own h
  have hi := (List.getElem?_eq_some_iff.1 hp).1
  obtain ⟨g, rfl, hc⟩ := h3 (by intro e; rw [e] at hi; simp at hi)
  have hcm : c ≤ 9223372036854775807 := by
    rcases h.2 with ⟨e, e0⟩ | ⟨g, cap, cur, e, h1, h2, h3, h4, h5, h6⟩
    · cases e
    · cases e; exact h4
  exact ⟨g, rfl, by omega, h2, hcm, (hc i p hp).1, (hc i p hp).2⟩

set_option maxHeartbeats 1000000 in
theorem rat_any {T : Nat → Nat} {w : World} {d : Nat} {fb : Nat → Nat} {m : Rm} {vf vn vs vc : Value} (h : Rd T w d fb m vf vn vs vc) (s : ByteArray) :
    Calls Try.prog 64 #[.pointer (some ⟨d, 0, none⟩), .string s] w fun e w' => e = .returned (pv fb (look m.now s.data.toList)) ∧ Below w.heap.size w w' := by
  obtain ⟨an, cn, rfl⟩ := own_slice h.dir
  obtain ⟨af, cf, rfl⟩ := own_slice h.fls
  obtain ⟨_, hnc, hE⟩ := enR_own h.dir
  have hmost := h.most
  have hmf := h.mostF
  have HF := find_any an m.now.length cn m.now w h.rises hE rfl (by omega) hnc s
  have t2 := (h.top.2 2 (by omega)).1
  simp only [rcell] at t2
  have HH : Hid (Rd T w d fb m (.slice af m.fl.length cf) (.slice an m.now.length cn) vs vc) := h
  have HFF : Hid _ := HF
  clear HF hE h
  cases hl : look m.now s.data.toList with
  | none =>
    rw [hl] at HFF
    go_enter Try.func64, Try.ntmps64
    go_wp2_with (go_at_call 73; refine Calls.mono HFF.out ?_; rintro e w1 ⟨rfl, q, hw1⟩; have HB1 : Hid (Below w.heap.size w w1) := (by rw [hw1]; exact below_drewN (Below.refl _ _) q); clear hw1)
    go_ret
    exact ⟨rfl, HB1.out⟩
  | some i =>
    rw [hl] at HFF
    have hpl := plc_some HH.out.rises hl
    have HPL : Hid (m.now[plc m.now s.data.toList]? = some (s.data.toList, i)) := hpl
    clear hpl
    generalize plc m.now s.data.toList = p at *
    have HID : Hid (i < m.fl.length) := HH.out.ids _ (List.mem_of_getElem? HPL.out)
    go_enter Try.func64, Try.ntmps64
    go_wp2_with (go_at_call 73; refine Calls.mono HFF.out ?_; rintro e w1 ⟨rfl, q, hw1⟩; have HB1 : Hid (Below w.heap.size w w1) := (by rw [hw1]; exact below_drewN (Below.refl _ _) q); clear hw1; have HR1 := HH.out.below HB1.out; have t1' := (HR1.top.2 1 (by omega)).1; have t2' := (HR1.top.2 2 (by omega)).1; simp only [rcell] at t1' t2'; obtain ⟨g1, e1, b1, b2, p1⟩ := ptr_at HR1.fls HID.out; obtain ⟨g2, e2, b3, b4, b5, p2, p3⟩ := en_at HR1.dir HPL.out; subst e1; subst e2; have hid := HID.out; clear HR1 p2)
    go_quiet (fail)
    go_wp2
    go_ret
    exact ⟨rfl, below_drewN HB1.out _⟩
end Dsk
end Go.Proofs.Ytbloifnibgdeoaa
namespace Go.Proofs.Ytbloifnibgdeoaa
namespace Dsk
open Go.RowKit Go.Shelf Go.Maps Go.Sort Byt Laws
set_option linter.unusedVariables false
set_option maxRecDepth 100000
set_option linter.unusedSimpArgs false

theorem del_plc {l : List (Key × Nat)} (hr : Rises l) {k : Key} {v : Nat} (h : look l k = some v) : del l k = l.take (plc l k) ++ l.drop (plc l k + 1) := by
  induction l with
  | nil => cases h
  | cons p r ih =>
    have hp := List.pairwise_cons.1 hr
    simp only [look] at h
    split at h
    · rename_i e
      have e0 : plc (p :: r) k = 0 := by simp [plc, e, key_irrefl]
      rw [e0]
      show del (p :: r) k = r
      unfold del
      rw [List.filter_cons_of_neg (by simp [e])]
      exact del_above (fun q hq => by rw [← e]; exact hp.1 q hq)
    · rename_i e
      have hlt : p.1 < k := hp.1 _ (look_some h)
      have e1 : plc (p :: r) k = plc r k + 1 := by simp [plc, hlt]
      rw [e1]
      have z := ih hp.2 h
      unfold del at z ⊢
      rw [List.filter_cons_of_pos (by simp [e]), z]
      rfl
theorem ins_plc {l : List (Key × Nat)} (hr : Rises l) {k : Key} {v : Nat} (v' : Nat) (h : look l k = some v) : ins l k v' = l.set (plc l k) (k, v') := by
  induction l with
  | nil => cases h
  | cons p r ih =>
    have hp := List.pairwise_cons.1 hr
    simp only [look] at h
    split at h
    · rename_i e
      have e0 : plc (p :: r) k = 0 := by simp [plc, e, key_irrefl]
      rw [e0]
      simp [ins, e, key_irrefl]
    · rename_i e
      have hlt : p.1 < k := hp.1 _ (look_some h)
      have e1 : plc (p :: r) k = plc r k + 1 := by simp [plc, hlt]
      have h3 : ¬ k < p.1 := fun h' => key_irrefl _ (key_trans hlt h')
      rw [e1]
      simp only [ins, if_neg h3, if_neg e, List.set_cons_succ, ih hp.2 h]
theorem enRow_set {l : List (Key × Nat)} {i : Nat} {k : Key} {v v' : Nat} (h : l[i]? = some (k, v)) : enRow (l.set i (k, v')) = (enRow l).set (i * 2 + 1) (.int .i64 v') := by
  induction l generalizing i with
  | nil => simp at h
  | cons p r ih =>
    cases i with
    | zero =>
      simp at h
      subst h
      rfl
    | succ i =>
      simp at h
      have e : (i + 1) * 2 + 1 = (i * 2 + 1) + 2 := by omega
      show [Value.string (ofK p.1), Value.int .i64 p.2] ++ enRow (r.set i (k, v')) = _
      rw [ih h, e]
      rfl
theorem row_cur {t : TypeId} {w : World} {base size n c : Nat} {g : Nat} {xs : List Value} (h : w.ownsRow base t size (.slice (some ⟨g, 0, none⟩) n c) n xs) :
    ∃ cur : List Value, w.heap[g]? = some (.cells cur.toArray t (0, 0)) ∧ base ≤ g ∧ n ≤ c ∧ c ≤ 9223372036854775807 ∧ cur.length = c * size ∧ cur.take (n * size) = xs := by
  rcases h.2 with ⟨e, _⟩ | ⟨g, cap, cur, e, q1, q2, q3, q4, q5, q6⟩
  · cases e
  · cases e
    exact ⟨cur.toList, by simpa using q2, q1, q3, q4, by simpa using q5, q6⟩

set_option maxHeartbeats 1000000 in
/-- A name that is there gets another file. -/
theorem with_old (base : Nat) (v : Value) (n : Nat) (l : List (Key × Nat)) (w : World) (h : w.ownsRow base 98 2 v n (enRow l)) (hr : Rises l) (hl : n ≤ 10000000) (s : ByteArray) (at_ i0 : Nat) (hk : look l s.data.toList = some i0) :
    Calls Try.prog 66 #[v, .string s, .int .i64 (at_ : Int)] w fun e w' => e = .returned v ∧ w'.ownsRow base 98 2 v n (enRow (ins l s.data.toList at_)) ∧ Keep v.ownBlock.toList w w' := by
  obtain ⟨a, c, rfl⟩ := own_slice h
  obtain ⟨hn, hc, hE⟩ := enR_own h
  have HF := find_any a n c l w hr hE hn (by omega) hc s
  rw [hk] at HF
  have hpl := plc_some hr hk
  have hins := ins_plc hr at_ hk
  generalize plc l s.data.toList = p at *
  obtain ⟨g, rfl, b1, b2, b3, _, _⟩ := en_at h hpl
  have HFF : Hid (Calls Try.prog 73 #[.slice (some ⟨g, 0, none⟩) n c, .string s] w fun e w' => e = .returned (.tuple #[.int .i64 (p : Nat), .bool true]) ∧ Below w.heap.size w w') := HF.mono (fun e w' hw => by
    obtain ⟨h1, k, rfl⟩ := hw
    exact ⟨h1, below_drewN (Below.refl _ _) _⟩)
  have FIN : Hid (∀ w1, Below w.heap.size w w1 → (∃ x, w1.cell? ⟨g, p * 2 + 1, none⟩ = some x) ∧ w1.frozen? ⟨g, p * 2 + 1, none⟩ = false ∧ (w1.setCell ⟨g, p * 2 + 1, none⟩ (.int .i64 (at_ : Int))).ownsRow base 98 2 (.slice (some ⟨g, 0, none⟩) n c) n (enRow (ins l s.data.toList at_)) ∧ Keep [g] w (w1.setCell ⟨g, p * 2 + 1, none⟩ (.int .i64 (at_ : Int)))) := by
    intro w1 hb
    have h1 := (Keep.below (bs := []) hb).own h (by simp)
    obtain ⟨cur, q1, q2, q3, q4, q5, q6⟩ := row_cur h1
    have hlt : p * 2 + 1 < cur.length := by rw [q5]; omega
    have e5 := setCell_eq_setRow w1 g (p * 2 + 1) _ _ _ (.int .i64 (at_ : Int)) q1
    refine ⟨⟨cur[p * 2 + 1], by rw [Go.Joins.cell_of_block q1]; simp⟩, by simp [World.frozen?, q1], ?_, ((Keep.below (bs := []) hb).mono (by simp)).trans (Keep.set _ _ _ _)⟩
    rw [e5]
    have h2 := setRow_heap w1 g cur.toArray (cur.toArray.setIfInBounds (p * 2 + 1) (.int .i64 (at_ : Int))) _ _ q1
    have hrow : enRow (ins l s.data.toList at_) = (enRow l).set (p * 2 + 1) (.int .i64 at_) := by rw [hins]; exact enRow_set hpl
    have hll : (enRow l).length = n * 2 := by rw [enRow_length, hn]
    refine ⟨by rw [hrow, List.length_set, hll], .inr ⟨g, c, _, rfl, q2, h2, q3, by unfold maxLen; omega, by simp [q5], ?_⟩⟩
    rw [hrow, ← q6]
    simp [List.take_set]
  have hpn : (p : Int) < (n : Int) := by omega
  clear HF h hr hk hE hpl hins hn
  go_enter Try.func66, Try.ntmps66
  go_wp2_with (go_at_call 73; refine HFF.out.mono ?_; rintro e w1 ⟨rfl, hb1⟩; obtain ⟨⟨x1, cx⟩, fx, r1, r2⟩ := FIN.out w1 hb1; have R1 : Hid ((w1.setCell ⟨g, p * 2 + 1, none⟩ (.int .i64 (at_ : Int))).ownsRow base 98 2 (.slice (some ⟨g, 0, none⟩) n c) n (enRow (ins l s.data.toList at_)) ∧ Keep [g] w (w1.setCell ⟨g, p * 2 + 1, none⟩ (.int .i64 (at_ : Int)))) := ⟨r1, r2⟩; clear r1 r2 hb1)
  go_ret
  exact ⟨rfl, R1.out.1, R1.out.2⟩
/-- A name is put into a directory. -/
theorem with_any (base : Nat) (v : Value) (n : Nat) (l : List (Key × Nat)) (w : World) (h : w.ownsRow base 98 2 v n (enRow l)) (hb : base ≤ w.heap.size) (hr : Rises l) (hl : n ≤ 10000000) (s : ByteArray) (at_ : Nat) :
    Calls Try.prog 66 #[v, .string s, .int .i64 (at_ : Int)] w fun e w' => ∃ v', e = .returned v' ∧ w'.ownsRow base 98 2 v' (ins l s.data.toList at_).length (enRow (ins l s.data.toList at_)) ∧ Keep v.ownBlock.toList w w' ∧ (∀ g, v'.ownBlock = some g → v.ownBlock = some g ∨ w.heap.size ≤ g) := by
  have hn : n = l.length := by have := h.1; rw [enRow_length] at this; omega
  cases hk : look l s.data.toList with
  | none =>
    refine (with_new base v n l w h hb hr hl s at_ hk).mono ?_
    rintro e w' ⟨g, cap, rfl, h1, h2, h3⟩
    have e1 : (ins l s.data.toList at_).length = n + 1 := by rw [len_ins hk, hn]
    exact ⟨_, rfl, by rw [e1]; exact h1, h2, fun g' hg => by cases hg; exact h3⟩
  | some i0 =>
    refine (with_old base v n l w h hr hl s at_ i0 hk).mono ?_
    rintro e w' ⟨rfl, h1, h2⟩
    have e1 : (ins l s.data.toList at_).length = n := by rw [ins_plc hr at_ hk, List.length_set, hn]
    exact ⟨v, rfl, by rw [e1]; exact h1, h2, fun g hg => .inl hg⟩

set_option maxHeartbeats 1000000 in
/-- A name is taken out of a directory. -/
theorem without_any (base : Nat) (v : Value) (n : Nat) (l : List (Key × Nat)) (w : World) (h : w.ownsRow base 98 2 v n (enRow l)) (hr : Rises l) (hl : n ≤ 10000000) (s : ByteArray) :
    Calls Try.prog 75 #[v, .string s] w fun e w' => ∃ v', e = .returned v' ∧ w'.ownsRow base 98 2 v' (del l s.data.toList).length (enRow (del l s.data.toList)) ∧ Keep v.ownBlock.toList w w' ∧ (∀ g, v'.ownBlock = some g → v.ownBlock = some g) := by
  obtain ⟨a, c, rfl⟩ := own_slice h
  obtain ⟨hn, hc, hE⟩ := enR_own h
  have HF := find_any a n c l w hr hE hn (by omega) hc s
  cases hk : look l s.data.toList with
  | none =>
    rw [hk] at HF
    have hd := del_none hk
    rw [hd]
    have HFF : Hid _ := HF
    have HO : Hid (w.ownsRow base 98 2 (.slice a n c) n (enRow l)) := h
    have HN : Hid (n = l.length) := hn
    clear HF h hr hk hE hn hd
    go_enter Try.func75, Try.ntmps75
    go_wp2_with (go_at_call 73; refine Calls.mono HFF.out ?_; rintro e w1 ⟨rfl, q, hw1⟩; have HB1 : Hid (Below w.heap.size w w1) := (by rw [hw1]; exact below_drewN (Below.refl _ _) q); clear hw1)
    go_ret
    exact ⟨_, rfl, by rw [← HN.out]; exact (Keep.below (bs := []) HB1.out).own HO.out (by simp), Keep.below HB1.out, fun g hg => hg⟩
  | some i0 =>
    rw [hk] at HF
    have hpl := plc_some hr hk
    have hdel := del_plc hr hk
    generalize plc l s.data.toList = p at *
    obtain ⟨g, rfl, b1, b2, b3, _, _⟩ := en_at h hpl
    have HFF : Hid (Calls Try.prog 73 #[.slice (some ⟨g, 0, none⟩) n c, .string s] w fun e w' => e = .returned (.tuple #[.int .i64 (p : Nat), .bool true]) ∧ Below w.heap.size w w') := HF.mono (fun e w' hw => by
      obtain ⟨h1, k, rfl⟩ := hw
      exact ⟨h1, below_drewN (Below.refl _ _) _⟩)
    obtain ⟨p1, hp1⟩ : ∃ p1 : Nat, p1 = p + 1 := ⟨_, rfl⟩
    obtain ⟨C, hC⟩ : ∃ C, C = (enRow l).drop (p1 * 2) := ⟨_, rfl⟩
    have hCl : C.length = (n - p1) * 2 := by rw [hC, List.length_drop, enRow_length, ← hn]; omega
    have hC1 : ∀ u ∈ C, u.oneCell' = true := by
      intro u hu
      rw [hC] at hu
      exact enRow_one l u (List.mem_of_mem_drop hu)
    have HC : Hid ((∀ u ∈ C, u.oneCell' = true) ∧ C.length = (n - p1) * 2) := ⟨hC1, hCl⟩
    have hlen : (del l s.data.toList).length = n - 1 := by rw [hdel, List.length_append, List.length_take, List.length_drop]; omega
    have FIN : Hid (∀ w1, Below w.heap.size w w1 → ∃ cur : List Value, w1.heap[g]? = some (.cells cur.toArray 98 (0, 0)) ∧ cur.length = c * 2 ∧ (∀ j u, C[j]? = some u → w1.cell? ⟨g, p1 * 2 + j, none⟩ = some u) ∧ ∀ w3, w3 = w1.setRow g (splice cur (p * 2) C).toArray → w3.ownsRow base 98 2 (.slice (some ⟨g, 0, none⟩) (n - 1) c) (n - 1) (enRow (del l s.data.toList)) ∧ Keep [g] w w3) := by
      intro w1 hb
      have h1 := (Keep.below (bs := []) hb).own h (by simp)
      obtain ⟨cur, q1, q2, q3, q4, q5, q6⟩ := row_cur h1
      refine ⟨cur, q1, q5, fun j u hj => ?_, fun w3 hw3 => ?_⟩
      · have hjl := (List.getElem?_eq_some_iff.1 hj).1
        rw [Go.Joins.cell_of_block q1]
        rw [hC, List.getElem?_drop, ← q6, List.getElem?_take, if_pos (by omega)] at hj
        simpa using hj
      · have h3 : w3.heap[g]? = some (.cells (splice cur (p * 2) C).toArray 98 (0, 0)) := by rw [hw3]; exact setRow_heap w1 g _ _ _ _ q1
        have k3 : Keep [g] w1 w3 := by
          rw [hw3]
          exact ⟨rfl, rfl, rfl, by simp [World.setRow], fun k hk hn => setRow_other w1 g k _ (by simpa using hn)⟩
        have hsl : (splice cur (p * 2) C).length = c * 2 := by rw [length_splice _ _ _ (by omega), q5]
        have hrow : enRow (del l s.data.toList) = (enRow l).take (p * 2) ++ C := by
          rw [hdel, enRow_append, (enRow_split l p (by omega)).1, (enRow_split l (p + 1) (by omega)).2, hC, hp1]
        refine ⟨⟨by rw [enRow_length, hlen], .inr ⟨g, c, _, rfl, q2, h3, by omega, by unfold maxLen; omega, by simpa using hsl, ?_⟩⟩, ((Keep.below (bs := []) hb).mono (by simp)).trans k3⟩
        rw [hrow, ← q6]
        show ((splice cur (p * 2) C).toArray.toList).take ((n - 1) * 2) = _
        have e1 : (cur.take (n * 2)).take (p * 2) = cur.take (p * 2) := by rw [List.take_take, Nat.min_eq_left (by omega)]
        rw [e1]
        simp only [splice]
        have el : (cur.take (p * 2) ++ C).length = (n - 1) * 2 := by rw [List.length_append, List.length_take, hCl]; omega
        rw [← List.append_assoc]
        exact List.take_left' el
    have hpn : (p : Int) < (n : Int) := by omega
    have hwr : IntKind.i64.wrap ((p : Int) + 1) = (p1 : Int) := by
      rw [IntWalk.i64_in _ (by omega), hp1]; rfl
    have hp1n : (p1 : Int) ≤ (n : Int) := by omega
    have HP1 : Hid (p1 = p + 1) := hp1
    have HLN : Hid ((del l s.data.toList).length = n - 1) := hlen
    obtain ⟨i4, hi4, hz0, hz1, hz2⟩ := info_parts infoE
    have HIF : Hid ((Try.prog.info? 98).map (·.size) = some 2) := by show _ = _; rw [hi4]; simp [hz1]
    have hpc : ¬ c = p := by omega
    have hpi : (p : Int) ≤ (n : Int) := by omega
    have hp1p : ¬ p1 = p := by omega
    have hn1 : (1 : Int) ≤ (n : Int) := by omega
    clear HF h hr hk hE hpl hdel hC hCl hC1 hlen hp1 hi4 hz0 hz1 hz2 hn
    go_enter Try.func75, Try.ntmps75
    go_wp2_with (go_at_call 73; refine HFF.out.mono ?_; rintro e w1 ⟨rfl, hb1⟩; have HB1 : Hid (Below w.heap.size w w1) := hb1; clear hb1)
    obtain ⟨cur, u1, u2, u3, u4⟩ := FIN.out w1.drew HB1.out.drew
    have HU : Hid (w1.drew.heap[g]? = some (.cells cur.toArray 98 (0, 0)) ∧ cur.length = c * 2 ∧ ∀ j u, C[j]? = some u → w1.drew.cell? ⟨g, p1 * 2 + j, none⟩ = some u) := ⟨u1, u2, u3⟩
    have HE : Hid (∀ w3, w3 = w1.drew.setRow g (splice cur (p * 2) C).toArray → w3.ownsRow base 98 2 (.slice (some ⟨g, 0, none⟩) (n - 1) c) (n - 1) (enRow (del l s.data.toList)) ∧ Keep [g] w w3) := u4
    clear u1 u2 u3 u4
    by_cases hcj : c = p1
    · subst hcj
      go_region_law (refine step_copy_sz (by rfl) (.tmp 18) (.tmp 22) 92 92 (by rfl) 98 2 Try.underlying92 HIF.out (some ⟨g, p * 2, none⟩) (some ⟨g, 0, none⟩) (n - p) (c - p) 0 0 (by simp [Act.eval, Act.put]) (by simp [Act.eval, Act.put]) g (p * 2) cur 98 HU.out.1 C (n - c) (by have := HP1.out; show n - c = min 0 (n - p); omega) HC.out.2 (by intro h0; have := HP1.out; omega) (by have := HP1.out; have := HU.out.2.1; have := HC.out.2; omega) HC.out.1 ?_; intro w3 hw3; have HW3 : Hid (w3 = w1.drew.setRow g (splice cur (p * 2) C).toArray) := hw3; clear hw3)
      all_goals
        go_wp2
        go_ret
        exact ⟨_, rfl, by rw [HLN.out]; exact (HE.out _ HW3.out).1, (HE.out _ HW3.out).2, fun g hg => hg⟩
    · go_region_law (refine step_copy_sz (by rfl) (.tmp 18) (.tmp 22) 92 92 (by rfl) 98 2 Try.underlying92 HIF.out (some ⟨g, p * 2, none⟩) (some ⟨g, p1 * 2, none⟩) (n - p) (c - p) (n - p1) (c - p1) (by simp [Act.eval, Act.put]) (by simp [Act.eval, Act.put]) g (p * 2) cur 98 HU.out.1 C (n - p1) (by have := HP1.out; show n - p1 = min (n - p1) (n - p); omega) HC.out.2 (by intro h0; exact ⟨rfl, _, rfl, fun j u hu => by rw [add_plain2]; exact HU.out.2.2 j u hu⟩) (by have := HP1.out; have := HU.out.2.1; have := HC.out.2; omega) HC.out.1 ?_; intro w3 hw3; have HW3 : Hid (w3 = w1.drew.setRow g (splice cur (p * 2) C).toArray) := hw3; clear hw3)
      all_goals
        go_wp2
        go_ret
        exact ⟨_, rfl, by rw [HLN.out]; exact (HE.out _ HW3.out).1, (HE.out _ HW3.out).2, fun g hg => hg⟩
end Dsk
end Go.Proofs.Ytbloifnibgdeoaa
namespace Go.Proofs.Ytbloifnibgdeoaa
namespace Dsk
open Go.RowKit Go.Shelf Go.Maps Go.Sort Byt Laws
set_option linter.unusedVariables false
set_option maxRecDepth 100000
set_option linter.unusedSimpArgs false

theorem drewN_add (w : World) (j q : Nat) : w.drewN (j + q) = (w.drewN j).drewN q := by simp [World.drewN, Nat.add_assoc]
def Rm.used (m : Rm) : Nat := usedOf m.fl m.now
theorem usedOf_take {fl : List Fl} {l : List (Key × Nat)} {k : Nat} {p : Key × Nat} (h : l[k]? = some p) : usedOf fl (l.take (k + 1)) = usedOf fl (l.take k) + lenOf fl p.2 := by
  unfold usedOf
  rw [List.take_add_one, h]
  simp
theorem usedOf_take_le (fl : List Fl) (l : List (Key × Nat)) (k : Nat) : usedOf fl (l.take k) ≤ usedOf fl l := by
  have e : usedOf fl l = usedOf fl (l.take k) + usedOf fl (l.drop k) := by
    unfold usedOf
    rw [← List.sum_append, ← List.map_append, List.take_append_drop]
  omega

set_option maxHeartbeats 1000000 in
theorem rsize_any {T : Nat → Nat} {w : World} {d : Nat} {fb : Nat → Nat} {m : Rm} {vf vn vs vc : Value} (h : Rd T w d fb m vf vn vs vc) (hu : m.used ≤ 9223372036854775807) :
    Calls Try.prog 83 #[.pointer (some ⟨d, 0, none⟩)] w fun e w' => e = .returned (.int .i64 (m.used : Nat)) ∧ ∃ q, w' = w.drewN q := by
  obtain ⟨an, cn, rfl⟩ := own_slice h.dir
  obtain ⟨af, cf, rfl⟩ := own_slice h.fls
  have hmost := h.most
  have hmf := h.mostF
  obtain ⟨L, hL⟩ : ∃ L : Nat, m.now.length = L := ⟨_, rfl⟩
  obtain ⟨F, hF⟩ : ∃ F : Nat, m.fl.length = F := ⟨_, rfl⟩
  have t1 := (h.top.2 1 (by omega)).1
  have t2 := (h.top.2 2 (by omega)).1
  simp only [rcell] at t1 t2
  have HH : Hid (Rd T w d fb m (.slice af m.fl.length cf) (.slice an m.now.length cn) vs vc) := h
  have HL : Hid (m.now.length = L) := hL
  have HFL : Hid (m.fl.length = F) := hF
  have HU : Hid (m.used ≤ 9223372036854775807) := hu
  rw [hL] at hmost t2
  rw [hF] at hmf t1
  clear h hL hF hu
  go_enter Try.func83, Try.ntmps83
  go_wp2
  go_loopw [3, 4] (fun s i wr => ∃ k u q : Nat, k ≤ L ∧ i = .int .i64 (k : Int) ∧ s = .int .i64 (u : Int) ∧ Hid (u = usedOf m.fl (m.now.take k)) ∧ wr = w.drewN q) (fun _ i _ => L - (intOf i).toNat)
  case atStart => exact ⟨0, 0, 0, Nat.zero_le _, rfl, rfl, rfl, rfl⟩
  case round =>
    obtain ⟨k, u, q, hk, rfl, rfl, HUK, rfl⟩ := hrel
    by_cases hlt : k < L
    · have hlt' : (k : Int) < (L : Int) := by omega
      have hks : k < m.now.length := by rw [HL.out]; exact hlt
      obtain ⟨p, hp⟩ : ∃ p, m.now[k]? = some p := ⟨_, List.getElem?_eq_getElem hks⟩
      have hid := HH.out.ids p (List.mem_of_getElem? hp)
      obtain ⟨f, hf⟩ : ∃ f, m.fl[p.2]? = some f := ⟨_, List.getElem?_eq_getElem hid⟩
      obtain ⟨a, c, hfi⟩ := HH.out.file p.2 f hf
      have cf0 := (hfi.fld.2 0 (by omega)).1
      simp only [fcell] at cf0
      obtain ⟨g1, e1, b1, b2, p1⟩ := ptr_at HH.out.fls hid
      obtain ⟨g2, e2, b3, b4, b5, p2, p3⟩ := en_at HH.out.dir hp
      subst e1; subst e2
      have hnx : u + f.data.length = usedOf m.fl (m.now.take (k + 1)) := by
        rw [usedOf_take hp, HUK.out]; simp [lenOf, hf]
      have hbd : u + f.data.length ≤ 9223372036854775807 := by rw [hnx]; exact Nat.le_trans (usedOf_take_le _ _ _) HU.out
      have HNX : Hid (u + f.data.length = usedOf m.fl (m.now.take (k + 1))) := hnx
      have HB5 : Hid (f.data.length ≤ c) := hfi.own.le
      rw [HFL.out] at b1 hid
      rw [HL.out] at b4
      generalize p.2 = pi at *
      clear hp hf hfi p2 hnx hks b3
      go_wp2
      go_quiet (fail)
      go_wp2
      go_roundw
      case rel => exact ⟨k + 1, u + f.data.length, _, by omega, by go_num, by go_num, HNX.out, rfl⟩
      case measure => simp [intOf]; omega
    · have hk' : k = L := by omega
      subst hk'
      have hun : u = m.used := by rw [HUK.out, ← HL.out, List.take_length]; rfl
      subst hun
      go_wp2
      go_ret
      exact ⟨rfl, _, rfl⟩

set_option maxHeartbeats 1000000 in
theorem rfull_any {T : Nat → Nat} {w : World} {d : Nat} {fb : Nat → Nat} {m : Rm} {vf vn vs vc : Value} (h : Rd T w d fb m vf vn vs vc) (hu : m.used ≤ 9223372036854775807) {i : Nat} {f : Fl} (hf : m.fl[i]? = some f) (n : Nat) (hn : n ≤ 4611686018427387903) :
    Calls Try.prog 74 #[.pointer (some ⟨d, 0, none⟩), .pointer (some ⟨fb i, 0, none⟩), .int .i64 (n : Int)] w fun e w' => e = .returned (.bool (!roomR m.room m.used f.data.length n)) ∧ ∃ q, w' = w.drewN q := by
  have HS : Hid (∀ j, Calls Try.prog 83 #[.pointer (some ⟨d, 0, none⟩)] (w.drewN j) fun e w' => e = .returned (.int .i64 (m.used : Nat)) ∧ ∃ q, w' = w.drewN q) := fun j => (rsize_any (h.below (below_drewN (Below.refl _ _) j)) hu).mono fun e w' hw => by
    obtain ⟨h1, q, rfl⟩ := hw
    exact ⟨h1, j + q, (drewN_add w j q).symm⟩
  obtain ⟨a, c, hfi⟩ := h.file i f hf
  have cf0 := (hfi.fld.2 0 (by omega)).1
  simp only [fcell] at cf0
  have hbig := hfi.big
  have t0 := (h.top.2 0 (by omega)).1
  simp only [rcell] at t0
  have hroom := h.room
  clear hfi h hf
  generalize m.used = used at *
  generalize m.room = room at *
  obtain ⟨len, hlen⟩ : ∃ len, len = f.data.length := ⟨_, rfl⟩
  rw [← hlen] at cf0 hbig ⊢
  clear hlen
  go_enter Try.func74, Try.ntmps74
  by_cases h2 : len + n ≤ 2147483648
  · have g2 : decide (2147483648 - (len : Int) < (n : Int)) = false := by simp; omega
    by_cases h0 : room = 0
    · subst h0
      have e : roomR 0 used len n = true := by simp [roomR, h2]
      rw [e]
      go_wp2
      go_quiet (first | (go_at_call 83; exact (HS.out _).mono (fun _ _ h => h)))
      go_wp2
      go_ret
      exact ⟨rfl, _, rfl⟩
    · have h0' : ¬ (room : Int) = 0 := by omega
      have q0 : ((room : Int) == 0) = false := by simpa using h0
      have q1 : ((room : Int) != 0) = true := by simpa using h0
      have q2 : decide ((room : Int) = 0) = false := by simpa using h0
      by_cases h1 : used + n ≤ room
      · have g1 : decide ((room : Int) - (used : Int) < (n : Int)) = false := by simp; omega
        have e : roomR room used len n = true := by simp [roomR, h1, h2]
        rw [e]
        go_wp2
        go_quiet (first | (go_at_call 83; exact (HS.out _).mono (fun _ _ h => h)))
        go_wp2
        go_ret
        exact ⟨rfl, _, rfl⟩
      · have g1 : decide ((room : Int) - (used : Int) < (n : Int)) = true := by simp; omega
        have e : roomR room used len n = false := by simp [roomR, h0, h1]
        rw [e]
        go_wp2
        go_quiet (first | (go_at_call 83; exact (HS.out _).mono (fun _ _ h => h)))
        go_wp2
        go_ret
        exact ⟨rfl, _, rfl⟩
  · have g2 : decide (2147483648 - (len : Int) < (n : Int)) = true := by simp; omega
    have e : roomR room used len n = false := by simp [roomR, h2]
    rw [e]
    by_cases h0 : room = 0
    · subst h0
      go_wp2
      go_quiet (first | (go_at_call 83; exact (HS.out _).mono (fun _ _ h => h)))
      go_wp2
      go_ret
      exact ⟨rfl, _, rfl⟩
    · have h0' : ¬ (room : Int) = 0 := by omega
      have q0 : ((room : Int) == 0) = false := by simpa using h0
      have q1 : ((room : Int) != 0) = true := by simpa using h0
      have q2 : decide ((room : Int) = 0) = false := by simpa using h0
      by_cases h1 : used + n ≤ room
      · have g1 : decide ((room : Int) - (used : Int) < (n : Int)) = false := by simp; omega
        go_wp2
        go_quiet (first | (go_at_call 83; exact (HS.out _).mono (fun _ _ h => h)))
        go_wp2
        go_ret
        exact ⟨rfl, _, rfl⟩
      · have g1 : decide ((room : Int) - (used : Int) < (n : Int)) = true := by simp; omega
        go_wp2
        go_quiet (first | (go_at_call 83; exact (HS.out _).mono (fun _ _ h => h)))
        go_wp2
        go_ret
        exact ⟨rfl, _, rfl⟩
end Dsk
end Go.Proofs.Ytbloifnibgdeoaa
namespace Go.Proofs.Ytbloifnibgdeoaa
namespace Dsk
open Go.RowKit Go.Shelf Go.Maps Go.Sort Byt Laws
set_option linter.unusedVariables false
set_option maxRecDepth 100000
set_option linter.unusedSimpArgs false

section
variable {T : Nat → Nat} {w w2 : World} {d : Nat} {fb : Nat → Nat} {m : Rm} {vf vn vs vc : Value}
/-- What one of the disk's lists, turned and put back into its cell, leaves. -/
structure Core (T T' : Nat → Nat) (w w2 w' : World) (d : Nat) (fb : Nat → Nat) (fl : List Fl) (v' : Value) (t : Nat) : Prop where
  same : ∀ x, x < w.heap.size → T' x = T x
  mine : ∀ g, v'.ownBlock = some g → T' g = t
  fresh : ∀ b, w'.heap.size ≤ b → T' b = 0
  td : T' d = 1
  goes : Goes T T' w w'
  row : ∀ (u : Value) (tt base : Nat) (e : TypeId) (size n : Nat) (xs : List Value), tt ≠ 1 → tt ≠ t → (∀ b, u.ownBlock = some b → T b = tt) → w.ownsRow base e size u n xs → w'.ownsRow base e size u n xs ∧ ∀ b, u.ownBlock = some b → T' b = tt
  new : ∀ (base : Nat) (e : TypeId) (size n : Nat) (xs : List Value), w2.ownsRow base e size v' n xs → w'.ownsRow base e size v' n xs
  file : ∀ i f, fl[i]? = some f → ∃ a c, FileAt T' w' (fb i) i f a c
theorem Rd.core (h : Rd T w d fb m vf vn vs vc) {v v' : Value} {t j : Nat} (ht1 : 1 < t) (ht2 : t < 10) (hv : ∀ b, v.ownBlock = some b → b < w.heap.size ∧ T b = t) (kk : Keep v.ownBlock.toList w w2) (hlt : ∀ g, v'.ownBlock = some g → g < w2.heap.size) (hat : ∀ g, v'.ownBlock = some g → v.ownBlock = some g ∨ w.heap.size ≤ g) :
    ∃ T', Core T T' w w2 (w2.setCell ⟨d, j, none⟩ v') d fb m.fl v' t := by
  have htd := h.td
  have hdlt : d < w.heap.size := h.top.1
  have hs2 := kk.size
  have hv' : ∀ g, v'.ownBlock = some g → g < w.heap.size → T g = t := fun g e hlt => by
    rcases hat g e with e2 | e2
    · exact (hv g e2).2
    · omega
  obtain ⟨T', hT⟩ : ∃ T' : Nat → Nat, T' = fun x => if v'.ownBlock = some x then t else T x := ⟨_, rfl⟩
  have ht : ∀ x, x < w.heap.size → T' x = T x := fun x hx => by
    rw [hT]; simp only
    by_cases e : v'.ownBlock = some x
    · rw [if_pos e, hv' x e hx]
    · rw [if_neg e]
  have kd : Keep [d] w2 (w2.setCell ⟨d, j, none⟩ v') := Keep.set _ _ _ _
  have ka : Keep (d :: v.ownBlock.toList) w (w2.setCell ⟨d, j, none⟩ v') := (kk.mono (fun b hb => by simp at hb; simp [hb])).trans (kd.mono (fun b hb => by simp at hb; simp [hb]))
  have hin : ∀ x ∈ (d :: v.ownBlock.toList), T x = 1 ∨ T x = t := fun x hx => by
    simp only [List.mem_cons, Option.mem_toList] at hx
    rcases hx with rfl | hx
    · exact .inl htd
    · exact .inr (hv x hx).2
  have hdT : T' d = 1 := by rw [ht _ hdlt]; exact htd
  refine ⟨T', ht, fun g e => by rw [hT]; simp only; rw [if_pos e], fun b hb => ?_, hdT, ⟨ka.os, ka.tape, ka.output, ka.size, fun b hb h0 => ⟨ka.block b hb (fun hm => by have := hin b hm; omega), by rw [ht b hb]; exact h0⟩⟩, fun u tt base e size n xs h1 h2 hu ho => ⟨ka.own ho (fun b hb hm => by have h3 := hu b hb; have := hin b hm; omega), fun b hb => by rw [ht b (ho.lt b hb).2]; exact hu b hb⟩, fun base e size n xs ho => kd.own ho (fun b hb hm => ?_), fun i f hf => ?_⟩
  · have hb2 : w2.heap.size ≤ b := by simpa using hb
    rw [hT]; simp only
    rw [if_neg (fun e => by have := hlt b e; omega)]
    exact h.fresh b (by omega)
  · simp at hm
    have h3 := hv' b hb (by rw [hm]; exact hdlt)
    rw [hm, htd] at h3
    omega
  · obtain ⟨a, c, hf⟩ := h.file i f hf
    exact ⟨a, c, (hf.tags ht).keep ka (fun x hx => by have h4 := hin x hx; have h5 : x < w.heap.size := (by simp only [List.mem_cons, Option.mem_toList] at hx; rcases hx with rfl | hx; exact hdlt; exact (hv x hx).1); rw [ht x h5]; omega) (fun x hx => by have h4 := hin x hx; have h5 : x < w.heap.size := (by simp only [List.mem_cons, Option.mem_toList] at hx; rcases hx with rfl | hx; exact hdlt; exact (hv x hx).1); rw [ht x h5]; omega)⟩
/-- The directory, turned. -/
theorem Rd.dirs (h : Rd T w d fb m vf vn vs vc) {l' : List (Key × Nat)} {v' : Value} (hown : w2.ownsRow 0 98 2 v' l'.length (enRow l')) (kk : Keep vn.ownBlock.toList w w2) (hat : ∀ g, v'.ownBlock = some g → vn.ownBlock = some g ∨ w.heap.size ≤ g) (hr : Rises l') (hi : ∀ p ∈ l', p.2 < m.fl.length) (hl : l'.length ≤ 9000000) :
    ∃ T', Rd T' (w2.setCell ⟨d, 2, none⟩ v') d fb { m with now := l' } vf v' vs vc ∧ Goes T T' w (w2.setCell ⟨d, 2, none⟩ v') := by
  have hdn : d ∉ vn.ownBlock.toList := fun hm => by have h1 := h.tn d (by simpa using hm); have := h.td; omega
  obtain ⟨T', C⟩ := h.core (v := vn) (v' := v') (t := 3) (j := 2) (by omega) (by omega) (fun b e => ⟨(h.dir.lt b e).2, h.tn b e⟩) kk (fun g e => (hown.lt g e).2) hat
  obtain ⟨f1, f2⟩ := C.row _ 2 _ _ _ _ _ (by omega) (by omega) h.tf h.fls
  obtain ⟨s1, s2⟩ := C.row _ 4 _ _ _ _ _ (by omega) (by omega) h.ts h.sur
  obtain ⟨c1, c2⟩ := C.row _ 5 _ _ _ _ _ (by omega) (by omega) h.tc h.chg
  exact ⟨T', ⟨((h.top.keep kk hdn).set 2 (by omega) _).eq (ten rfl rfl rfl rfl rfl rfl rfl rfl rfl rfl), C.td, C.fresh, f1, f2, C.new _ _ _ _ _ hown, C.mine, s1, s2, c1, c2, C.file, hr, h.risesS, hi, h.idsS, h.room, hl, h.mostS, h.mostF, h.rok⟩, C.goes⟩
/-- The directory becomes sure. -/
theorem Rd.sured2 (h : Rd T w d fb m vf vn vs vc) {v' : Value} (hown : w2.ownsRow w.heap.size 98 2 v' m.now.length (enRow m.now)) (hb : Below w.heap.size w w2) :
    ∃ T', Rd T' (w2.setCell ⟨d, 3, none⟩ v') d fb { m with su := m.now } vf vn v' vc ∧ Goes T T' w (w2.setCell ⟨d, 3, none⟩ v') := by
  have kk : Keep vs.ownBlock.toList w w2 := (Keep.below (bs := []) hb).mono (by simp)
  have hdn : d ∉ vs.ownBlock.toList := fun hm => by have h1 := h.ts d (by simpa using hm); have := h.td; omega
  have hown0 : w2.ownsRow 0 98 2 v' m.now.length (enRow m.now) := by
    refine ⟨hown.1, ?_⟩
    rcases hown.2 with h1 | ⟨g, cap, cur, h1, h2, h3⟩
    · exact .inl h1
    · exact .inr ⟨g, cap, cur, h1, Nat.zero_le _, h3⟩
  obtain ⟨T', C⟩ := h.core (v := vs) (v' := v') (t := 4) (j := 3) (by omega) (by omega) (fun b e => ⟨(h.sur.lt b e).2, h.ts b e⟩) kk (fun g e => (hown.lt g e).2) (fun g e => .inr (hown.lt g e).1)
  obtain ⟨f1, f2⟩ := C.row _ 2 _ _ _ _ _ (by omega) (by omega) h.tf h.fls
  obtain ⟨s1, s2⟩ := C.row _ 3 _ _ _ _ _ (by omega) (by omega) h.tn h.dir
  obtain ⟨c1, c2⟩ := C.row _ 5 _ _ _ _ _ (by omega) (by omega) h.tc h.chg
  exact ⟨T', ⟨((h.top.keep kk hdn).set 3 (by omega) _).eq (ten rfl rfl rfl rfl rfl rfl rfl rfl rfl rfl), C.td, C.fresh, f1, f2, s1, s2, C.new _ _ _ _ _ hown0, C.mine, c1, c2, C.file, h.rises, h.rises, h.ids, h.ids, h.room, h.most, h.most, h.mostF, h.rok⟩, C.goes⟩
/-- The changes, turned. -/
theorem Rd.chgs (h : Rd T w d fb m vf vn vs vc) {l' : List Rc} {v' : Value} (hown : w2.ownsRow 0 119 4 v' l'.length (rcRow l')) (kk : Keep vc.ownBlock.toList w w2) (hat : ∀ g, v'.ownBlock = some g → vc.ownBlock = some g ∨ w.heap.size ≤ g) :
    ∃ T', Rd T' (w2.setCell ⟨d, 4, none⟩ v') d fb { m with ch := l' } vf vn vs v' ∧ Goes T T' w (w2.setCell ⟨d, 4, none⟩ v') := by
  have hdn : d ∉ vc.ownBlock.toList := fun hm => by have h1 := h.tc d (by simpa using hm); have := h.td; omega
  obtain ⟨T', C⟩ := h.core (v := vc) (v' := v') (t := 5) (j := 4) (by omega) (by omega) (fun b e => ⟨(h.chg.lt b e).2, h.tc b e⟩) kk (fun g e => (hown.lt g e).2) hat
  obtain ⟨f1, f2⟩ := C.row _ 2 _ _ _ _ _ (by omega) (by omega) h.tf h.fls
  obtain ⟨s1, s2⟩ := C.row _ 3 _ _ _ _ _ (by omega) (by omega) h.tn h.dir
  obtain ⟨c1, c2⟩ := C.row _ 4 _ _ _ _ _ (by omega) (by omega) h.ts h.sur
  exact ⟨T', ⟨((h.top.keep kk hdn).set 4 (by omega) _).eq (ten rfl rfl rfl rfl rfl rfl rfl rfl rfl rfl), C.td, C.fresh, f1, f2, s1, s2, c1, c2, C.new _ _ _ _ _ hown, C.mine, C.file, h.rises, h.risesS, h.ids, h.idsS, h.room, h.most, h.mostS, h.mostF, h.rok⟩, C.goes⟩
/-- A file's cells turn (all of its bytes are sure, say). -/
theorem Rd.setFile (h : Rd T w d fb m vf vn vs vc) {w' : World} {i : Nat} {f f' : Fl} (hf : m.fl[i]? = some f) (hk : Keep [fb i] w w') {a' : Option Addr} {c' : Nat}
    (hfa : FileAt T w' (fb i) i f' a' c') : Rd T w' d fb { m with fl := m.fl.set i f' } vf vn vs vc ∧ Goes T T w w' := by
  have hi : i < m.fl.length := (List.getElem?_eq_some_iff.1 hf).1
  have htf := hfa.tag
  have hx : ∀ {v : Value} {t : Nat}, t < 10 → (∀ b, v.ownBlock = some b → T b = t) → ∀ b, v.ownBlock = some b → b ∉ [fb i] := fun ht hv b hb hm => by
    have h5 := hv b hb
    simp at hm
    rw [hm, htf] at h5
    omega
  have hl : (m.fl.set i f').length = m.fl.length := List.length_set
  refine ⟨{ h with top := ?_, fresh := fun b hb => h.fresh b (Nat.le_trans hk.size hb), fls := ?_, dir := hk.own h.dir (hx (by omega) h.tn), sur := hk.own h.sur (hx (by omega) h.ts), chg := hk.own h.chg (hx (by omega) h.tc), file := fun j g hj => ?_, ids := fun p hp => ?_, idsS := fun p hp => ?_, mostF := ?_ }, Goes.keep hk (fun b hb _ => by simp at hb; subst hb; omega)⟩
  · exact h.top.keep hk (by simp; intro e; have := h.td; rw [e, htf] at this; omega)
  · show w'.ownsRow 0 96 1 vf (m.fl.set i f').length (ptrRow fb (m.fl.set i f').length)
    rw [hl]
    exact hk.own h.fls (hx (by omega) h.tf)
  · by_cases e : j = i
    · subst e
      have : g = f' := by
        have hj' : (m.fl.set j f')[j]? = some g := hj
        rw [List.getElem?_set_self hi] at hj'; exact (Option.some.inj hj').symm
      subst this
      exact ⟨a', c', hfa⟩
    · have hj' : m.fl[j]? = some g := by
        have hj' : (m.fl.set i f')[j]? = some g := hj
        rwa [List.getElem?_set_ne (Ne.symm e)] at hj'
      obtain ⟨a2, c2, hfj⟩ := h.file j g hj'
      exact ⟨a2, c2, hfj.keep hk (by intro x hx; simp at hx; subst hx; omega) (by intro x hx; simp at hx; subst hx; omega)⟩
  · show p.2 < (m.fl.set i f').length
    rw [hl]; exact h.ids p hp
  · show p.2 < (m.fl.set i f').length
    rw [hl]; exact h.idsS p hp
  · show (m.fl.set i f').length ≤ _
    rw [hl]; exact h.mostF
/-- The tags may be others where nothing of the disk's is. -/
theorem Rd.tags {T' : Nat → Nat} (h : Rd T w d fb m vf vn vs vc) (ht : ∀ x, x < w.heap.size → T' x = T x) (h0 : ∀ b, w.heap.size ≤ b → T' b = 0) : Rd T' w d fb m vf vn vs vc := by
  have tg : ∀ {v : Value} {t : Nat}, (∀ b, v.ownBlock = some b → b < w.heap.size) → (∀ b, v.ownBlock = some b → T b = t) → ∀ b, v.ownBlock = some b → T' b = t := fun hlt hv b hb => by rw [ht b (hlt b hb)]; exact hv b hb
  exact { h with td := by rw [ht d h.top.1]; exact h.td, fresh := h0, tf := tg (fun b e => (h.fls.lt b e).2) h.tf, tn := tg (fun b e => (h.dir.lt b e).2) h.tn, ts := tg (fun b e => (h.sur.lt b e).2) h.ts, tc := tg (fun b e => (h.chg.lt b e).2) h.tc, file := fun i f hf => (h.file i f hf).imp fun a h => h.imp fun c h => h.tags ht }
end
end Dsk
end Go.Proofs.Ytbloifnibgdeoaa
namespace Go.Proofs.Ytbloifnibgdeoaa
namespace Dsk
open Go.RowKit Go.Shelf Go.Maps Go.Sort Byt Laws
set_option linter.unusedVariables false
set_option maxRecDepth 100000
set_option linter.unusedSimpArgs false

/-- What the reference keeps, its lists' slices hidden. -/
def Re (T : Nat → Nat) (w : World) (d : Nat) (m : Rm) : Prop := ∃ fb vf vn vs vc, Rd T w d fb m vf vn vs vc
theorem Re.of {T : Nat → Nat} {w : World} {d : Nat} {fb : Nat → Nat} {m : Rm} {vf vn vs vc : Value} (h : Rd T w d fb m vf vn vs vc) : Re T w d m := ⟨fb, vf, vn, vs, vc, h⟩
theorem Re.below {T : Nat → Nat} {w w' : World} {d : Nat} {m : Rm} (h : Re T w d m) (hb : Below w.heap.size w w') : Re T w' d m := by
  obtain ⟨fb, vf, vn, vs, vc, h⟩ := h
  exact ⟨fb, vf, vn, vs, vc, h.below hb⟩
theorem renter_d {m : Rm} (hd : m.down = true) (ok : Bool) : m.enter ok = (30, m) := by cases m; simp only at hd; subst hd; rfl
theorem renter_n {m : Rm} (hd : m.down = false) : m.enter false = (33, m) := by cases m; simp only at hd; subst hd; rfl
theorem renter_f {m : Rm} (hd : m.down = false) (hf : m.rig.fails.1 = true) : m.enter true = (31, m.fails) := by cases m; simp only at hd hf; subst hd; simp [Rm.enter, enterR, Rm.fails, hf]
theorem renter_o {m : Rm} (hd : m.down = false) (hf : m.rig.fails.1 = false) : m.enter true = (0, m.fails) := by cases m; simp only at hd hf; subst hd; simp [Rm.enter, enterR, Rm.fails, hf]

def Rm.syncDir (m : Rm) : Int × Rm :=
  if (m.enter true).1 ≠ 0 then m.enter true
  else if 0 < ((m.enter true).2.spend 1).1 then (30, ((m.enter true).2.spend 1).2) else (0, { ((m.enter true).2.spend 1).2 with su := m.now, ch := [] })
def Rm.reach (m : Rm) (ok : Bool) (k : Key) : Int × Rm :=
  if (m.enter ok).1 ≠ 0 then m.enter ok
  else match look m.now k with
    | none => (34, (m.enter ok).2)
    | some _ => if 0 < ((m.enter ok).2.spend 1).1 then (30, ((m.enter ok).2.spend 1).2) else (0, ((m.enter ok).2.spend 1).2)

set_option maxHeartbeats 1000000 in
theorem rsyncDir_any {T : Nat → Nat} {w : World} {d : Nat} {m : Rm} (h : Re T w d m) :
    Calls Try.prog 44 #[.pointer (some ⟨d, 0, none⟩)] w fun e w' => e = .returned (.int .i64 m.syncDir.1) ∧ ∃ T', Re T' w' d m.syncDir.2 ∧ Goes T T' w w' := by
  obtain ⟨fb, vf, vn, vs, vc, h⟩ := h
  have HH : Hid (Rd T w d fb m vf vn vs vc) := h
  have c9 := (h.top.2 9 (by omega)).1
  simp only [rcell] at c9
  clear h
  cases hd : m.down with
  | true =>
    rw [hd] at c9
    have e : m.syncDir = (30, m) := by simp [Rm.syncDir, renter_d hd]
    rw [e]
    go_enter Try.func44, Try.ntmps44
    go_wp2
    go_ret
    exact ⟨rfl, T, Re.of HH.out, Goes.refl _ _⟩
  | false =>
    rw [hd] at c9
    cases hf : m.rig.fails.1 with
    | true =>
      have e : m.syncDir = (31, m.fails) := by simp [Rm.syncDir, renter_f hd hf]
      rw [e]
      go_enter Try.func44, Try.ntmps44
      go_wp2_with (go_at_call 63; refine (rrigged_any HH.out).mono ?_; rintro e w1 ⟨rfl, h1, g1⟩; rw [hf]; have H1 : Hid (Rd T w1 d fb m.fails vf vn vs vc ∧ Goes T T w w1) := ⟨h1, g1⟩; clear h1 g1)
      go_ret
      exact ⟨rfl, T, Re.of H1.out.1, H1.out.2⟩
    | false =>
      have e0 : m.syncDir = if 0 < (m.fails.spend 1).1 then (30, (m.fails.spend 1).2) else (0, { (m.fails.spend 1).2 with su := m.now, ch := [] }) := by simp [Rm.syncDir, renter_o hd hf]
      rw [e0]
      by_cases hs : 0 < (m.fails.spend 1).1
      · have hs' : decide (0 < (m.fails.spend 1).1) = true := decide_eq_true hs
        rw [if_pos hs]
        go_enter Try.func44, Try.ntmps44
        go_wp2_with (first
          | (go_at_call 63; refine (rrigged_any HH.out).mono ?_; rintro e w1 ⟨rfl, h1, g1⟩; rw [hf]; have H1 : Hid (Rd T w1 d fb m.fails vf vn vs vc ∧ Goes T T w w1) := ⟨h1, g1⟩; clear h1 g1)
          | (go_at_call 65; refine (rfalls_any H1.out.1 1 (by omega)).mono ?_; rintro e w2 ⟨rfl, h2, g2⟩; rw [hs']; have H2 : Hid (Rd T w2 d fb (m.fails.spend 1).2 vf vn vs vc ∧ Goes T T w w2) := ⟨h2, H1.out.2.trans g2⟩; clear h2 g2))
        go_ret
        exact ⟨rfl, T, Re.of H2.out.1, H2.out.2⟩
      · have hs' : decide (0 < (m.fails.spend 1).1) = false := decide_eq_false hs
        rw [if_neg hs]
        go_enter Try.func44, Try.ntmps44
        go_wp2_with (first
          | (go_at_call 63; refine (rrigged_any HH.out).mono ?_; rintro e w1 ⟨rfl, h1, g1⟩; rw [hf]; have H1 : Hid (Rd T w1 d fb m.fails vf vn vs vc ∧ Goes T T w w1) := ⟨h1, g1⟩; clear h1 g1)
          | (go_at_call 65; refine (rfalls_any H1.out.1 1 (by omega)).mono ?_; rintro e w2 ⟨rfl, h2, g2⟩; rw [hs']; have H2 : Hid (Rd T w2 d fb (m.fails.spend 1).2 vf vn vs vc ∧ Goes T T w w2) := ⟨h2, H1.out.2.trans g2⟩; have t2 : w2.cell? ⟨d, 2, none⟩ = some vn := (h2.top.2 2 (by omega)).1; clear h2 g2)
          | (go_at_call 58; refine (rtwin_any 0 vn m.now.length m.now w2 H2.out.1.dir (by have := H2.out.1.most; show m.now.length ≤ _; have : m.now.length ≤ 9000000 := this; omega)).mono ?_; rintro e w3 ⟨v3, rfl, h3, b3⟩; obtain ⟨a3, k3, rfl⟩ := own_slice h3; have H3 : Hid (w3.ownsRow w2.heap.size 98 2 (.slice a3 m.now.length k3) m.now.length (enRow m.now) ∧ Below w2.heap.size w2 w3) := ⟨h3, b3⟩; have t3 := ((H2.out.1.below b3).top.2 3 (by omega)); have t4 := ((H2.out.1.below b3).top.2 4 (by omega)); simp only [rcell] at t3 t4; have z3 := t3.1; have z3' := t3.2; have z4 := t4.1; have z4' := t4.2; clear h3 b3 t3 t4))
        go_ret
        obtain ⟨T5, h5, g5⟩ := H2.out.1.sured2 (w2 := w3) H3.out.1 H3.out.2
        obtain ⟨T6, h6, g6⟩ := h5.chgs (l' := []) (v' := .slice none 0 0) (World.ownsRow_nil _ _ _ _) (Keep.refl _ _) (fun g hg => by cases hg)
        exact ⟨rfl, T6, Re.of h6, (H2.out.2.trans g5).trans g6⟩
end Dsk
end Go.Proofs.Ytbloifnibgdeoaa
namespace Go.Proofs.Ytbloifnibgdeoaa
namespace Dsk
open Go.RowKit Go.Shelf Go.Maps Go.Sort Byt Laws
set_option linter.unusedVariables false
set_option maxRecDepth 100000
set_option linter.unusedSimpArgs false

/-- All bytes of file i are sure. -/
def Rm.sure (m : Rm) (i : Nat) : Rm := match m.fl[i]? with
  | some f => { m with fl := m.fl.set i { f with sure := f.data.length } }
  | none => m
def Rm.sync (m : Rm) (s : ByteArray) : Int × Rm :=
  if (m.reach (okN s) (ky s)).1 = 0 then (0, match look m.now (ky s) with
    | some i => (m.reach (okN s) (ky s)).2.sure i
    | none => (m.reach (okN s) (ky s)).2)
  else m.reach (okN s) (ky s)
set_option maxHeartbeats 1000000 in
theorem rsync_any {T : Nat → Nat} {w : World} {d : Nat} {m : Rm} (h : Re T w d m) (s : ByteArray) (hs : s.size ≤ maxLen) :
    Calls Try.prog 41 #[.pointer (some ⟨d, 0, none⟩), .string s] w fun e w' => e = .returned (.int .i64 (m.sync s).1) ∧ ∃ T', Re T' w' d (m.sync s).2 ∧ Goes T T' w w' := by
  obtain ⟨fb, vf, vn, vs, vc, h⟩ := h
  have HH : Hid (Rd T w d fb m vf vn vs vc) := h
  have c9 := (h.top.2 9 (by omega)).1
  simp only [rcell] at c9
  have hs9 : s.size ≤ 9223372036854775807 := by unfold maxLen at hs; omega
  clear h
  cases hd : m.down with
  | true =>
    rw [hd] at c9
    have e : m.sync s = (30, m) := by simp [Rm.sync, Rm.reach, renter_d hd]
    rw [e]
    go_enter Try.func41, Try.ntmps41
    go_wp2
    go_ret
    exact ⟨rfl, T, Re.of HH.out, Goes.refl _ _⟩
  | false =>
    rw [hd] at c9
    cases hok : okN s with
    | false =>
      have e : m.sync s = (33, m) := by simp [Rm.sync, Rm.reach, renter_n hd, hok]
      rw [e]
      go_enter Try.func41, Try.ntmps41
      go_wp2_with (go_at_call 62; refine (ref_right s _ hs9).mono ?_; rintro e w5 ⟨rfl, hw5⟩; have hw6 := hw5.symm; clear hw5; subst hw6; rw [hok])
      go_ret
      exact ⟨rfl, T, Re.of HH.out, Goes.refl _ _⟩
    | true =>
      cases hf : m.rig.fails.1 with
      | true =>
        have e : m.sync s = (31, m.fails) := by simp [Rm.sync, Rm.reach, renter_f hd hf, hok]
        rw [e]
        go_enter Try.func41, Try.ntmps41
        go_wp2_with (first | (go_at_call 62; refine (ref_right s _ hs9).mono ?_; rintro e w5 ⟨rfl, hw5⟩; have hw6 := hw5.symm; clear hw5; subst hw6; rw [hok]) | (go_at_call 63; refine (rrigged_any HH.out).mono ?_; rintro e w1 ⟨rfl, h1, g1⟩; rw [hf]; have H1 : Hid (Rd T w1 d fb m.fails vf vn vs vc ∧ Goes T T w w1) := ⟨h1, g1⟩; clear h1 g1))
        go_ret
        exact ⟨rfl, T, Re.of H1.out.1, H1.out.2⟩
      | false =>
        cases hl : look m.now (ky s) with
        | none =>
          have e : m.sync s = (34, m.fails) := by simp [Rm.sync, Rm.reach, renter_o hd hf, hok, hl]
          rw [e]
          go_enter Try.func41, Try.ntmps41
          go_wp2_with (first | (go_at_call 62; refine (ref_right s _ hs9).mono ?_; rintro e w5 ⟨rfl, hw5⟩; have hw6 := hw5.symm; clear hw5; subst hw6; rw [hok]) | (go_at_call 63; refine (rrigged_any HH.out).mono ?_; rintro e w1 ⟨rfl, h1, g1⟩; rw [hf]; have H1 : Hid (Rd T w1 d fb m.fails vf vn vs vc ∧ Goes T T w w1) := ⟨h1, g1⟩; clear h1 g1) | (go_at_call 64; refine (rat_any H1.out.1 s).mono ?_; rintro e w2 ⟨rfl, b2⟩; rw [show pv fb (look m.fails.now s.data.toList) = .pointer none from by rw [show look m.fails.now s.data.toList = none from hl]; rfl]; have H2 : Hid (Rd T w2 d fb m.fails vf vn vs vc ∧ Goes T T w w2) := ⟨H1.out.1.below b2, H1.out.2.trans (Goes.below b2)⟩; clear b2))
          go_ret
          exact ⟨rfl, T, Re.of H2.out.1, H2.out.2⟩
        | some i =>
          by_cases hs1 : 0 < (m.fails.spend 1).1
          · have hs' : decide (0 < (m.fails.spend 1).1) = true := decide_eq_true hs1
            have e : m.sync s = (30, (m.fails.spend 1).2) := by simp [Rm.sync, Rm.reach, renter_o hd hf, hok, hl, hs1]
            rw [e]
            go_enter Try.func41, Try.ntmps41
            go_wp2_with (first | (go_at_call 62; refine (ref_right s _ hs9).mono ?_; rintro e w5 ⟨rfl, hw5⟩; have hw6 := hw5.symm; clear hw5; subst hw6; rw [hok]) | (go_at_call 63; refine (rrigged_any HH.out).mono ?_; rintro e w1 ⟨rfl, h1, g1⟩; rw [hf]; have H1 : Hid (Rd T w1 d fb m.fails vf vn vs vc ∧ Goes T T w w1) := ⟨h1, g1⟩; clear h1 g1) | (go_at_call 64; refine (rat_any H1.out.1 s).mono ?_; rintro e w2 ⟨rfl, b2⟩; rw [show pv fb (look m.fails.now s.data.toList) = .pointer (some ⟨fb i, 0, none⟩) from by rw [show look m.fails.now s.data.toList = some i from hl]; rfl]; have H2 : Hid (Rd T w2 d fb m.fails vf vn vs vc ∧ Goes T T w w2) := ⟨H1.out.1.below b2, H1.out.2.trans (Goes.below b2)⟩; clear b2) | (go_at_call 65; refine (rfalls_any H2.out.1 1 (by omega)).mono ?_; rintro e w3 ⟨rfl, h3, g3⟩; rw [hs']; have H3 : Hid (Rd T w3 d fb (m.fails.spend 1).2 vf vn vs vc ∧ Goes T T w w3) := ⟨h3, H2.out.2.trans g3⟩; clear h3 g3))
            go_ret
            exact ⟨rfl, T, Re.of H3.out.1, H3.out.2⟩
          · have hs' : decide (0 < (m.fails.spend 1).1) = false := decide_eq_false hs1
            go_enter Try.func41, Try.ntmps41
            go_upto_region 13 with (first | (go_at_call 62; refine (ref_right s _ hs9).mono ?_; rintro e w5 ⟨rfl, hw5⟩; have hw6 := hw5.symm; clear hw5; subst hw6; rw [hok]) | (go_at_call 63; refine (rrigged_any HH.out).mono ?_; rintro e w1 ⟨rfl, h1, g1⟩; rw [hf]; have H1 : Hid (Rd T w1 d fb m.fails vf vn vs vc ∧ Goes T T w w1) := ⟨h1, g1⟩; clear h1 g1) | (go_at_call 64; refine (rat_any H1.out.1 s).mono ?_; rintro e w2 ⟨rfl, b2⟩; rw [show pv fb (look m.fails.now s.data.toList) = .pointer (some ⟨fb i, 0, none⟩) from by rw [show look m.fails.now s.data.toList = some i from hl]; rfl]; have H2 : Hid (Rd T w2 d fb m.fails vf vn vs vc ∧ Goes T T w w2) := ⟨H1.out.1.below b2, H1.out.2.trans (Goes.below b2)⟩; clear b2) | (go_at_call 65; refine (rfalls_any H2.out.1 1 (by omega)).mono ?_; rintro e w3 ⟨rfl, h3, g3⟩; rw [hs']; have H3 : Hid (Rd T w3 d fb (m.fails.spend 1).2 vf vn vs vc ∧ Goes T T w w3) := ⟨h3, H2.out.2.trans g3⟩; clear h3 g3))
            obtain ⟨f, hfl⟩ : ∃ f, m.fl[i]? = some f := ⟨_, List.getElem?_eq_getElem (HH.out.ids _ (look_some hl))⟩
            obtain ⟨a, c, hfa⟩ := H3.out.1.file i f hfl
            have HF : Hid (m.fl[i]? = some f ∧ FileAt T w3 (fb i) i f a c) := ⟨hfl, hfa⟩
            have cf0 := (hfa.fld.2 0 (by omega)).1
            have cf1 := (hfa.fld.2 1 (by omega)).1
            have ff1 := (hfa.fld.2 1 (by omega)).2
            simp only [fcell, if_true, Nat.one_ne_zero, if_false] at cf0 cf1
            clear hfl hfa
            go_wp2
            go_ret
            have e1 : m.sync s = (0, (m.fails.spend 1).2.sure i) := by simp [Rm.sync, Rm.reach, renter_o hd hf, hok, hl, hs1]
            have e2 : (m.fails.spend 1).2.sure i = { (m.fails.spend 1).2 with fl := m.fl.set i { f with sure := f.data.length } } := by
              unfold Rm.sure
              rw [show (m.fails.spend 1).2.fl[i]? = some f from HF.out.1]
              rfl
            rw [e1, e2]
            have hk := Keep.set w3 (fb i) 1 (.int .i64 (f.data.length : Nat))
            have hfa := HF.out.2
            have htf := hfa.tag
            have hfa' : FileAt T (w3.setCell ⟨fb i, 1, none⟩ (.int .i64 (f.data.length : Nat))) (fb i) i { f with sure := f.data.length } a c := by
              refine ⟨htf, ?_, hfa.own.keep hk ?_, hfa.mine, Nat.le_refl _, hfa.big⟩
              · refine (hfa.fld.set 1 (by omega) _).eq ?_
                intro j hj
                match j, hj with
                | 0, _ => rfl
                | 1, _ => rfl
              · intro g hg hm
                simp at hm
                cases a with
                | none => cases hg
                | some ad =>
                  cases hg
                  have := hfa.mine ad rfl
                  rw [hm, htf] at this; omega
            obtain ⟨h6, g6⟩ := H3.out.1.setFile (f' := { f with sure := f.data.length }) HF.out.1 hk hfa'
            exact ⟨rfl, T, Re.of h6, H3.out.2.trans g6⟩
end Dsk
end Go.Proofs.Ytbloifnibgdeoaa
namespace Go.Proofs.Ytbloifnibgdeoaa
namespace Dsk
open Go.RowKit Go.Shelf Go.Maps Go.Sort Byt Laws
set_option linter.unusedVariables false
set_option maxRecDepth 100000
set_option linter.unusedSimpArgs false

theorem infoRC : (Try.prog.info? 119).map (fun i => (i.zero, i.size, i.bytes)) = some (some (.agg #[.int .i64 0, .string ByteArray.empty, .string ByteArray.empty, .int .i64 0]), 4, 48) := by kernel_rfl
def Rm.delete (m : Rm) (s : ByteArray) : Int × Rm :=
  if (m.reach (okN s) (ky s)).1 = 0 then (0, { (m.reach (okN s) (ky s)).2 with now := del m.now (ky s), ch := m.ch ++ [⟨3, s, ⟨#[]⟩, 0⟩] })
  else m.reach (okN s) (ky s)
set_option maxHeartbeats 1000000 in
theorem rdelete_any {T : Nat → Nat} {w : World} {d : Nat} {m : Rm} (h : Re T w d m) (s : ByteArray) (hs : s.size ≤ maxLen) (hch : m.ch.length ≤ 1000000) :
    Calls Try.prog 43 #[.pointer (some ⟨d, 0, none⟩), .string s] w fun e w' => e = .returned (.int .i64 (m.delete s).1) ∧ ∃ T', Re T' w' d (m.delete s).2 ∧ Goes T T' w w' := by
  obtain ⟨fb, vf, vn, vs, vc, h⟩ := h
  have HH : Hid (Rd T w d fb m vf vn vs vc) := h
  have c9 := (h.top.2 9 (by omega)).1
  simp only [rcell] at c9
  have hs9 : s.size ≤ 9223372036854775807 := by unfold maxLen at hs; omega
  clear h
  cases hd : m.down with
  | true =>
    rw [hd] at c9
    have e : m.delete s = (30, m) := by simp [Rm.delete, Rm.reach, renter_d hd]
    rw [e]
    go_enter Try.func43, Try.ntmps43
    go_wp2
    go_ret
    exact ⟨rfl, T, Re.of HH.out, Goes.refl _ _⟩
  | false =>
    rw [hd] at c9
    cases hok : okN s with
    | false =>
      have e : m.delete s = (33, m) := by simp [Rm.delete, Rm.reach, renter_n hd, hok]
      rw [e]
      go_enter Try.func43, Try.ntmps43
      go_wp2_with (go_at_call 62; refine (ref_right s _ hs9).mono ?_; rintro e w5 ⟨rfl, hw5⟩; have hw6 := hw5.symm; clear hw5; subst hw6; rw [hok])
      go_ret
      exact ⟨rfl, T, Re.of HH.out, Goes.refl _ _⟩
    | true =>
      cases hf : m.rig.fails.1 with
      | true =>
        have e : m.delete s = (31, m.fails) := by simp [Rm.delete, Rm.reach, renter_f hd hf, hok]
        rw [e]
        go_enter Try.func43, Try.ntmps43
        go_wp2_with (first | (go_at_call 62; refine (ref_right s _ hs9).mono ?_; rintro e w5 ⟨rfl, hw5⟩; have hw6 := hw5.symm; clear hw5; subst hw6; rw [hok]) | (go_at_call 63; refine (rrigged_any HH.out).mono ?_; rintro e w1 ⟨rfl, h1, g1⟩; rw [hf]; have H1 : Hid (Rd T w1 d fb m.fails vf vn vs vc ∧ Goes T T w w1) := ⟨h1, g1⟩; clear h1 g1))
        go_ret
        exact ⟨rfl, T, Re.of H1.out.1, H1.out.2⟩
      | false =>
        cases hl : look m.now (ky s) with
        | none =>
          have e : m.delete s = (34, m.fails) := by simp [Rm.delete, Rm.reach, renter_o hd hf, hok, hl]
          rw [e]
          go_enter Try.func43, Try.ntmps43
          go_wp2_with (first | (go_at_call 62; refine (ref_right s _ hs9).mono ?_; rintro e w5 ⟨rfl, hw5⟩; have hw6 := hw5.symm; clear hw5; subst hw6; rw [hok]) | (go_at_call 63; refine (rrigged_any HH.out).mono ?_; rintro e w1 ⟨rfl, h1, g1⟩; rw [hf]; have H1 : Hid (Rd T w1 d fb m.fails vf vn vs vc ∧ Goes T T w w1) := ⟨h1, g1⟩; clear h1 g1) | (go_at_call 64; refine (rat_any H1.out.1 s).mono ?_; rintro e w2 ⟨rfl, b2⟩; rw [show pv fb (look m.fails.now s.data.toList) = .pointer none from by rw [show look m.fails.now s.data.toList = none from hl]; rfl]; have H2 : Hid (Rd T w2 d fb m.fails vf vn vs vc ∧ Goes T T w w2) := ⟨H1.out.1.below b2, H1.out.2.trans (Goes.below b2)⟩; clear b2))
          go_ret
          exact ⟨rfl, T, Re.of H2.out.1, H2.out.2⟩
        | some i =>
          by_cases hs1 : 0 < (m.fails.spend 1).1
          · have hs' : decide (0 < (m.fails.spend 1).1) = true := decide_eq_true hs1
            have e : m.delete s = (30, (m.fails.spend 1).2) := by simp [Rm.delete, Rm.reach, renter_o hd hf, hok, hl, hs1]
            rw [e]
            go_enter Try.func43, Try.ntmps43
            go_wp2_with (first | (go_at_call 62; refine (ref_right s _ hs9).mono ?_; rintro e w5 ⟨rfl, hw5⟩; have hw6 := hw5.symm; clear hw5; subst hw6; rw [hok]) | (go_at_call 63; refine (rrigged_any HH.out).mono ?_; rintro e w1 ⟨rfl, h1, g1⟩; rw [hf]; have H1 : Hid (Rd T w1 d fb m.fails vf vn vs vc ∧ Goes T T w w1) := ⟨h1, g1⟩; clear h1 g1) | (go_at_call 64; refine (rat_any H1.out.1 s).mono ?_; rintro e w2 ⟨rfl, b2⟩; rw [show pv fb (look m.fails.now s.data.toList) = .pointer (some ⟨fb i, 0, none⟩) from by rw [show look m.fails.now s.data.toList = some i from hl]; rfl]; have H2 : Hid (Rd T w2 d fb m.fails vf vn vs vc ∧ Goes T T w w2) := ⟨H1.out.1.below b2, H1.out.2.trans (Goes.below b2)⟩; clear b2) | (go_at_call 65; refine (rfalls_any H2.out.1 1 (by omega)).mono ?_; rintro e w3 ⟨rfl, h3, g3⟩; rw [hs']; have H3 : Hid (Rd T w3 d fb (m.fails.spend 1).2 vf vn vs vc ∧ Goes T T w w3) := ⟨h3, H2.out.2.trans g3⟩; clear h3 g3))
            go_ret
            exact ⟨rfl, T, Re.of H3.out.1, H3.out.2⟩
          · have hs' : decide (0 < (m.fails.spend 1).1) = false := decide_eq_false hs1
            go_enter Try.func43, Try.ntmps43
            go_upto_region 12 with (first | (go_at_call 62; refine (ref_right s _ hs9).mono ?_; rintro e w5 ⟨rfl, hw5⟩; have hw6 := hw5.symm; clear hw5; subst hw6; rw [hok]) | (go_at_call 63; refine (rrigged_any HH.out).mono ?_; rintro e w1 ⟨rfl, h1, g1⟩; rw [hf]; have H1 : Hid (Rd T w1 d fb m.fails vf vn vs vc ∧ Goes T T w w1) := ⟨h1, g1⟩; clear h1 g1) | (go_at_call 64; refine (rat_any H1.out.1 s).mono ?_; rintro e w2 ⟨rfl, b2⟩; rw [show pv fb (look m.fails.now s.data.toList) = .pointer (some ⟨fb i, 0, none⟩) from by rw [show look m.fails.now s.data.toList = some i from hl]; rfl]; have H2 : Hid (Rd T w2 d fb m.fails vf vn vs vc ∧ Goes T T w w2) := ⟨H1.out.1.below b2, H1.out.2.trans (Goes.below b2)⟩; clear b2) | (go_at_call 65; refine (rfalls_any H2.out.1 1 (by omega)).mono ?_; rintro e w3 ⟨rfl, h3, g3⟩; rw [hs']; have H3 : Hid (Rd T w3 d fb (m.fails.spend 1).2 vf vn vs vc ∧ Goes T T w w3) := ⟨h3, H2.out.2.trans g3⟩; clear h3 g3))
            have EQ : Hid (m.delete s = (0, { (m.fails.spend 1).2 with now := del m.now (ky s), ch := m.ch ++ [⟨3, s, ⟨#[]⟩, 0⟩] })) := by
              show _ = _
              simp [Rm.delete, Rm.reach, renter_o hd hf, hok, hl, hs1]
            obtain ⟨iC, hiC, y0, y1, y2⟩ := info_parts infoRC
            obtain ⟨an, cn, rfl⟩ := own_slice H3.out.1.dir
            obtain ⟨av, cv, rfl⟩ := own_slice H3.out.1.chg
            have hmost : m.now.length ≤ 9000000 := H3.out.1.most
            have hdn : ∀ {v : Value} {t : Nat}, t ≠ 1 → (∀ b, v.ownBlock = some b → T b = t) → d ∉ v.ownBlock.toList := fun ht hv hm => by have h1 := hv d (by simpa using hm); have := H3.out.1.td; omega
            have HDN : Hid (d ∉ (Value.slice an m.now.length cn).ownBlock.toList) := hdn (by omega) H3.out.1.tn
            have t2 : w3.cell? ⟨d, 2, none⟩ = some (.slice an m.now.length cn) := (H3.out.1.top.2 2 (by omega)).1
            clear hdn
            go_upto_region 13 with (go_at_call 75; refine (without_any 0 (.slice an m.now.length cn) m.now.length m.now w3 H3.out.1.dir H3.out.1.rises (by omega) s).mono ?_; rintro e w4 ⟨v4, rfl, r4, k4, b4⟩; obtain ⟨a4, c4, rfl⟩ := own_slice r4; obtain ⟨q2, q2'⟩ := (H3.out.1.top.keep k4 HDN.out).2 2 (by omega); simp only [rcell] at q2; have H4 : Hid (w4.ownsRow 0 98 2 (.slice a4 (del m.now s.data.toList).length c4) (del m.now s.data.toList).length (enRow (del m.now s.data.toList)) ∧ Keep (Value.slice an m.now.length cn).ownBlock.toList w3 w4 ∧ ∀ g, (Value.slice a4 (del m.now s.data.toList).length c4).ownBlock = some g → (Value.slice an m.now.length cn).ownBlock = some g) := ⟨r4, k4, b4⟩; clear r4 k4 b4)
            obtain ⟨T5, h5, g5⟩ := H3.out.1.dirs (l' := del m.now s.data.toList) H4.out.1 H4.out.2.1 (fun g hg => .inl (H4.out.2.2 g hg)) (rises_del H3.out.1.rises _) (fun p hp => H3.out.1.ids p (mem_del hp)) (Nat.le_trans (len_del _ _) hmost)
            have H5 : Hid (Rd T5 (w4.setCell ⟨d, 2, none⟩ (.slice a4 (del m.now s.data.toList).length c4)) d fb { (m.fails.spend 1).2 with now := del m.now s.data.toList } vf (.slice a4 (del m.now s.data.toList).length c4) vs (.slice av m.ch.length cv) ∧ Goes T T5 w (w4.setCell ⟨d, 2, none⟩ (.slice a4 (del m.now s.data.toList).length c4))) := ⟨h5, H3.out.2.trans g5⟩
            clear q2 q2' H4 h5 g5 t2
            generalize w4.setCell ⟨d, 2, none⟩ (.slice a4 (del m.now s.data.toList).length c4) = w5 at *
            have t4 : w5.cell? ⟨d, 4, none⟩ = some (.slice av m.ch.length cv) := (H5.out.1.top.2 4 (by omega)).1
            go_wp2_with (first | (at_builtin; refine wpList_app _ (by rfl) (.tmp 39) (.tmp 42) 93 (by rfl) 0 119 iC _ 4 48 Try.underlying93 hiC y0 y1 y2 rfl (by omega) (.slice av m.ch.length cv) m.ch.length (rcRow m.ch) (by rfl) ((Keep.alloc [] w5 _).own H5.out.1.chg (by simp)) ⟨w5.heap.size, 0, none⟩ 1 1 [.int .i64 3, .string s, .string ⟨#[]⟩, .int .i64 0] (by rfl) (by rfl) (World.news_of_block (heap_alloc_new w5 _)) (by intro u hu; simp at hu; rcases hu with rfl | rfl | rfl | rfl <;> rfl) (by intro _; omega) (by unfold maxLen; omega) (by omega) (Nat.zero_le _) (w5.heap.size + 1) (by simp) ?_; intro g7 c7 w7 hown7 hgr7 hat7 hlt7; have k7 : Keep (Value.slice av m.ch.length cv).ownBlock.toList w5 w7 := (Keep.alloc _ _ _).trans (Keep.grown hgr7); have H7 : Hid (w7.ownsRow 0 119 4 (.slice (some ⟨g7, 0, none⟩) (m.ch.length + 1) c7) (m.ch.length + 1) (rcRow m.ch ++ [.int .i64 3, .string s, .string ⟨#[]⟩, .int .i64 0]) ∧ Keep (Value.slice av m.ch.length cv).ownBlock.toList w5 w7 ∧ ∀ g, (Value.slice (some ⟨g7, 0, none⟩) (m.ch.length + 1) c7).ownBlock = some g → (Value.slice av m.ch.length cv).ownBlock = some g ∨ w5.heap.size ≤ g) := ⟨hown7, k7, fun g hg => by cases hg; exact hat7.imp id (by intro e; show w5.heap.size ≤ g7; omega)⟩; obtain ⟨q4, q4'⟩ := (H5.out.1.top.keep k7 (fun hm => by have h1 := H5.out.1.tc d (by simpa using hm); have := H5.out.1.td; omega)).2 4 (by omega); simp only [rcell] at q4; clear hown7 hgr7 hat7 hlt7 k7))
            go_ret
            rw [EQ.out]
            have hr7 : w7.ownsRow 0 119 4 (.slice (some ⟨g7, 0, none⟩) (m.ch.length + 1) c7) (m.ch ++ [(⟨3, s, ⟨#[]⟩, 0⟩ : Rc)]).length (rcRow (m.ch ++ [(⟨3, s, ⟨#[]⟩, 0⟩ : Rc)])) := by
              have z := H7.out.1
              rw [List.length_append]
              unfold rcRow at z ⊢
              rw [List.flatMap_append]
              exact z
            obtain ⟨T8, h8, g8⟩ := H5.out.1.chgs hr7 H7.out.2.1 H7.out.2.2
            exact ⟨rfl, T8, Re.of h8, H5.out.2.trans g8⟩
end Dsk
end Go.Proofs.Ytbloifnibgdeoaa
namespace Go.Proofs.Ytbloifnibgdeoaa
namespace Dsk
open Go.RowKit Go.Shelf Go.Maps Go.Sort Byt Laws
set_option linter.unusedVariables false
set_option maxRecDepth 100000
set_option linter.unusedSimpArgs false

def Rm.rename (m : Rm) (s t : ByteArray) : Int × Rm :=
  if (m.reach (okN s && okN t) (ky s)).1 = 0 ∧ s ≠ t then
    match look m.now (ky s) with
    | some i => (0, { (m.reach (okN s && okN t) (ky s)).2 with now := ins (del m.now (ky s)) (ky t) i, ch := m.ch ++ [⟨2, s, t, 0⟩] })
    | none => m.reach (okN s && okN t) (ky s)
  else m.reach (okN s && okN t) (ky s)
theorem len_ins_le (l : List (Key × Nat)) (k : Key) (v : Nat) : (ins l k v).length ≤ l.length + 1 := by
  induction l with
  | nil => simp [ins]
  | cons p r ih =>
    simp only [ins]
    split
    · simp
    · split
      · simp
      · simp; omega
set_option maxHeartbeats 1000000 in
theorem rrename_any {T : Nat → Nat} {w : World} {d : Nat} {m : Rm} (h : Re T w d m) (s t : ByteArray) (hs : s.size ≤ maxLen) (ht : t.size ≤ maxLen) (hch : m.ch.length ≤ 1000000) (hnw : m.now.length ≤ 8999999) :
    Calls Try.prog 42 #[.pointer (some ⟨d, 0, none⟩), .string s, .string t] w fun e w' => e = .returned (.int .i64 (m.rename s t).1) ∧ ∃ T', Re T' w' d (m.rename s t).2 ∧ Goes T T' w w' := by
  obtain ⟨fb, vf, vn, vs, vc, h⟩ := h
  obtain ⟨an, cn, rfl⟩ := own_slice h.dir
  have HH : Hid (Rd T w d fb m vf (.slice an m.now.length cn) vs vc) := h
  have c9 := (h.top.2 9 (by omega)).1
  simp only [rcell] at c9
  have hs9 : s.size ≤ 9223372036854775807 := by unfold maxLen at hs; omega
  have ht9 : t.size ≤ 9223372036854775807 := by unfold maxLen at ht; omega
  clear h
  cases hd : m.down with
  | true =>
    rw [hd] at c9
    have e : m.rename s t = (30, m) := by simp [Rm.rename, Rm.reach, renter_d hd]
    rw [e]
    go_enter Try.func42, Try.ntmps42
    go_wp2
    go_ret
    exact ⟨rfl, T, Re.of HH.out, Goes.refl _ _⟩
  | false =>
    rw [hd] at c9
    cases hok : okN s with
    | false =>
      have e : m.rename s t = (33, m) := by simp [Rm.rename, Rm.reach, renter_n hd, hok]
      rw [e]
      go_enter Try.func42, Try.ntmps42
      go_wp2_with (go_at_call 62; refine Calls.mono (ref_right _ _ (by first | exact hs9 | exact ht9)) ?_; rintro e w5 ⟨rfl, hw5⟩; have hw6 := hw5.symm; clear hw5; subst hw6; first | rw [hok] | rw [hok2])
      go_ret
      exact ⟨rfl, T, Re.of HH.out, Goes.refl _ _⟩
    | true =>
      cases hok2 : okN t with
      | false =>
        have e : m.rename s t = (33, m) := by simp [Rm.rename, Rm.reach, renter_n hd, hok, hok2]
        rw [e]
        go_enter Try.func42, Try.ntmps42
        go_wp2_with (first | (go_at_call 62; refine Calls.mono (ref_right _ _ (by first | exact hs9 | exact ht9)) ?_; rintro e w5 ⟨rfl, hw5⟩; have hw6 := hw5.symm; clear hw5; subst hw6; first | rw [hok] | rw [hok2]) | fail)
        go_ret
        exact ⟨rfl, T, Re.of HH.out, Goes.refl _ _⟩
      | true =>
        cases hf : m.rig.fails.1 with
        | true =>
          have e : m.rename s t = (31, m.fails) := by simp [Rm.rename, Rm.reach, renter_f hd hf, hok, hok2]
          rw [e]
          go_enter Try.func42, Try.ntmps42
          go_wp2_with (first | (go_at_call 62; refine Calls.mono (ref_right _ _ (by first | exact hs9 | exact ht9)) ?_; rintro e w5 ⟨rfl, hw5⟩; have hw6 := hw5.symm; clear hw5; subst hw6; first | rw [hok] | rw [hok2]) | fail | (go_at_call 63; refine (rrigged_any HH.out).mono ?_; rintro e w1 ⟨rfl, h1, g1⟩; rw [hf]; have H1 : Hid (Rd T w1 d fb m.fails vf (.slice an m.now.length cn) vs vc ∧ Goes T T w w1) := ⟨h1, g1⟩; have u2 : w1.cell? ⟨d, 2, none⟩ = some (.slice an m.now.length cn) := (h1.top.2 2 (by omega)).1; clear h1 g1))
          go_ret
          exact ⟨rfl, T, Re.of H1.out.1, H1.out.2⟩
        | false =>
          cases hl : look m.now (ky s) with
          | none =>
            have e : m.rename s t = (34, m.fails) := by simp [Rm.rename, Rm.reach, renter_o hd hf, hok, hok2, hl]
            rw [e]
            go_enter Try.func42, Try.ntmps42
            go_wp2_with (first | (go_at_call 62; refine Calls.mono (ref_right _ _ (by first | exact hs9 | exact ht9)) ?_; rintro e w5 ⟨rfl, hw5⟩; have hw6 := hw5.symm; clear hw5; subst hw6; first | rw [hok] | rw [hok2]) | fail | (go_at_call 63; refine (rrigged_any HH.out).mono ?_; rintro e w1 ⟨rfl, h1, g1⟩; rw [hf]; have H1 : Hid (Rd T w1 d fb m.fails vf (.slice an m.now.length cn) vs vc ∧ Goes T T w w1) := ⟨h1, g1⟩; have u2 : w1.cell? ⟨d, 2, none⟩ = some (.slice an m.now.length cn) := (h1.top.2 2 (by omega)).1; clear h1 g1) | (go_at_call 73; refine (find_any an m.now.length cn m.now w1 H1.out.1.rises (enR_own H1.out.1.dir).2.2 rfl (by omega) (enR_own H1.out.1.dir).2.1 s).mono ?_; rintro e w2 ⟨rfl, q2, hw2⟩; rw [show look m.now s.data.toList = none from hl]; have H2 : Hid (Rd T w2 d fb m.fails vf (.slice an m.now.length cn) vs vc ∧ Goes T T w w2) := (by have b2 : Below w1.heap.size w1 w2 := (by rw [hw2]; exact below_drewN (Below.refl _ _) q2); exact ⟨H1.out.1.below b2, H1.out.2.trans (Goes.below b2)⟩); clear hw2))
            go_ret
            exact ⟨rfl, T, Re.of H2.out.1, H2.out.2⟩
          | some i =>
            by_cases hs1 : 0 < (m.fails.spend 1).1
            · have hs' : decide (0 < (m.fails.spend 1).1) = true := decide_eq_true hs1
              have e : m.rename s t = (30, (m.fails.spend 1).2) := by simp [Rm.rename, Rm.reach, renter_o hd hf, hok, hok2, hl, hs1]
              rw [e]
              go_enter Try.func42, Try.ntmps42
              go_wp2_with (first | (go_at_call 62; refine Calls.mono (ref_right _ _ (by first | exact hs9 | exact ht9)) ?_; rintro e w5 ⟨rfl, hw5⟩; have hw6 := hw5.symm; clear hw5; subst hw6; first | rw [hok] | rw [hok2]) | fail | (go_at_call 63; refine (rrigged_any HH.out).mono ?_; rintro e w1 ⟨rfl, h1, g1⟩; rw [hf]; have H1 : Hid (Rd T w1 d fb m.fails vf (.slice an m.now.length cn) vs vc ∧ Goes T T w w1) := ⟨h1, g1⟩; have u2 : w1.cell? ⟨d, 2, none⟩ = some (.slice an m.now.length cn) := (h1.top.2 2 (by omega)).1; clear h1 g1) | (go_at_call 73; refine (find_any an m.now.length cn m.now w1 H1.out.1.rises (enR_own H1.out.1.dir).2.2 rfl (by omega) (enR_own H1.out.1.dir).2.1 s).mono ?_; rintro e w2 ⟨rfl, q2, hw2⟩; rw [show look m.now s.data.toList = some i from hl]; have H2 : Hid (Rd T w2 d fb m.fails vf (.slice an m.now.length cn) vs vc ∧ Goes T T w w2) := (by have b2 : Below w1.heap.size w1 w2 := (by rw [hw2]; exact below_drewN (Below.refl _ _) q2); exact ⟨H1.out.1.below b2, H1.out.2.trans (Goes.below b2)⟩); clear hw2) | (go_at_call 65; refine (rfalls_any H2.out.1 1 (by omega)).mono ?_; rintro e w3 ⟨rfl, h3, g3⟩; rw [hs']; have H3 : Hid (Rd T w3 d fb (m.fails.spend 1).2 vf (.slice an m.now.length cn) vs vc ∧ Goes T T w w3) := ⟨h3, H2.out.2.trans g3⟩; clear h3 g3))
              go_ret
              exact ⟨rfl, T, Re.of H3.out.1, H3.out.2⟩
            · have hs' : decide (0 < (m.fails.spend 1).1) = false := decide_eq_false hs1
              by_cases hst : s = t
              · subst hst
                have e : m.rename s s = (0, (m.fails.spend 1).2) := by simp [Rm.rename, Rm.reach, renter_o hd hf, hok, hok2, hl, hs1]
                rw [e]
                go_enter Try.func42, Try.ntmps42
                go_wp2_with (first | (go_at_call 62; refine Calls.mono (ref_right _ _ (by first | exact hs9 | exact ht9)) ?_; rintro e w5 ⟨rfl, hw5⟩; have hw6 := hw5.symm; clear hw5; subst hw6; first | rw [hok] | rw [hok2]) | fail | (go_at_call 63; refine (rrigged_any HH.out).mono ?_; rintro e w1 ⟨rfl, h1, g1⟩; rw [hf]; have H1 : Hid (Rd T w1 d fb m.fails vf (.slice an m.now.length cn) vs vc ∧ Goes T T w w1) := ⟨h1, g1⟩; have u2 : w1.cell? ⟨d, 2, none⟩ = some (.slice an m.now.length cn) := (h1.top.2 2 (by omega)).1; clear h1 g1) | (go_at_call 73; refine (find_any an m.now.length cn m.now w1 H1.out.1.rises (enR_own H1.out.1.dir).2.2 rfl (by omega) (enR_own H1.out.1.dir).2.1 s).mono ?_; rintro e w2 ⟨rfl, q2, hw2⟩; rw [show look m.now s.data.toList = some i from hl]; have H2 : Hid (Rd T w2 d fb m.fails vf (.slice an m.now.length cn) vs vc ∧ Goes T T w w2) := (by have b2 : Below w1.heap.size w1 w2 := (by rw [hw2]; exact below_drewN (Below.refl _ _) q2); exact ⟨H1.out.1.below b2, H1.out.2.trans (Goes.below b2)⟩); clear hw2) | (go_at_call 65; refine (rfalls_any H2.out.1 1 (by omega)).mono ?_; rintro e w3 ⟨rfl, h3, g3⟩; rw [hs']; have H3 : Hid (Rd T w3 d fb (m.fails.spend 1).2 vf (.slice an m.now.length cn) vs vc ∧ Goes T T w w3) := ⟨h3, H2.out.2.trans g3⟩; clear h3 g3))
                go_ret
                exact ⟨rfl, T, Re.of H3.out.1, H3.out.2⟩
              · have hst2 : ¬ s.toList = t.toList := fun e => hst (ByteArray.ext (Array.toList_inj.1 (by rw [← ByteArray.toList_eq, ← ByteArray.toList_eq]; exact e)))
                have hst3 : (s.toList == t.toList) = false := by simp [hst2]
                have EQ : Hid (m.rename s t = (0, { (m.fails.spend 1).2 with now := ins (del m.now (ky s)) (ky t) i, ch := m.ch ++ [⟨2, s, t, 0⟩] })) := by
                  show _ = _
                  simp [Rm.rename, Rm.reach, renter_o hd hf, hok, hok2, hl, hs1, hst]
                have hpl := plc_some HH.out.rises hl
                have HPL : Hid (m.now[plc m.now (ky s)]? = some (ky s, i)) := hpl
                clear hpl
                go_enter Try.func42, Try.ntmps42
                go_upto_region 13 with (first | (go_at_call 62; refine Calls.mono (ref_right _ _ (by first | exact hs9 | exact ht9)) ?_; rintro e w5 ⟨rfl, hw5⟩; have hw6 := hw5.symm; clear hw5; subst hw6; first | rw [hok] | rw [hok2]) | fail | (go_at_call 63; refine (rrigged_any HH.out).mono ?_; rintro e w1 ⟨rfl, h1, g1⟩; rw [hf]; have H1 : Hid (Rd T w1 d fb m.fails vf (.slice an m.now.length cn) vs vc ∧ Goes T T w w1) := ⟨h1, g1⟩; have u2 : w1.cell? ⟨d, 2, none⟩ = some (.slice an m.now.length cn) := (h1.top.2 2 (by omega)).1; clear h1 g1) | (go_at_call 73; refine (find_any an m.now.length cn m.now w1 H1.out.1.rises (enR_own H1.out.1.dir).2.2 rfl (by omega) (enR_own H1.out.1.dir).2.1 s).mono ?_; rintro e w2 ⟨rfl, q2, hw2⟩; rw [show look m.now s.data.toList = some i from hl]; have H2 : Hid (Rd T w2 d fb m.fails vf (.slice an m.now.length cn) vs vc ∧ Goes T T w w2) := (by have b2 : Below w1.heap.size w1 w2 := (by rw [hw2]; exact below_drewN (Below.refl _ _) q2); exact ⟨H1.out.1.below b2, H1.out.2.trans (Goes.below b2)⟩); clear hw2) | (go_at_call 65; refine (rfalls_any H2.out.1 1 (by omega)).mono ?_; rintro e w3 ⟨rfl, h3, g3⟩; rw [hs']; have H3 : Hid (Rd T w3 d fb (m.fails.spend 1).2 vf (.slice an m.now.length cn) vs vc ∧ Goes T T w w3) := ⟨h3, H2.out.2.trans g3⟩; clear h3 g3))
                obtain ⟨iC, hiC, y0, y1, y2⟩ := info_parts infoRC
                obtain ⟨av, cv, rfl⟩ := own_slice H3.out.1.chg
                have hmost : m.now.length ≤ 9000000 := H3.out.1.most
                have hdn : ∀ {v : Value} {t : Nat}, t ≠ 1 → (∀ b, v.ownBlock = some b → T b = t) → d ∉ v.ownBlock.toList := fun ht hv hm => by have h1 := hv d (by simpa using hm); have := H3.out.1.td; omega
                have HDN : Hid (d ∉ (Value.slice an m.now.length cn).ownBlock.toList) := hdn (by omega) H3.out.1.tn
                have t2 : w3.cell? ⟨d, 2, none⟩ = some (.slice an m.now.length cn) := (H3.out.1.top.2 2 (by omega)).1
                obtain ⟨ge, e2, x3, x4, x5, _, p3⟩ := en_at H3.out.1.dir HPL.out
                have HIDI : Hid (i < m.fl.length) := HH.out.ids _ (List.mem_of_getElem? HPL.out)
                rw [show plc m.now s.data.toList = plc m.now (ky s) from rfl]
                generalize plc m.now (ky s) = pl at *
                subst e2
                have x3' : (pl : Int) < (m.now.length : Int) := by omega
                clear hdn u2
                go_upto_region 16 with (first
                  | (go_at_call 75; refine (without_any 0 (.slice (some ⟨ge, 0, none⟩) m.now.length cn) m.now.length m.now w3 H3.out.1.dir H3.out.1.rises (by omega) s).mono ?_; rintro e w4 ⟨v4, rfl, r4, k4, b4⟩; obtain ⟨a4, c4, rfl⟩ := own_slice r4; have H4 : Hid (w4.ownsRow 0 98 2 (.slice a4 (del m.now s.data.toList).length c4) (del m.now s.data.toList).length (enRow (del m.now s.data.toList)) ∧ Keep (Value.slice (some ⟨ge, 0, none⟩) m.now.length cn).ownBlock.toList w3 w4 ∧ ∀ g, (Value.slice a4 (del m.now s.data.toList).length c4).ownBlock = some g → (Value.slice (some ⟨ge, 0, none⟩) m.now.length cn).ownBlock = some g) := ⟨r4, k4, b4⟩; clear r4 k4 b4)
                  | (go_at_call 66; refine (with_any 0 (.slice a4 (del m.now s.data.toList).length c4) (del m.now s.data.toList).length (del m.now s.data.toList) w4 H4.out.1 (Nat.zero_le _) (rises_del H3.out.1.rises _) (by have := len_del m.now s.data.toList; omega) t i).mono ?_; rintro e w6 ⟨v6, rfl, r6, k6, b6⟩; obtain ⟨a6, c6, rfl⟩ := own_slice r6; have kk6 : Keep (Value.slice (some ⟨ge, 0, none⟩) m.now.length cn).ownBlock.toList w3 w6 := H4.out.2.1.trans (k6.mono (by intro x hx; simp only [Option.mem_toList] at hx ⊢; exact H4.out.2.2 x hx)); obtain ⟨q2, q2'⟩ := (H3.out.1.top.keep kk6 HDN.out).2 2 (by omega); simp only [rcell] at q2; have H6 : Hid (w6.ownsRow 0 98 2 (.slice a6 (ins (del m.now s.data.toList) t.data.toList i).length c6) (ins (del m.now s.data.toList) t.data.toList i).length (enRow (ins (del m.now s.data.toList) t.data.toList i)) ∧ Keep (Value.slice (some ⟨ge, 0, none⟩) m.now.length cn).ownBlock.toList w3 w6 ∧ ∀ g, (Value.slice a6 (ins (del m.now s.data.toList) t.data.toList i).length c6).ownBlock = some g → (Value.slice (some ⟨ge, 0, none⟩) m.now.length cn).ownBlock = some g ∨ w3.heap.size ≤ g) := ⟨r6, kk6, fun g hg => by rcases b6 g hg with h | h; exact .inl (H4.out.2.2 g h); exact .inr (Nat.le_trans H4.out.2.1.size h)⟩; clear r6 k6 b6 kk6))
                obtain ⟨T5, h5, g5⟩ := H3.out.1.dirs (l' := ins (del m.now s.data.toList) t.data.toList i) H6.out.1 H6.out.2.1 H6.out.2.2 (rises_ins (rises_del H3.out.1.rises _) _ _) (fun p hp => by rcases ins_mem hp with rfl | hp; exact HIDI.out; exact H3.out.1.ids p (mem_del hp)) (by have z1 := len_ins_le (del m.now s.data.toList) t.data.toList i; have z2 := len_del m.now s.data.toList; omega)
                have H5 : Hid (Rd T5 (w6.setCell ⟨d, 2, none⟩ (.slice a6 (ins (del m.now s.data.toList) t.data.toList i).length c6)) d fb { (m.fails.spend 1).2 with now := ins (del m.now s.data.toList) t.data.toList i } vf (.slice a6 (ins (del m.now s.data.toList) t.data.toList i).length c6) vs (.slice av m.ch.length cv) ∧ Goes T T5 w (w6.setCell ⟨d, 2, none⟩ (.slice a6 (ins (del m.now s.data.toList) t.data.toList i).length c6))) := ⟨h5, H3.out.2.trans g5⟩
                clear q2 q2' H6 H4 h5 g5 t2 p3
                generalize w6.setCell ⟨d, 2, none⟩ (.slice a6 (ins (del m.now s.data.toList) t.data.toList i).length c6) = w5 at *
                have t4 : w5.cell? ⟨d, 4, none⟩ = some (.slice av m.ch.length cv) := (H5.out.1.top.2 4 (by omega)).1
                go_wp2_with (first | (at_builtin; refine wpList_app _ (by rfl) (.tmp 70) (.tmp 74) 93 (by rfl) 0 119 iC _ 4 48 Try.underlying93 hiC y0 y1 y2 rfl (by omega) (.slice av m.ch.length cv) m.ch.length (rcRow m.ch) (by rfl) ((Keep.alloc [] w5 _).own H5.out.1.chg (by simp)) ⟨w5.heap.size, 0, none⟩ 1 1 [.int .i64 2, .string s, .string t, .int .i64 0] (by rfl) (by rfl) (World.news_of_block (heap_alloc_new w5 _)) (by intro u hu; simp at hu; rcases hu with rfl | rfl | rfl | rfl <;> rfl) (by intro _; omega) (by unfold maxLen; omega) (by omega) (Nat.zero_le _) (w5.heap.size + 1) (by simp) ?_; intro g7 c7 w7 hown7 hgr7 hat7 hlt7; have k7 : Keep (Value.slice av m.ch.length cv).ownBlock.toList w5 w7 := (Keep.alloc _ _ _).trans (Keep.grown hgr7); have H7 : Hid (w7.ownsRow 0 119 4 (.slice (some ⟨g7, 0, none⟩) (m.ch.length + 1) c7) (m.ch.length + 1) (rcRow m.ch ++ [.int .i64 2, .string s, .string t, .int .i64 0]) ∧ Keep (Value.slice av m.ch.length cv).ownBlock.toList w5 w7 ∧ ∀ g, (Value.slice (some ⟨g7, 0, none⟩) (m.ch.length + 1) c7).ownBlock = some g → (Value.slice av m.ch.length cv).ownBlock = some g ∨ w5.heap.size ≤ g) := ⟨hown7, k7, fun g hg => by cases hg; exact hat7.imp id (by intro e; show w5.heap.size ≤ g7; omega)⟩; obtain ⟨q4, q4'⟩ := (H5.out.1.top.keep k7 (fun hm => by have h1 := H5.out.1.tc d (by simpa using hm); have := H5.out.1.td; omega)).2 4 (by omega); simp only [rcell] at q4; clear hown7 hgr7 hat7 hlt7 k7))
                go_ret
                rw [EQ.out]
                have hr7 : w7.ownsRow 0 119 4 (.slice (some ⟨g7, 0, none⟩) (m.ch.length + 1) c7) (m.ch ++ [(⟨2, s, t, 0⟩ : Rc)]).length (rcRow (m.ch ++ [(⟨2, s, t, 0⟩ : Rc)])) := by
                  have z := H7.out.1
                  rw [List.length_append]
                  unfold rcRow at z ⊢
                  rw [List.flatMap_append]
                  exact z
                obtain ⟨T8, h8, g8⟩ := H5.out.1.chgs hr7 H7.out.2.1 H7.out.2.2
                exact ⟨rfl, T8, Re.of h8, H5.out.2.trans g8⟩
end Dsk
end Go.Proofs.Ytbloifnibgdeoaa
namespace Go.Proofs.Ytbloifnibgdeoaa
namespace Dsk
open Go.RowKit Go.Shelf Go.Maps Go.Sort Byt Laws
set_option linter.unusedVariables false
set_option maxRecDepth 100000
set_option linter.unusedSimpArgs false

theorem HIDC {p : Prop} (h : p) : Hid p := h
theorem infoPG : (Try.prog.info? 96).map (fun i => (i.zero, i.size, i.bytes)) = some (some (.pointer none), 1, 8) := by kernel_rfl
theorem cell_of' {W : World} {b i : Nat} {cs : Array Value} {t : TypeId} (h : W.heap[b]? = some (.cells cs t)) : W.cell? ⟨b, i, none⟩ = cs[i]? := by simp [World.cell?, h]
theorem news_2 (w : World) (o : Obj) (p : Value) (t : TypeId) : ∀ j u, [p][j]? = some u → ((w.alloc o).alloc (.cells #[p] t)).cell? ((⟨w.heap.size + 1, 0, none⟩ : Addr).add j) = some u := by
  intro j u hu
  cases j with
  | zero =>
    simp at hu
    subst hu
    have h1 : ((w.alloc o).alloc (.cells #[p] t)).heap[(w.alloc o).heap.size]? = some (.cells #[p] t) := heap_alloc_new _ _
    rw [World.size_alloc] at h1
    show World.cell? _ ⟨w.heap.size + 1, 0 + 0, none⟩ = _
    rw [cell_of' h1]
    rfl
  | succ j => simp at hu
theorem goes_of {T T' : Nat → Nat} {w w' : World} {bs : List Nat} (k : Keep bs w w') (hb : ∀ x ∈ bs, T x ≠ 0) (ht : ∀ b, b < w.heap.size → T' b = T b) : Goes T T' w w' :=
  ⟨k.os, k.tape, k.output, k.size, fun b hlt h0 => ⟨k.block b hlt (fun hm => hb b hm h0), by rw [ht b hlt]; exact h0⟩⟩
theorem wpList_lenS {P : Program} {w : World} {ops : Array Oper} {rest : List Oper} {o : Oper} {a : Act} {Q : Exit → Act → World → Prop} (hg : o.guard = none) (x : Operand) (t e : TypeId) (hop : o.op = Op.call { callee := Callee.builtin Builtin.len, args := #[x], argTypes := #[t] }) (ht : P.underlying t = some (.slice e))
    (ad : Option Addr) (n c : Nat) (hx : a.eval x = .slice ad n c) (z : Int) (hz : ((n : Nat) : Int) = z) (hK : wpList P ops Q rest (a.put o.dst (.int .i64 z)) w) : wpList P ops Q (o :: rest) a w := by
  subst hz
  refine wpList_plain hg fun K' hK' => ?_
  unfold Oper.wp
  simp [execOp, hop, resolve, invoke, builtin, hx, Builtin.len_, Builtin.lenOf, run_underlying ht, Result.andThen]
  exact hK' _ _ hK
def Rm.create (m : Rm) (s : ByteArray) : Int × Rm :=
  if (m.enter (okN s)).1 ≠ 0 then m.enter (okN s)
  else if (look m.now (ky s)).isSome then (35, (m.enter (okN s)).2)
  else if 8388608 ≤ m.now.length then (32, (m.enter (okN s)).2)
  else if 0 < ((m.enter (okN s)).2.spend 1).1 then (30, ((m.enter (okN s)).2.spend 1).2)
  else (0, { ((m.enter (okN s)).2.spend 1).2 with fl := m.fl ++ [⟨[], 0⟩], now := ins m.now (ky s) m.fl.length, ch := m.ch ++ [⟨1, s, ⟨#[]⟩, m.fl.length⟩] })
set_option maxHeartbeats 1000000 in
theorem rcreate_any {T : Nat → Nat} {w : World} {d : Nat} {m : Rm} (h : Re T w d m) (s : ByteArray) (hs : s.size ≤ maxLen) (hch : m.ch.length ≤ 1000000) (hfl : m.fl.length < 90000000) :
    Calls Try.prog 24 #[.pointer (some ⟨d, 0, none⟩), .string s] w fun e w' => e = .returned (.int .i64 (m.create s).1) ∧ ∃ T', Re T' w' d (m.create s).2 ∧ Goes T T' w w' := by
  obtain ⟨fb, vf, vn, vs, vc, h⟩ := h
  have HH : Hid (Rd T w d fb m vf vn vs vc) := h
  have c9 := (h.top.2 9 (by omega)).1
  simp only [rcell] at c9
  have hs9 : s.size ≤ 9223372036854775807 := by unfold maxLen at hs; omega
  clear h
  cases hd : m.down with
  | true =>
    rw [hd] at c9
    have e : m.create s = (30, m) := by simp [Rm.create, renter_d hd]
    rw [e]
    go_enter Try.func24, Try.ntmps24
    go_wp2
    go_ret
    exact ⟨rfl, T, Re.of HH.out, Goes.refl _ _⟩
  | false =>
    rw [hd] at c9
    cases hok : okN s with
    | false =>
      have e : m.create s = (33, m) := by simp [Rm.create, renter_n hd, hok]
      rw [e]
      go_enter Try.func24, Try.ntmps24
      go_wp2_with (go_at_call 62; refine (ref_right s _ hs9).mono ?_; rintro e w5 ⟨rfl, hw5⟩; have hw6 := hw5.symm; clear hw5; subst hw6; rw [hok])
      go_ret
      exact ⟨rfl, T, Re.of HH.out, Goes.refl _ _⟩
    | true =>
      cases hf : m.rig.fails.1 with
      | true =>
        have e : m.create s = (31, m.fails) := by simp [Rm.create, renter_f hd hf, hok]
        rw [e]
        go_enter Try.func24, Try.ntmps24
        go_wp2_with (first | (go_at_call 62; refine (ref_right s _ hs9).mono ?_; rintro e w5 ⟨rfl, hw5⟩; have hw6 := hw5.symm; clear hw5; subst hw6; rw [hok]) | (go_at_call 63; refine (rrigged_any HH.out).mono ?_; rintro e w1 ⟨rfl, h1, g1⟩; rw [hf]; have H1 : Hid (Rd T w1 d fb m.fails vf vn vs vc ∧ Goes T T w w1) := ⟨h1, g1⟩; clear h1 g1))
        go_ret
        exact ⟨rfl, T, Re.of H1.out.1, H1.out.2⟩
      | false =>
        cases hl : look m.now (ky s) with
        | some i =>
          have e : m.create s = (35, m.fails) := by simp [Rm.create, renter_o hd hf, hok, hl]
          rw [e]
          go_enter Try.func24, Try.ntmps24
          go_wp2_with (first | (go_at_call 62; refine (ref_right s _ hs9).mono ?_; rintro e w5 ⟨rfl, hw5⟩; have hw6 := hw5.symm; clear hw5; subst hw6; rw [hok]) | (go_at_call 63; refine (rrigged_any HH.out).mono ?_; rintro e w1 ⟨rfl, h1, g1⟩; rw [hf]; have H1 : Hid (Rd T w1 d fb m.fails vf vn vs vc ∧ Goes T T w w1) := ⟨h1, g1⟩; clear h1 g1) | (go_at_call 64; refine (rat_any H1.out.1 s).mono ?_; rintro e w2 ⟨rfl, b2⟩; rw [show pv fb (look m.fails.now s.data.toList) = .pointer (some ⟨fb i, 0, none⟩) from by rw [show look m.fails.now s.data.toList = some i from hl]; rfl]; have H2 : Hid (Rd T w2 d fb m.fails vf vn vs vc ∧ Goes T T w w2) := ⟨H1.out.1.below b2, H1.out.2.trans (Goes.below b2)⟩; clear b2))
          go_ret
          exact ⟨rfl, T, Re.of H2.out.1, H2.out.2⟩
        | none =>
          obtain ⟨an, cn, rfl⟩ := own_slice HH.out.dir
          obtain ⟨L, hL⟩ : ∃ L, m.now.length = L := ⟨_, rfl⟩
          have HL : Hid (m.now.length = L) := hL
          rw [hL] at HH
          by_cases hln : 8388608 ≤ L
          · obtain ⟨LI, hLI⟩ : ∃ LI : Int, ((L : Nat) : Int) = LI := ⟨_, rfl⟩
            have hln' : (8388608 : Int) ≤ LI := by omega
            have HLI : Hid (((L : Nat) : Int) = LI) := hLI
            clear hLI
            have e : m.create s = (32, m.fails) := by simp [Rm.create, renter_o hd hf, hok, hl, hL, hln]
            rw [e]
            clear hL hln
            go_enter Try.func24, Try.ntmps24
            go_wp2_with (first | (go_at_call 62; refine (ref_right s _ hs9).mono ?_; rintro e w5 ⟨rfl, hw5⟩; have hw6 := hw5.symm; clear hw5; subst hw6; rw [hok]) | (go_at_call 63; refine (rrigged_any HH.out).mono ?_; rintro e w1 ⟨rfl, h1, g1⟩; rw [hf]; have H1 : Hid (Rd T w1 d fb m.fails vf (.slice an L cn) vs vc ∧ Goes T T w w1) := ⟨h1, g1⟩; clear h1 g1) | (go_at_call 64; refine (rat_any H1.out.1 s).mono ?_; rintro e w2 ⟨rfl, b2⟩; rw [show pv fb (look m.fails.now s.data.toList) = .pointer none from by rw [show look m.fails.now s.data.toList = none from hl]; rfl]; have H2 : Hid (Rd T w2 d fb m.fails vf (.slice an L cn) vs vc ∧ Goes T T w w2) := ⟨H1.out.1.below b2, H1.out.2.trans (Goes.below b2)⟩; have t2 : w2.cell? ⟨d, 2, none⟩ = some (.slice an L cn) := ((H1.out.1.below b2).top.2 2 (by omega)).1; clear b2) | (at_len; refine wpList_lenS (by rfl) (.tmp 23) 92 98 (by rfl) Try.underlying92 an L cn (by rfl) LI HLI.out ?_))
            go_ret
            exact ⟨rfl, T, Re.of H2.out.1, H2.out.2⟩
          · obtain ⟨LI, hLI⟩ : ∃ LI : Int, ((L : Nat) : Int) = LI := ⟨_, rfl⟩
            have hln' : LI < 8388608 := by omega
            have HLI : Hid (((L : Nat) : Int) = LI) := hLI
            clear hLI
            have HLN : Hid (¬ 8388608 ≤ m.now.length) := by rw [hL]; exact hln
            clear hln hL
            by_cases hs1 : 0 < (m.fails.spend 1).1
            · have hs' : decide (0 < (m.fails.spend 1).1) = true := decide_eq_true hs1
              have e : m.create s = (30, (m.fails.spend 1).2) := by simp [Rm.create, renter_o hd hf, hok, hl, hs1, HLN.out]
              rw [e]
              go_enter Try.func24, Try.ntmps24
              go_wp2_with (first | (go_at_call 62; refine (ref_right s _ hs9).mono ?_; rintro e w5 ⟨rfl, hw5⟩; have hw6 := hw5.symm; clear hw5; subst hw6; rw [hok]) | (go_at_call 63; refine (rrigged_any HH.out).mono ?_; rintro e w1 ⟨rfl, h1, g1⟩; rw [hf]; have H1 : Hid (Rd T w1 d fb m.fails vf (.slice an L cn) vs vc ∧ Goes T T w w1) := ⟨h1, g1⟩; clear h1 g1) | (go_at_call 64; refine (rat_any H1.out.1 s).mono ?_; rintro e w2 ⟨rfl, b2⟩; rw [show pv fb (look m.fails.now s.data.toList) = .pointer none from by rw [show look m.fails.now s.data.toList = none from hl]; rfl]; have H2 : Hid (Rd T w2 d fb m.fails vf (.slice an L cn) vs vc ∧ Goes T T w w2) := ⟨H1.out.1.below b2, H1.out.2.trans (Goes.below b2)⟩; have t2 : w2.cell? ⟨d, 2, none⟩ = some (.slice an L cn) := ((H1.out.1.below b2).top.2 2 (by omega)).1; clear b2) | (at_len; refine wpList_lenS (by rfl) (.tmp 23) 92 98 (by rfl) Try.underlying92 an L cn (by rfl) LI HLI.out ?_) | (go_at_call 65; refine (rfalls_any H2.out.1 1 (by omega)).mono ?_; rintro e w3 ⟨rfl, h3, g3⟩; rw [hs']; have H3 : Hid (Rd T w3 d fb (m.fails.spend 1).2 vf (.slice an L cn) vs vc ∧ Goes T T w w3) := ⟨h3, H2.out.2.trans g3⟩; clear h3 g3))
              go_ret
              exact ⟨rfl, T, Re.of H3.out.1, H3.out.2⟩
            · have hs' : decide (0 < (m.fails.spend 1).1) = false := decide_eq_false hs1
              go_enter Try.func24, Try.ntmps24
              have EQ : Hid (m.create s = (0, { (m.fails.spend 1).2 with fl := m.fl ++ [⟨[], 0⟩], now := ins m.now (ky s) m.fl.length, ch := m.ch ++ [⟨1, s, ⟨#[]⟩, m.fl.length⟩] })) := by
                show _ = _
                simp [Rm.create, renter_o hd hf, hok, hl, hs1, HLN.out]
              have HLK : Hid (look m.now (ky s) = none) := hl
              go_upto_region 14 with (first | (go_at_call 62; refine (ref_right s _ hs9).mono ?_; rintro e w5 ⟨rfl, hw5⟩; have hw6 := hw5.symm; clear hw5; subst hw6; rw [hok]) | (go_at_call 63; refine (rrigged_any HH.out).mono ?_; rintro e w1 ⟨rfl, h1, g1⟩; rw [hf]; have H1 : Hid (Rd T w1 d fb m.fails vf (.slice an L cn) vs vc ∧ Goes T T w w1) := ⟨h1, g1⟩; clear h1 g1) | (go_at_call 64; refine (rat_any H1.out.1 s).mono ?_; rintro e w2 ⟨rfl, b2⟩; rw [show pv fb (look m.fails.now s.data.toList) = .pointer none from by rw [show look m.fails.now s.data.toList = none from hl]; rfl]; have H2 : Hid (Rd T w2 d fb m.fails vf (.slice an L cn) vs vc ∧ Goes T T w w2) := ⟨H1.out.1.below b2, H1.out.2.trans (Goes.below b2)⟩; have t2 : w2.cell? ⟨d, 2, none⟩ = some (.slice an L cn) := ((H1.out.1.below b2).top.2 2 (by omega)).1; clear b2) | (at_len; refine wpList_lenS (by rfl) (.tmp 23) 92 98 (by rfl) Try.underlying92 an L cn (by rfl) LI HLI.out ?_) | (go_at_call 65; refine (rfalls_any H2.out.1 1 (by omega)).mono ?_; rintro e w3 ⟨rfl, h3, g3⟩; rw [hs']; have H3 : Hid (Rd T w3 d fb (m.fails.spend 1).2 vf (.slice an L cn) vs vc ∧ Goes T T w w3) := ⟨h3, H2.out.2.trans g3⟩; clear h3 g3))
              obtain ⟨iC, hiC, y0, y1, y2⟩ := info_parts infoRC
              obtain ⟨iP, hiP, x0, x1, x2⟩ := info_parts infoPG
              obtain ⟨af, cf, rfl⟩ := own_slice H3.out.1.fls
              obtain ⟨av, cv, rfl⟩ := own_slice H3.out.1.chg
              have hdlt : d < w3.heap.size := H3.out.1.top.1
              have HDT : Hid (d ∉ (Value.slice af m.fl.length cf).ownBlock.toList ∧ d ∉ (Value.slice an L cn).ownBlock.toList) := ⟨fun hm => by have h0 : (Value.slice af m.fl.length cf).ownBlock = some d := (by simpa using hm); have h1 := H3.out.1.tf d h0; have := H3.out.1.td; omega, fun hm => by have h0 : (Value.slice an L cn).ownBlock = some d := (by simpa using hm); have h1 := H3.out.1.tn d h0; have := H3.out.1.td; omega⟩
              have v1 : w3.cell? ⟨d, 1, none⟩ = some (.slice af m.fl.length cf) := (H3.out.1.top.2 1 (by omega)).1
              clear t2
              go_upto_region 15 with (at_builtin; refine wpList_app _ (by rfl) (.tmp 36) (.tmp 39) 91 (by rfl) 0 96 iP _ 1 8 Try.underlying91 hiP x0 x1 x2 rfl (by omega) (.slice af m.fl.length cf) m.fl.length (ptrRow fb m.fl.length) (by rfl) (((Keep.alloc [] w3 _).trans (Keep.alloc [] _ _)).own H3.out.1.fls (by simp)) ⟨w3.heap.size + 1, 0, none⟩ 1 1 [.pointer (some ⟨w3.heap.size, 0, none⟩)] (by rfl) (by rfl) (news_2 w3 _ _ _) (by intro u hu; simp at hu; subst hu; rfl) (by intro _; omega) (by unfold maxLen; omega) (by omega) (Nat.zero_le _) (w3.heap.size + 2) (by simp) ?_; intro g7 c7 w7 hown7 hgr7 hat7 hlt7; have k7 : Keep (Value.slice af m.fl.length cf).ownBlock.toList w3 w7 := ((Keep.alloc _ _ _).trans (Keep.alloc _ _ _)).trans (Keep.grown hgr7); obtain ⟨q1, q1'⟩ := (H3.out.1.top.keep k7 HDT.out.1).2 1 (by omega); simp only [rcell] at q1; have HB : Hid (∃ T', Rd T' (w7.setCell ⟨d, 1, none⟩ (.slice (some ⟨g7, 0, none⟩) (m.fl.length + 1) c7)) d (upd fb m.fl.length w3.heap.size) { (m.fails.spend 1).2 with fl := m.fl ++ [⟨[], 0⟩] } (.slice (some ⟨g7, 0, none⟩) (m.fl.length + 1) c7) (.slice an L cn) vs (.slice av m.ch.length cv) ∧ Goes T T' w (w7.setCell ⟨d, 1, none⟩ (.slice (some ⟨g7, 0, none⟩) (m.fl.length + 1) c7))) := (by obtain ⟨T', r1, r2, r3⟩ := H3.out.1.born (f := ⟨[], 0⟩) (a1 := none) (c1 := 0) (Below.refl _ _) ⟨World.ownsRow_nil _ _ _ _, by simp⟩ (Nat.le_refl _) (by simp) (Nat.lt_trans hfl (by omega)) hown7 hgr7 (hat7.imp id (by intro e; omega)); exact ⟨T', r1, H3.out.2.trans (goes_of r2 (fun x hx => by simp only [List.mem_cons, Option.mem_toList] at hx; rcases hx with rfl | hx; have := H3.out.1.td; omega; have := H3.out.1.tf x hx; omega) r3)⟩); clear hown7 hgr7 hat7 hlt7 k7)
              clear v1
              generalize w7.setCell ⟨d, 1, none⟩ (.slice (some ⟨g7, 0, none⟩) (m.fl.length + 1) c7) = w4 at *
              generalize upd fb m.fl.length w3.heap.size = fb4 at *
              obtain ⟨T4, h4, g4⟩ := HB.out
              have H4 : Hid (Rd T4 w4 d fb4 { (m.fails.spend 1).2 with fl := m.fl ++ [⟨[], 0⟩] } (.slice (some ⟨g7, 0, none⟩) (m.fl.length + 1) c7) (.slice an L cn) vs (.slice av m.ch.length cv) ∧ Goes T T4 w w4) := ⟨h4, g4⟩
              have v1 : w4.cell? ⟨d, 1, none⟩ = some (.slice (some ⟨g7, 0, none⟩) (m.fl.length + 1) c7) := (h4.top.2 1 (by omega)).1
              have v2 : w4.cell? ⟨d, 2, none⟩ = some (.slice an L cn) := (h4.top.2 2 (by omega)).1
              clear h4 g4 HB q1 q1'
              have qk : IntKind.i64.wrap (((m.fl.length + 1 : Nat) : Int) - 1) = (m.fl.length : Int) := by rw [IntWalk.i64_in _ (by omega)]; omega
              have qk2 : IntKind.i64.wrap ((m.fl.length : Int) + 1 - 1) = (m.fl.length : Int) := by rw [IntWalk.i64_in _ (by omega)]; omega
              have qk3 : IntKind.i64.wrap (m.fl.length : Int) = (m.fl.length : Int) := IntWalk.i64_in _ (by omega)
              have HWT : Hid (∀ (y : Int) W, y = (m.fl.length : Int) → Below w4.heap.size w4 W → Calls Try.prog 66 #[.slice an L cn, .string s, .int .i64 y] W fun e w' => ∃ a6 c6, e = .returned (.slice a6 (ins m.now (ky s) m.fl.length).length c6) ∧ (w'.cell? ⟨d, 2, none⟩ = some (.slice an L cn) ∧ w'.frozen? ⟨d, 2, none⟩ = false) ∧ Hid (∃ T', Rd T' (w'.setCell ⟨d, 2, none⟩ (.slice a6 (ins m.now (ky s) m.fl.length).length c6)) d fb4 { (m.fails.spend 1).2 with fl := m.fl ++ [⟨[], 0⟩], now := ins m.now (ky s) m.fl.length } (.slice (some ⟨g7, 0, none⟩) (m.fl.length + 1) c7) (.slice a6 (ins m.now (ky s) m.fl.length).length c6) vs (.slice av m.ch.length cv) ∧ Goes T T' w (w'.setCell ⟨d, 2, none⟩ (.slice a6 (ins m.now (ky s) m.fl.length).length c6)))) := fun y W hy hW => by
                subst hy
                have hR := H4.out.1.below hW
                have hdir := hR.dir
                rw [show ({ (m.fails.spend 1).2 with fl := m.fl ++ [⟨[], 0⟩] } : Rm).now.length = L from HL.out] at hdir
                refine (with_any 0 (.slice an L cn) L m.now W hdir (Nat.zero_le _) hR.rises (by have := HLI.out; omega) s m.fl.length).mono ?_
                rintro e w' ⟨v', rfl, r1, r2, r3⟩
                obtain ⟨a6, c6, rfl⟩ := own_slice r1
                obtain ⟨q2, q2'⟩ := (hR.top.keep r2 HDT.out.2).2 2 (by omega)
                obtain ⟨T', z1, z2⟩ := hR.dirs (l' := ins m.now (ky s) m.fl.length) r1 r2 r3 (rises_ins hR.rises _ _) (fun p hp => by show p.2 < (m.fl ++ [(⟨[], 0⟩ : Fl)]).length; rw [List.length_append]; rcases ins_mem hp with rfl | hp; exact Nat.lt_succ_self _; have := HH.out.ids p hp; simp; omega) (by have := len_ins_le m.now (ky s) m.fl.length; have := HL.out; have := HLI.out; omega)
                exact ⟨a6, c6, rfl, ⟨q2, q2'⟩, T', z1, (H4.out.2.trans (Goes.below hW)).trans z2⟩
              go_region_law ((try go_simp); go_at_call 66; refine (HWT.out _ _ (by first | rfl | exact qk | exact qk2 | omega | (rw [IntKind.wrap_i64]; omega)) (Below.refl _ _).drew).mono ?_; rintro e w6 ⟨a6, c6, rfl, ⟨s1, s2⟩, hf6⟩; have H6 := HIDC hf6; clear hf6)
              all_goals (
                clear v1 v2 HWT
                generalize w6.setCell ⟨d, 2, none⟩ (.slice a6 (ins m.now (ky s) m.fl.length).length c6) = w5 at *
                clear s1 s2
                obtain ⟨T5, h5, g5⟩ := H6.out.out
                have H5 : Hid (Rd T5 w5 d fb4 { (m.fails.spend 1).2 with fl := m.fl ++ [⟨[], 0⟩], now := ins m.now (ky s) m.fl.length } (.slice (some ⟨g7, 0, none⟩) (m.fl.length + 1) c7) (.slice a6 (ins m.now (ky s) m.fl.length).length c6) vs (.slice av m.ch.length cv) ∧ Goes T T5 w w5) := ⟨h5, g5⟩
                have v1 : w5.cell? ⟨d, 1, none⟩ = some (.slice (some ⟨g7, 0, none⟩) (m.fl.length + 1) c7) := (h5.top.2 1 (by omega)).1
                have v4 : w5.cell? ⟨d, 4, none⟩ = some (.slice av m.ch.length cv) := (h5.top.2 4 (by omega)).1
                have hd5 : d < w5.heap.size := h5.top.1
                clear h5 g5 H6
                go_wp2_with fail
                go_region_law (refine step_app _ (by rfl) (.tmp 62) (.tmp 71) 93 (by rfl) 0 119 iC _ 4 48 Try.underlying93 hiC y0 y1 y2 rfl (by omega) (.slice av m.ch.length cv) m.ch.length (rcRow m.ch) (by rfl) ((Keep.alloc [] w5.drew _).own ((Keep.below (bs := []) (Below.refl _ _).drew).own H5.out.1.chg (by simp)) (by simp)) ⟨w5.heap.size, 0, none⟩ 1 1 [.int .i64 1, .string s, .string ⟨#[]⟩, .int .i64 (m.fl.length : Int)] (by rfl) (by rfl) (World.news_of_block (heap_alloc_new w5.drew _)) (by intro u hu; simp at hu; rcases hu with rfl | rfl | rfl | rfl <;> rfl) (by intro _; omega) (by unfold maxLen; omega) (by omega) (Nat.zero_le _) (w5.heap.size + 1) (by simp) ?_; intro g8 c8 w8 hown8 hgr8 hat8 hlt8; have k8 : Keep (Value.slice av m.ch.length cv).ownBlock.toList w5 w8 := ((Keep.below (bs := []) (Below.refl w5.heap.size w5).drew).mono (by simp)).trans ((Keep.alloc _ _ _).trans (Keep.grown hgr8)); have H8 : Hid (w8.ownsRow 0 119 4 (.slice (some ⟨g8, 0, none⟩) (m.ch.length + 1) c8) (m.ch.length + 1) (rcRow m.ch ++ [.int .i64 1, .string s, .string ⟨#[]⟩, .int .i64 (m.fl.length : Int)]) ∧ Keep (Value.slice av m.ch.length cv).ownBlock.toList w5 w8 ∧ ∀ g, (Value.slice (some ⟨g8, 0, none⟩) (m.ch.length + 1) c8).ownBlock = some g → (Value.slice av m.ch.length cv).ownBlock = some g ∨ w5.heap.size ≤ g) := ⟨hown8, k8, fun g hg => by cases hg; exact hat8.imp id (by intro e; show w5.heap.size ≤ g8; omega)⟩; obtain ⟨q4, q4'⟩ := (H5.out.1.top.keep k8 (fun hm => by have h1 := H5.out.1.tc d (by simpa using hm); have := H5.out.1.td; omega)).2 4 (by omega); simp only [rcell] at q4; clear hown8 hgr8 hat8 hlt8 k8)
                all_goals (
                  go_wp2
                  go_ret
                  rw [EQ.out]
                  have hr8 : w8.ownsRow 0 119 4 (.slice (some ⟨g8, 0, none⟩) (m.ch.length + 1) c8) (m.ch ++ [(⟨1, s, ⟨#[]⟩, m.fl.length⟩ : Rc)]).length (rcRow (m.ch ++ [(⟨1, s, ⟨#[]⟩, m.fl.length⟩ : Rc)])) := by
                    have z := H8.out.1
                    rw [List.length_append]
                    unfold rcRow at z ⊢
                    rw [List.flatMap_append]
                    exact z
                  obtain ⟨T9, h9, g9⟩ := H5.out.1.chgs hr8 H8.out.2.1 H8.out.2.2
                  exact ⟨rfl, T9, Re.of h9, H5.out.2.trans g9⟩))
end Dsk
end Go.Proofs.Ytbloifnibgdeoaa
namespace Go.Proofs.Ytbloifnibgdeoaa
namespace Dsk
open Go.RowKit Go.Shelf Go.Maps Go.Sort Byt Laws
set_option linter.unusedVariables false
set_option maxRecDepth 100000
set_option linter.unusedSimpArgs false

/-- append of bytes onto those of a file: what runs. -/
theorem run_appHb {P : Program} {w : World} (t ty : TypeId) (i : TypeInfo) (ht : P.underlying t = some (.slice 5)) (hi : P.info? 5 = some i) (hz : i.zero = some (.int .u8 0)) (hsize : i.size = 1) (hby : i.bytes = 1)
    (a' : Option Addr) (c : Nat) (l : List Nat) (hown : Hb w a' c l) (ao : Option Addr) (m cc : Nat) (r : List Nat) (hm : m = r.length) (hn : ao = none → cc = 0) (hr : IsB w ao r) (h47 : l.length + m ≤ 140737488355328) :
    ∃ a1 c1 w1, (Builtin.append_ #[t, t] ty #[.slice a' l.length c, .slice ao m cc]).run P w = .ok (.slice a1 (l ++ r).length c1) w1 ∧ Hb w1 a1 c1 (l ++ r) ∧ w.grownBy w1 (Value.slice a' l.length c).ownBlock ∧ ((Value.slice a1 (l ++ r).length c1).ownBlock = (Value.slice a' l.length c).ownBlock ∨ ∀ x, (Value.slice a1 (l ++ r).length c1).ownBlock = some x → w.heap.size ≤ x) := by
  have hby2 : ∀ y ∈ l ++ r, y < 256 := fun y hy => by
    rcases List.mem_append.1 hy with hy | hy
    · exact hown.byte y hy
    · exact hr.2 y hy
  subst hm
  rcases hown.own with ⟨⟨g, rfl⟩, hc⟩ | ho1
  · by_cases hr0 : r = []
    · subst hr0
      have hrun : (Builtin.append_ #[t, t] ty #[.slice (some ⟨g, 0, none⟩) l.length c, .slice ao 0 cc]).run P w = .ok (.slice (some ⟨g, 0, none⟩) l.length c) w := by
        cases ao with
        | none => simp [Builtin.append_, run_underlying ht, sizeOf, typeInfo, hi, Builtin.lenOf, hc, run_firstCells_none, storeCells, Result.andThen]
        | some ad =>
          have := run_append_room_cells (P := P) w t ty 5 i ht hi g 0 l.length c ad 0 cc [] (by simp) (by simp) (by simp) (by omega) (by simp) (by simp)
          simpa [World.setCells] using this
      exact ⟨some ⟨g, 0, none⟩, c, w, by rw [List.append_nil]; exact hrun, by rw [List.append_nil]; exact hown, World.grownBy.refl _ _, by rw [List.append_nil]; exact .inl rfl⟩
    · obtain ⟨b, off, rfl, hrow⟩ := hr.1 hr0
      have hpos : 0 < r.length := List.length_pos_iff.2 hr0
      obtain ⟨v', w', hrun, h2, h3⟩ := run_append_arg_grows (P := P) w t ty 5 i (.int .u8 0) 1 1 ht hi hz hsize hby rfl (by omega) ⟨g, 0, none⟩ l.length c (cellsB l) (by rw [cellsB_length]; omega) (fun j u hu => news_of hown.isB _ rfl j u hu) ⟨b, off, none⟩ r.length cc (cellsB r) (by rw [cellsB_length]; omega) (news_of hr _ rfl) (by omega) (by unfold maxLen; omega) (by omega)
      rw [← cellsB_append, ← List.length_append] at h2
      obtain ⟨a1, c1, rfl, hnew⟩ := New.of h2 hby2
      exact ⟨a1, c1, w', hrun, Hb.of (New.lower hnew (Nat.zero_le _)), ⟨h3.os, h3.tape, h3.output, h3.size, fun k hk _ => h3.block k hk (by simp)⟩, .inr fun x hx => (hnew.row.lt x hx).1⟩
  · cases ao with
    | none =>
      have hr0 := hr.none
      subst hr0
      obtain rfl := hn rfl
      have hrun := run_append_owned_none (P := P) (w := w) 0 t ty 5 i 1 ht hi (.slice a' l.length c) l.length (cellsB l) ho1
      exact ⟨a', c, w, by rw [List.append_nil]; exact hrun, by rw [List.append_nil]; exact hown, World.grownBy.refl _ _, by rw [List.append_nil]; exact .inl rfl⟩
    | some ad =>
      obtain ⟨v', w', hrun, h2, h3, h4, h5⟩ := run_append_own_at (P := P) w 0 t ty 5 i (.int .u8 0) 1 1 ht hi hz hsize hby rfl (by omega) (.slice a' l.length c) l.length (cellsB l) ho1 ad r.length cc (cellsB r) (by rw [cellsB_length]; omega) (news_of hr ad rfl) (cellsB_one r) (by unfold maxLen; omega) (by omega) (Nat.zero_le _)
      rw [← cellsB_append, ← List.length_append] at h2
      obtain ⟨a1, c1, rfl, hnew⟩ := New.of h2 hby2
      exact ⟨a1, c1, w', hrun, Hb.of hnew, h3, h5.imp id fun e x hx => by rw [hx] at e; cases e; exact Nat.le_refl _⟩
theorem step_appHb {P : Program} {w : World} {ops : Array Oper} {o : Oper} {a : Act} {K : Act → World → Prop} {Q : Exit → Act → World → Prop} {E : Prop} (hgd : o.guard = none) (s x : Operand) (t : TypeId)
    (ho : o.op = .call { callee := .builtin .append, args := #[s, x], argTypes := #[t, t] })
    (i : TypeInfo) (ht : P.underlying t = some (.slice 5)) (hi : P.info? 5 = some i) (hz : i.zero = some (.int .u8 0)) (hsize : i.size = 1) (hby : i.bytes = 1)
    (a' : Option Addr) (c : Nat) (l : List Nat) (hs : a.eval s = .slice a' l.length c) (hown : Hb w a' c l)
    (ao : Option Addr) (m cc : Nat) (r : List Nat) (hx : a.eval x = .slice ao m cc) (hm : m = r.length) (hn : ao = none → cc = 0) (hr : IsB w ao r) (h47 : l.length + m ≤ 140737488355328)
    (h : ∀ a1 c1 w1, Hb w1 a1 c1 (l ++ r) → w.grownBy w1 (Value.slice a' l.length c).ownBlock → ((Value.slice a1 (l ++ r).length c1).ownBlock = (Value.slice a' l.length c).ownBlock ∨ ∀ x, (Value.slice a1 (l ++ r).length c1).ownBlock = some x → w.heap.size ≤ x) → K (a.put o.dst (.slice a1 (l ++ r).length c1)) w1) :
    if Region.wanted o (yielded ops a.tmps) = true then Oper.wp P o a w K Q else E := by
  have hw : Region.wanted o (yielded ops a.tmps) = true := by simp [Region.wanted, hgd]
  rw [if_pos hw]
  obtain ⟨a1, c1, w1, hrun, h1, h2, h3⟩ := run_appHb (P := P) t o.type i ht hi hz hsize hby a' c l hown ao m cc r hm hn hr h47
  unfold Oper.wp execOp
  simp only [ho, resolve, invoke, builtin, Sem.run_bind, Sem.run_pure, Result.andThen_ok, List.map_toArray, List.map_cons, List.map_nil, hs, hx, hrun]
  exact h a1 c1 w1 h1 h2 h3

def Rm.lay (m : Rm) (i : Nat) (l : List Nat) : Rm := { m with fl := m.fl.modify i fun f => { f with data := f.data ++ l } }
def Rm.layPart (m : Rm) (i : Nat) (l : List Nat) : Rm := if roomR m.room m.used (lenOf m.fl i) (min m.rig.part l.length) then m.lay i (l.take (min m.rig.part l.length)) else m
section
variable {T : Nat → Nat} {w w1 : World} {d : Nat} {fb : Nat → Nat} {m : Rm} {vf vn vs vc : Value}
theorem Rd.layFacts (h : Rd T w d fb m vf vn vs vc) {i : Nat} {f : Fl} {a : Option Addr} {c : Nat} (hfa : FileAt T w (fb i) i f a c) (hg : w.grownBy w1 (Value.slice a f.data.length c).ownBlock) :
    w1.cell? ⟨fb i, 0, none⟩ = some (.slice a f.data.length c) ∧ w1.frozen? ⟨fb i, 0, none⟩ = false := by
  have k1 := Keep.grown hg
  have holdT : ∀ x ∈ (Value.slice a f.data.length c).ownBlock.toList, T x = 11 + 2 * i := by
    intro x hx
    cases a with
    | none => simp [Value.ownBlock] at hx
    | some ad => simp [Value.ownBlock] at hx; subst hx; exact hfa.mine ad rfl
  have htf := hfa.tag
  have f1 := hfa.fld.keep k1 (fun hx => by have := holdT _ hx; omega)
  exact ⟨(f1.2 0 (by omega)).1, (f1.2 0 (by omega)).2⟩
theorem Rd.lay (h : Rd T w d fb m vf vn vs vc) {i : Nat} {f : Fl} (hf : m.fl[i]? = some f) {a a' : Option Addr} {c c' : Nat}
    (hfa : FileAt T w (fb i) i f a c) {l : List Nat} (hbig : f.data.length + l.length ≤ 2147483648)
    (hg : w.grownBy w1 (Value.slice a f.data.length c).ownBlock) (hown : Hb w1 a' c' (f.data ++ l))
    (hat : (Value.slice a' (f.data ++ l).length c').ownBlock = (Value.slice a f.data.length c).ownBlock ∨ ∀ x, (Value.slice a' (f.data ++ l).length c').ownBlock = some x → w.heap.size ≤ x) :
    ∃ T', Rd T' (w1.setCell ⟨fb i, 0, none⟩ (.slice a' (f.data ++ l).length c')) d fb (m.lay i l) vf vn vs vc ∧ Goes T T' w (w1.setCell ⟨fb i, 0, none⟩ (.slice a' (f.data ++ l).length c')) := by
  generalize hvv : Value.slice a' (f.data ++ l).length c' = v' at *
  obtain ⟨old, hold⟩ : ∃ old, old = (Value.slice a f.data.length c).ownBlock := ⟨_, rfl⟩
  rw [← hold] at hg hat
  have holdT : ∀ x ∈ old.toList, T x = 11 + 2 * i := by
    intro x hx
    rw [hold] at hx
    cases a with
    | none => simp [Value.ownBlock] at hx
    | some ad => simp [Value.ownBlock] at hx; subst hx; exact hfa.mine ad rfl
  have hdlt : d < w.heap.size := h.top.1
  have hflt : fb i < w.heap.size := hfa.fld.1
  have htf := hfa.tag
  have htd := h.td
  have k1 : Keep old.toList w w1 := Keep.grown hg
  have hs1 := k1.size
  have k2 := Keep.set w1 (fb i) 0 v'
  have k23 : Keep (old.toList ++ [fb i]) w (w1.setCell ⟨fb i, 0, none⟩ v') :=
    (k1.mono (by intro x hx; simp at hx; simp [hx])).trans (k2.mono (by intro x hx; simp at hx; simp [hx]))
  have hsz : (w1.setCell ⟨fb i, 0, none⟩ v').heap.size = w1.heap.size := by simp
  obtain ⟨T', hT⟩ : ∃ T' : Nat → Nat, T' = fun x => if v'.ownBlock = some x then 11 + 2 * i else T x := ⟨_, rfl⟩
  have tg : ∀ x, v'.ownBlock = some x → T' x = 11 + 2 * i := fun x hx => by rw [hT]; simp [hx]
  have tn : ∀ x, v'.ownBlock ≠ some x → T' x = T x := fun x hx => by rw [hT]; simp [hx]
  have ht : ∀ x, x < w.heap.size → T' x = T x := by
    intro x hx
    by_cases e : v'.ownBlock = some x
    · rw [tg x e]
      rcases hat with hat | hat
      · exact (holdT x (by rw [← hat, e]; simp)).symm
      · have := hat x e; omega
    · exact tn x e
  have hinT : ∀ x ∈ old.toList ++ [fb i], x < w.heap.size ∧ (T x = 11 + 2 * i ∨ T x = 10 + 2 * i) := by
    intro x hx
    rcases List.mem_append.1 hx with hx | hx
    · have := holdT x hx
      have hm : (Value.slice a f.data.length c).ownBlock = some x := by rw [← hold]; simpa using hx
      exact ⟨hfa.own.lt x hm, .inl this⟩
    · simp at hx
      subst hx
      exact ⟨hflt, .inr htf⟩
  have hin : ∀ x ∈ old.toList ++ [fb i], T' x = 11 + 2 * i ∨ T' x = 10 + 2 * i := fun x hx => by
    rw [ht x (hinT x hx).1]; exact (hinT x hx).2
  have hgv : ∀ g, v'.ownBlock = some g → g ≠ fb i ∧ g < w1.heap.size := by
    intro g hgv
    have h1 := hown.lt g (by rw [hvv]; exact hgv)
    refine ⟨?_, h1⟩
    rintro rfl
    have := tg _ hgv
    rw [ht _ hflt, htf] at this; omega
  have hx : ∀ {v : Value} {t : Nat}, t < 10 → (∀ b, v.ownBlock = some b → T b = t) → ∀ b, v.ownBlock = some b → b ∉ old.toList ++ [fb i] := fun ht hv b hb hm => by
    have h5 := hv b hb
    have := (hinT b hm).2
    omega
  have tgs : ∀ {v : Value} {t : Nat}, (∀ b, v.ownBlock = some b → b < w.heap.size) → (∀ b, v.ownBlock = some b → T b = t) → ∀ b, v.ownBlock = some b → T' b = t := fun hlt hv b hb => by rw [ht b (hlt b hb)]; exact hv b hb
  have hlen : (m.lay i l).fl.length = m.fl.length := by show (m.fl.modify i _).length = _; rw [List.length_modify]
  refine ⟨T', ⟨?_, by rw [ht d hdlt]; exact htd, fun b hb => ?_, ?_, tgs (fun b e => (h.fls.lt b e).2) h.tf, k23.own h.dir (hx (by omega) h.tn), tgs (fun b e => (h.dir.lt b e).2) h.tn, k23.own h.sur (hx (by omega) h.ts), tgs (fun b e => (h.sur.lt b e).2) h.ts, k23.own h.chg (hx (by omega) h.tc), tgs (fun b e => (h.chg.lt b e).2) h.tc, fun j g hj => ?_, h.rises, h.risesS, fun p hp => ?_, fun p hp => ?_, h.room, h.most, h.mostS, ?_, h.rok⟩, ?_⟩
  · have t1 := h.top.keep k23 (fun hm => by have := (hinT d hm).2; omega)
    exact t1.eq (ten rfl rfl rfl rfl rfl rfl rfl rfl rfl rfl)
  · rw [hsz] at hb
    rw [tn b (fun e => by have := (hgv b e).2; omega)]
    exact h.fresh b (by omega)
  · rw [hlen]
    exact k23.own h.fls (hx (by omega) h.tf)
  · by_cases e : j = i
    · subst e
      have : g = { f with data := f.data ++ l } := by
        simp only [Rm.lay, List.getElem?_modify] at hj
        rw [hf] at hj; simp at hj; exact hj.symm
      subst this
      refine ⟨a', c', ⟨by rw [ht _ hflt]; exact htf, ?_, ?_, ?_, ?_, ?_⟩⟩
      · have f1 := hfa.fld.keep k1 (fun hx => by have := holdT _ hx; omega)
        rw [← hvv] at *
        exact (f1.set 0 (by omega) (.slice a' (f.data ++ l).length c')).eq (fcell_set a a' c c' f l)
      · exact hown.keep k2 (fun g hg' hm => by rw [hvv] at hg'; simp at hm; exact (hgv g hg').1 hm)
      · intro ad e; exact tg ad.block (by rw [← hvv, e]; rfl)
      · have := hfa.sure; simp only [List.length_append]; omega
      · simp only [List.length_append]; omega
    · have hj' : m.fl[j]? = some g := by
        simp only [Rm.lay, List.getElem?_modify] at hj
        have e' : ¬ i = j := Ne.symm e
        simp only [if_neg e'] at hj
        simpa using hj
      obtain ⟨a2, c2, hfj⟩ := h.file j g hj'
      exact ⟨a2, c2, (hfj.tags ht).keep k23 (fun x hx => by have := hin x hx; omega) (fun x hx => by have := hin x hx; omega)⟩
  · rw [hlen]; exact h.ids p hp
  · rw [hlen]; exact h.idsS p hp
  · rw [hlen]; exact h.mostF
  · refine ⟨k23.os, k23.tape, k23.output, k23.size, fun b hb hz => ⟨k23.block b hb (fun hm => ?_), by rw [ht b hb]; exact hz⟩⟩
    have := (hinT b hm).2
    omega
end
end Dsk
end Go.Proofs.Ytbloifnibgdeoaa
namespace Go.Proofs.Ytbloifnibgdeoaa
namespace Dsk
open Go.RowKit Go.Shelf Go.Maps Go.Sort Byt Laws
set_option linter.unusedVariables false
set_option maxRecDepth 100000
set_option linter.unusedSimpArgs false

theorem hfa_below {T : Nat → Nat} {w w' : World} {b i : Nat} {f : Fl} {a : Option Addr} {c : Nat} (h : FileAt T w b i f a c) (hb : Below w.heap.size w w') : FileAt T w' b i f a c := h.keep (Keep.below (bs := []) hb) (by simp) (by simp)
def Rm.append (m : Rm) (s : ByteArray) (l : List Nat) : Int × Rm :=
  if (m.enter (okN s)).1 ≠ 0 then
    ((m.enter (okN s)).1, if (m.enter (okN s)).1 = 31 then (match look m.now (ky s) with
      | some i => (m.enter (okN s)).2.layPart i l
      | none => (m.enter (okN s)).2) else (m.enter (okN s)).2)
  else match look m.now (ky s) with
    | none => (34, (m.enter (okN s)).2)
    | some i =>
      if roomR m.room m.used (lenOf m.fl i) l.length = false then (32, (m.enter (okN s)).2)
      else if 0 < ((m.enter (okN s)).2.spend (1 + l.length)).1 then (30, ((m.enter (okN s)).2.spend (1 + l.length)).2.lay i (l.take (((m.enter (okN s)).2.spend (1 + l.length)).1 - 1)))
      else (0, ((m.enter (okN s)).2.spend (1 + l.length)).2.lay i l)
theorem fails_part (r : Rig) : r.fails.2.part = r.part := by
  unfold Rig.fails
  split
  · rfl
  · split <;> rfl
theorem rspend_le (m : Rm) (n : Nat) : (m.spend n).1 ≤ n := by
  show (spendR m.rig m.down n).1 ≤ n
  by_cases h : n < m.rig.units
  · have e : spendR m.rig m.down n = (0, { m.rig with units := m.rig.units - n }, m.down) := by simp [spendR, Rig.charge, h]
    rw [e]; exact Nat.zero_le _
  · by_cases h0 : 0 < m.rig.units
    · have e : spendR m.rig m.down n = (m.rig.units, Rig.zero, true) := by simp [spendR, Rig.charge, h, h0]
      rw [e]; show m.rig.units ≤ n; omega
    · have e : spendR m.rig m.down n = (0, m.rig, m.down) := by simp [spendR, Rig.charge, h, h0]
      rw [e]; exact Nat.zero_le _
set_option maxHeartbeats 2000000 in
theorem rappend_any {T : Nat → Nat} {w : World} {d : Nat} {m : Rm} (h : Re T w d m) (s : ByteArray) (hs : s.size ≤ maxLen) (ab : Option Addr) (cb : Nat) (l : List Nat) (hb : IsB w ab l) (nb : ab = none → cb = 0) (hc : l.length ≤ cb) (hc2 : cb ≤ 9223372036854775807) (ho : ∀ ad, ab = some ad → T ad.block = 0)
    (hu : m.used + l.length ≤ 4611686018427387903) :
    Calls Try.prog 40 #[.pointer (some ⟨d, 0, none⟩), .string s, .slice ab l.length cb] w fun e w' => e = .returned (.int .i64 (m.append s l).1) ∧ ∃ T', Re T' w' d (m.append s l).2 ∧ Goes T T' w w' := by
  obtain ⟨fb, vf, vn, vs, vc, h⟩ := h
  have HH : Hid (Rd T w d fb m vf vn vs vc) := h
  have c9 := (h.top.2 9 (by omega)).1
  simp only [rcell] at c9
  have hs9 : s.size ≤ 9223372036854775807 := by unfold maxLen at hs; omega
  have HB : Hid (IsB w ab l) := hb
  have HO : Hid (∀ ad, ab = some ad → T ad.block = 0) := ho
  have NB : Hid (ab = none → cb = 0) := nb
  have hprt : m.rig.part ≤ 9223372036854775807 := h.rok.2.2.2
  obtain ⟨i8, hi8, y0, y1, y2⟩ := info_parts infoB
  clear h hb ho nb
  cases hd : m.down with
  | true =>
    rw [hd] at c9
    have e : m.append s l = (30, m) := by simp [Rm.append, renter_d hd]
    rw [e]
    go_enter Try.func40, Try.ntmps40
    go_wp2
    go_ret
    exact ⟨rfl, T, Re.of HH.out, Goes.refl _ _⟩
  | false =>
    rw [hd] at c9
    cases hok : okN s with
    | false =>
      have e : m.append s l = (33, m) := by simp [Rm.append, renter_n hd, hok]
      rw [e]
      go_enter Try.func40, Try.ntmps40
      go_wp2_with (go_at_call 62; refine (ref_right s _ hs9).mono ?_; rintro e w5 ⟨rfl, hw5⟩; have hw6 := hw5.symm; clear hw5; subst hw6; rw [hok])
      go_ret
      exact ⟨rfl, T, Re.of HH.out, Goes.refl _ _⟩
    | true =>
      cases hl : look m.now (ky s) with
      | none =>
        cases hf : m.rig.fails.1 with
        | true =>
          have e : m.append s l = (31, m.fails) := by simp [Rm.append, renter_f hd hf, hok, hl]
          rw [e]
          go_enter Try.func40, Try.ntmps40
          go_wp2_with (first | (go_at_call 62; refine (ref_right s _ hs9).mono ?_; rintro e w5 ⟨rfl, hw5⟩; have hw6 := hw5.symm; clear hw5; subst hw6; rw [hok]) | (go_at_call 64; refine (rat_any HH.out s).mono ?_; rintro e w1 ⟨rfl, b1⟩; rw [show pv fb (look m.now s.data.toList) = .pointer none from by rw [show look m.now s.data.toList = none from hl]; rfl]; have H1 : Hid (Rd T w1 d fb m vf vn vs vc ∧ Goes T T w w1) := ⟨HH.out.below b1, Goes.below b1⟩; have t8 : w1.cell? ⟨d, 8, none⟩ = some (.int .i64 (m.rig.part : Nat)) := (H1.out.1.top.2 8 (by omega)).1; clear b1) | (go_at_call 63; refine (rrigged_any H1.out.1).mono ?_; rintro e w2 ⟨rfl, h2, g2⟩; rw [hf]; have H2 : Hid (Rd T w2 d fb m.fails vf vn vs vc ∧ Goes T T w w2) := ⟨h2, H1.out.2.trans g2⟩; clear h2 g2))
          go_ret
          exact ⟨rfl, T, Re.of H2.out.1, H2.out.2⟩
        | false =>
          have e : m.append s l = (34, m.fails) := by simp [Rm.append, renter_o hd hf, hok, hl]
          rw [e]
          go_enter Try.func40, Try.ntmps40
          go_wp2_with (first | (go_at_call 62; refine (ref_right s _ hs9).mono ?_; rintro e w5 ⟨rfl, hw5⟩; have hw6 := hw5.symm; clear hw5; subst hw6; rw [hok]) | (go_at_call 64; refine (rat_any HH.out s).mono ?_; rintro e w1 ⟨rfl, b1⟩; rw [show pv fb (look m.now s.data.toList) = .pointer none from by rw [show look m.now s.data.toList = none from hl]; rfl]; have H1 : Hid (Rd T w1 d fb m vf vn vs vc ∧ Goes T T w w1) := ⟨HH.out.below b1, Goes.below b1⟩; have t8 : w1.cell? ⟨d, 8, none⟩ = some (.int .i64 (m.rig.part : Nat)) := (H1.out.1.top.2 8 (by omega)).1; clear b1) | (go_at_call 63; refine (rrigged_any H1.out.1).mono ?_; rintro e w2 ⟨rfl, h2, g2⟩; rw [hf]; have H2 : Hid (Rd T w2 d fb m.fails vf vn vs vc ∧ Goes T T w w2) := ⟨h2, H1.out.2.trans g2⟩; clear h2 g2))
          go_ret
          exact ⟨rfl, T, Re.of H2.out.1, H2.out.2⟩
      | some i =>
        obtain ⟨f, hfl⟩ : ∃ f, m.fl[i]? = some f := ⟨_, List.getElem?_eq_getElem (HH.out.ids _ (look_some hl))⟩
        have HFL : Hid (m.fl[i]? = some f) := hfl
        have hln : lenOf m.fl i = f.data.length := lenOf_some hfl
        clear hfl
        cases hf : m.rig.fails.1 with
        | true =>
          by_cases hpl : m.rig.part ≤ l.length
          · have hpl' : (m.rig.part : Int) ≤ (l.length : Int) := by omega
            have hmin : min m.rig.part l.length = m.rig.part := by omega
            have hminI : min (m.rig.part : Int) (l.length : Int) = (m.rig.part : Int) := by omega
            have hk0 : m.rig.part ≤ l.length := by omega
            have HEQ : Hid (m.append s l = (31, if roomR m.room m.used f.data.length (m.rig.part) then m.fails.lay i (l.take (m.rig.part)) else m.fails)) := by
              show _ = _
              have e2 : m.fails.layPart i l = if roomR m.room m.used f.data.length (m.rig.part) then m.fails.lay i (l.take (m.rig.part)) else m.fails := by
                unfold Rm.layPart
                rw [show m.fails.rig.part = m.rig.part from fails_part _, hmin, show lenOf m.fails.fl i = f.data.length from hln]
                rfl
              simp [Rm.append, renter_f hd hf, hok, hl, e2]
            cases hro : roomR m.room m.used f.data.length (m.rig.part) with
            | false =>
              rw [HEQ.out, hro, if_neg (by simp)]
              go_enter Try.func40, Try.ntmps40
              go_wp2_with (first | (go_at_call 62; refine (ref_right s _ hs9).mono ?_; rintro e w5 ⟨rfl, hw5⟩; have hw6 := hw5.symm; clear hw5; subst hw6; rw [hok]) | (go_at_call 64; refine (rat_any HH.out s).mono ?_; rintro e w1 ⟨rfl, b1⟩; rw [show pv fb (look m.now s.data.toList) = .pointer (some ⟨fb i, 0, none⟩) from by rw [show look m.now s.data.toList = some i from hl]; rfl]; have H1 : Hid (Rd T w1 d fb m vf vn vs vc ∧ Goes T T w w1) := ⟨HH.out.below b1, Goes.below b1⟩; have t8 : w1.cell? ⟨d, 8, none⟩ = some (.int .i64 (m.rig.part : Nat)) := (H1.out.1.top.2 8 (by omega)).1; clear b1) | (go_at_call 63; refine (rrigged_any H1.out.1).mono ?_; rintro e w2 ⟨rfl, h2, g2⟩; rw [hf]; have H2 : Hid (Rd T w2 d fb m.fails vf vn vs vc ∧ Goes T T w w2) := ⟨h2, H1.out.2.trans g2⟩; clear h2 g2) | (go_at_call 74; refine (rfull_any H2.out.1 (show m.used ≤ _ by omega) HFL.out (m.rig.part) (by omega)).mono ?_; rintro e w3 ⟨rfl, q3, hw3⟩; rw [show (!roomR m.fails.room m.fails.used f.data.length (m.rig.part)) = true from by rw [show roomR m.fails.room m.fails.used f.data.length (m.rig.part) = !true from hro]; rfl]; have H3 : Hid (Rd T w3 d fb m.fails vf vn vs vc ∧ Goes T T w w3) := (by have b3 : Below w2.heap.size w2 w3 := (by rw [hw3]; exact below_drewN (Below.refl _ _) q3); exact ⟨H2.out.1.below b3, H2.out.2.trans (Goes.below b3)⟩); clear hw3))
              go_ret
              exact ⟨rfl, T, Re.of H3.out.1, H3.out.2⟩
            | true =>
              rw [HEQ.out, hro, if_pos rfl]
              go_enter Try.func40, Try.ntmps40
              go_upto_region 11 with (first | (go_at_call 62; refine (ref_right s _ hs9).mono ?_; rintro e w5 ⟨rfl, hw5⟩; have hw6 := hw5.symm; clear hw5; subst hw6; rw [hok]) | (go_at_call 64; refine (rat_any HH.out s).mono ?_; rintro e w1 ⟨rfl, b1⟩; rw [show pv fb (look m.now s.data.toList) = .pointer (some ⟨fb i, 0, none⟩) from by rw [show look m.now s.data.toList = some i from hl]; rfl]; have H1 : Hid (Rd T w1 d fb m vf vn vs vc ∧ Goes T T w w1) := ⟨HH.out.below b1, Goes.below b1⟩; have t8 : w1.cell? ⟨d, 8, none⟩ = some (.int .i64 (m.rig.part : Nat)) := (H1.out.1.top.2 8 (by omega)).1; clear b1) | (go_at_call 63; refine (rrigged_any H1.out.1).mono ?_; rintro e w2 ⟨rfl, h2, g2⟩; rw [hf]; have H2 : Hid (Rd T w2 d fb m.fails vf vn vs vc ∧ Goes T T w w2) := ⟨h2, H1.out.2.trans g2⟩; clear h2 g2) | (go_at_call 74; refine (rfull_any H2.out.1 (show m.used ≤ _ by omega) HFL.out (m.rig.part) (by omega)).mono ?_; rintro e w3 ⟨rfl, q3, hw3⟩; rw [show (!roomR m.fails.room m.fails.used f.data.length (m.rig.part)) = false from by rw [show roomR m.fails.room m.fails.used f.data.length (m.rig.part) = !false from hro]; rfl]; have H3 : Hid (Rd T w3 d fb m.fails vf vn vs vc ∧ Goes T T w w3) := (by have b3 : Below w2.heap.size w2 w3 := (by rw [hw3]; exact below_drewN (Below.refl _ _) q3); exact ⟨H2.out.1.below b3, H2.out.2.trans (Goes.below b3)⟩); clear hw3))
              obtain ⟨a, c, hfa⟩ := H3.out.1.file i f HFL.out
              have cf0 := (hfa.fld.2 0 (by omega)).1
              simp only [fcell, if_true] at cf0
              have HFA2 : Hid (FileAt T w3 (fb i) i f a c) := hfa
              have HBW : Hid (IsB w3 ab l) := isB_goes HB.out HO.out H3.out.2
              have HBG : Hid (f.data.length + (l.take (m.rig.part)).length ≤ 2147483648) := by
                have z : roomR m.fails.room m.fails.used f.data.length (m.rig.part) = true := hro
                simp only [roomR, Bool.and_eq_true, decide_eq_true_eq] at z
                have z2 := z.2
                show f.data.length + (l.take (m.rig.part)).length ≤ 2147483648
                (try simp only [List.length_take])
                omega
              have hncb : m.rig.part ≤ cb := by omega
              have hlt : (l.take (m.rig.part)).length = m.rig.part := by first | rfl | (simp only [List.length_take]; omega)
              clear hfa
              go_region_law (refine step_appHb (by rfl) (.tmp 43) (.tmp 46) 30 (by rfl) i8 Try.underlying30 hi8 y0 y1 y2 a c f.data (by first | rfl | simp [Act.eval, Act.put]) (HFA2.out.own.below (Below.refl _ _).drew) ab (m.rig.part) cb (l.take (m.rig.part)) (by first | rfl | simp [Act.eval, Act.put]) hlt.symm NB.out ((HBW.out.below (Below.refl _ _).drew).take _) (by have := HBG.out; omega) ?_; intro a8 c8 w8 hown8 hgr8 hat8; obtain ⟨z1, z2⟩ := (H3.out.1.below (Below.refl _ _).drew).layFacts (hfa_below HFA2.out (Below.refl _ _).drew) hgr8; have H8 : Hid (∃ T', Rd T' (w8.setCell ⟨fb i, 0, none⟩ (.slice a8 (f.data ++ l.take (m.rig.part)).length c8)) d fb (m.fails.lay i (l.take (m.rig.part))) vf vn vs vc ∧ Goes T T' w (w8.setCell ⟨fb i, 0, none⟩ (.slice a8 (f.data ++ l.take (m.rig.part)).length c8))) := (by obtain ⟨T', r1, r2⟩ := (H3.out.1.below (Below.refl _ _).drew).lay HFL.out (hfa_below HFA2.out (Below.refl _ _).drew) HBG.out hgr8 hown8 hat8; exact ⟨T', r1, (H3.out.2.trans (Goes.below (Below.refl _ _).drew)).trans r2⟩); clear hown8 hgr8 hat8)
              all_goals (
                go_wp2
                go_ret
                obtain ⟨T9, h9, g9⟩ := H8.out
                rw [show (f.data ++ l.take (m.rig.part)).length = f.data.length + (m.rig.part) from by rw [List.length_append, hlt]] at h9 g9
                exact ⟨rfl, T9, Re.of h9, g9⟩)
          · have hpl' : (l.length : Int) < (m.rig.part : Int) := by omega
            have hmin : min m.rig.part l.length = l.length := by omega
            have hminI : min (m.rig.part : Int) (l.length : Int) = (l.length : Int) := by omega
            have hk0 : l.length ≤ l.length := by omega
            have HEQ : Hid (m.append s l = (31, if roomR m.room m.used f.data.length (l.length) then m.fails.lay i (l.take (l.length)) else m.fails)) := by
              show _ = _
              have e2 : m.fails.layPart i l = if roomR m.room m.used f.data.length (l.length) then m.fails.lay i (l.take (l.length)) else m.fails := by
                unfold Rm.layPart
                rw [show m.fails.rig.part = m.rig.part from fails_part _, hmin, show lenOf m.fails.fl i = f.data.length from hln]
                rfl
              simp [Rm.append, renter_f hd hf, hok, hl, e2]
            cases hro : roomR m.room m.used f.data.length (l.length) with
            | false =>
              rw [HEQ.out, hro, if_neg (by simp)]
              go_enter Try.func40, Try.ntmps40
              go_wp2_with (first | (go_at_call 62; refine (ref_right s _ hs9).mono ?_; rintro e w5 ⟨rfl, hw5⟩; have hw6 := hw5.symm; clear hw5; subst hw6; rw [hok]) | (go_at_call 64; refine (rat_any HH.out s).mono ?_; rintro e w1 ⟨rfl, b1⟩; rw [show pv fb (look m.now s.data.toList) = .pointer (some ⟨fb i, 0, none⟩) from by rw [show look m.now s.data.toList = some i from hl]; rfl]; have H1 : Hid (Rd T w1 d fb m vf vn vs vc ∧ Goes T T w w1) := ⟨HH.out.below b1, Goes.below b1⟩; have t8 : w1.cell? ⟨d, 8, none⟩ = some (.int .i64 (m.rig.part : Nat)) := (H1.out.1.top.2 8 (by omega)).1; clear b1) | (go_at_call 63; refine (rrigged_any H1.out.1).mono ?_; rintro e w2 ⟨rfl, h2, g2⟩; rw [hf]; have H2 : Hid (Rd T w2 d fb m.fails vf vn vs vc ∧ Goes T T w w2) := ⟨h2, H1.out.2.trans g2⟩; clear h2 g2) | (go_at_call 74; refine (rfull_any H2.out.1 (show m.used ≤ _ by omega) HFL.out (l.length) (by omega)).mono ?_; rintro e w3 ⟨rfl, q3, hw3⟩; rw [show (!roomR m.fails.room m.fails.used f.data.length (l.length)) = true from by rw [show roomR m.fails.room m.fails.used f.data.length (l.length) = !true from hro]; rfl]; have H3 : Hid (Rd T w3 d fb m.fails vf vn vs vc ∧ Goes T T w w3) := (by have b3 : Below w2.heap.size w2 w3 := (by rw [hw3]; exact below_drewN (Below.refl _ _) q3); exact ⟨H2.out.1.below b3, H2.out.2.trans (Goes.below b3)⟩); clear hw3))
              go_ret
              exact ⟨rfl, T, Re.of H3.out.1, H3.out.2⟩
            | true =>
              rw [HEQ.out, hro, if_pos rfl]
              go_enter Try.func40, Try.ntmps40
              go_upto_region 11 with (first | (go_at_call 62; refine (ref_right s _ hs9).mono ?_; rintro e w5 ⟨rfl, hw5⟩; have hw6 := hw5.symm; clear hw5; subst hw6; rw [hok]) | (go_at_call 64; refine (rat_any HH.out s).mono ?_; rintro e w1 ⟨rfl, b1⟩; rw [show pv fb (look m.now s.data.toList) = .pointer (some ⟨fb i, 0, none⟩) from by rw [show look m.now s.data.toList = some i from hl]; rfl]; have H1 : Hid (Rd T w1 d fb m vf vn vs vc ∧ Goes T T w w1) := ⟨HH.out.below b1, Goes.below b1⟩; have t8 : w1.cell? ⟨d, 8, none⟩ = some (.int .i64 (m.rig.part : Nat)) := (H1.out.1.top.2 8 (by omega)).1; clear b1) | (go_at_call 63; refine (rrigged_any H1.out.1).mono ?_; rintro e w2 ⟨rfl, h2, g2⟩; rw [hf]; have H2 : Hid (Rd T w2 d fb m.fails vf vn vs vc ∧ Goes T T w w2) := ⟨h2, H1.out.2.trans g2⟩; clear h2 g2) | (go_at_call 74; refine (rfull_any H2.out.1 (show m.used ≤ _ by omega) HFL.out (l.length) (by omega)).mono ?_; rintro e w3 ⟨rfl, q3, hw3⟩; rw [show (!roomR m.fails.room m.fails.used f.data.length (l.length)) = false from by rw [show roomR m.fails.room m.fails.used f.data.length (l.length) = !false from hro]; rfl]; have H3 : Hid (Rd T w3 d fb m.fails vf vn vs vc ∧ Goes T T w w3) := (by have b3 : Below w2.heap.size w2 w3 := (by rw [hw3]; exact below_drewN (Below.refl _ _) q3); exact ⟨H2.out.1.below b3, H2.out.2.trans (Goes.below b3)⟩); clear hw3))
              obtain ⟨a, c, hfa⟩ := H3.out.1.file i f HFL.out
              have cf0 := (hfa.fld.2 0 (by omega)).1
              simp only [fcell, if_true] at cf0
              have HFA2 : Hid (FileAt T w3 (fb i) i f a c) := hfa
              have HBW : Hid (IsB w3 ab l) := isB_goes HB.out HO.out H3.out.2
              have HBG : Hid (f.data.length + (l.take (l.length)).length ≤ 2147483648) := by
                have z : roomR m.fails.room m.fails.used f.data.length (l.length) = true := hro
                simp only [roomR, Bool.and_eq_true, decide_eq_true_eq] at z
                have z2 := z.2
                show f.data.length + (l.take (l.length)).length ≤ 2147483648
                (try simp only [List.length_take])
                omega
              have hncb : l.length ≤ cb := by omega
              have hlt : (l.take (l.length)).length = l.length := by first | rfl | (simp only [List.length_take]; omega)
              clear hfa
              go_region_law (refine step_appHb (by rfl) (.tmp 43) (.tmp 46) 30 (by rfl) i8 Try.underlying30 hi8 y0 y1 y2 a c f.data (by first | rfl | simp [Act.eval, Act.put]) (HFA2.out.own.below (Below.refl _ _).drew) ab (l.length) cb (l.take (l.length)) (by first | rfl | simp [Act.eval, Act.put]) hlt.symm NB.out ((HBW.out.below (Below.refl _ _).drew).take _) (by have := HBG.out; omega) ?_; intro a8 c8 w8 hown8 hgr8 hat8; obtain ⟨z1, z2⟩ := (H3.out.1.below (Below.refl _ _).drew).layFacts (hfa_below HFA2.out (Below.refl _ _).drew) hgr8; have H8 : Hid (∃ T', Rd T' (w8.setCell ⟨fb i, 0, none⟩ (.slice a8 (f.data ++ l.take (l.length)).length c8)) d fb (m.fails.lay i (l.take (l.length))) vf vn vs vc ∧ Goes T T' w (w8.setCell ⟨fb i, 0, none⟩ (.slice a8 (f.data ++ l.take (l.length)).length c8))) := (by obtain ⟨T', r1, r2⟩ := (H3.out.1.below (Below.refl _ _).drew).lay HFL.out (hfa_below HFA2.out (Below.refl _ _).drew) HBG.out hgr8 hown8 hat8; exact ⟨T', r1, (H3.out.2.trans (Goes.below (Below.refl _ _).drew)).trans r2⟩); clear hown8 hgr8 hat8)
              all_goals (
                go_wp2
                go_ret
                obtain ⟨T9, h9, g9⟩ := H8.out
                rw [show (f.data ++ l.take (l.length)).length = f.data.length + (l.length) from by rw [List.length_append, hlt]] at h9 g9
                exact ⟨rfl, T9, Re.of h9, g9⟩)
        | false =>
          cases hro : roomR m.room m.used f.data.length l.length with
          | false =>
            have e : m.append s l = (32, m.fails) := by simp [Rm.append, renter_o hd hf, hok, hl, hln, hro]
            rw [e]
            go_enter Try.func40, Try.ntmps40
            go_wp2_with (first | (go_at_call 62; refine (ref_right s _ hs9).mono ?_; rintro e w5 ⟨rfl, hw5⟩; have hw6 := hw5.symm; clear hw5; subst hw6; rw [hok]) | (go_at_call 64; refine (rat_any HH.out s).mono ?_; rintro e w1 ⟨rfl, b1⟩; rw [show pv fb (look m.now s.data.toList) = .pointer (some ⟨fb i, 0, none⟩) from by rw [show look m.now s.data.toList = some i from hl]; rfl]; have H1 : Hid (Rd T w1 d fb m vf vn vs vc ∧ Goes T T w w1) := ⟨HH.out.below b1, Goes.below b1⟩; have t8 : w1.cell? ⟨d, 8, none⟩ = some (.int .i64 (m.rig.part : Nat)) := (H1.out.1.top.2 8 (by omega)).1; clear b1) | (go_at_call 63; refine (rrigged_any H1.out.1).mono ?_; rintro e w2 ⟨rfl, h2, g2⟩; rw [hf]; have H2 : Hid (Rd T w2 d fb m.fails vf vn vs vc ∧ Goes T T w w2) := ⟨h2, H1.out.2.trans g2⟩; clear h2 g2) | (go_at_call 74; refine (rfull_any H2.out.1 (show m.used ≤ _ by omega) HFL.out (l.length) (by omega)).mono ?_; rintro e w3 ⟨rfl, q3, hw3⟩; rw [show (!roomR m.fails.room m.fails.used f.data.length (l.length)) = true from by rw [show roomR m.fails.room m.fails.used f.data.length (l.length) = !true from hro]; rfl]; have H3 : Hid (Rd T w3 d fb m.fails vf vn vs vc ∧ Goes T T w w3) := (by have b3 : Below w2.heap.size w2 w3 := (by rw [hw3]; exact below_drewN (Below.refl _ _) q3); exact ⟨H2.out.1.below b3, H2.out.2.trans (Goes.below b3)⟩); clear hw3))
            go_ret
            exact ⟨rfl, T, Re.of H3.out.1, H3.out.2⟩
          | true =>
            have HFA : Hid (∀ W (y : Int), Rd T W d fb m.fails vf vn vs vc → y = ((1 + l.length : Nat) : Int) → Calls Try.prog 65 #[.pointer (some ⟨d, 0, none⟩), .int .i64 y] W fun e w' => e = .returned (.tuple #[.int .i64 (((m.fails.spend (1 + l.length)).1 - 1 : Nat) : Int), .bool (decide (0 < (m.fails.spend (1 + l.length)).1))]) ∧ Rd T w' d fb (m.fails.spend (1 + l.length)).2 vf vn vs vc ∧ Goes T T W w') := fun W y hW hy => by
              subst hy
              exact rfalls_any hW (1 + l.length) (by omega)
            have hsl := rspend_le m.fails (1 + l.length)
            by_cases hs1 : 0 < (m.fails.spend (1 + l.length)).1
            · have hs' : decide (0 < (m.fails.spend (1 + l.length)).1) = true := decide_eq_true hs1
              have e : m.append s l = (30, (m.fails.spend (1 + l.length)).2.lay i (l.take ((m.fails.spend (1 + l.length)).1 - 1))) := by simp [Rm.append, renter_o hd hf, hok, hl, hln, hro, hs1]
              rw [e]
              obtain ⟨NX, hNX⟩ : ∃ NX, (m.fails.spend (1 + l.length)).1 - 1 = NX := ⟨_, rfl⟩
              have hk0 : NX ≤ l.length := by omega
              go_enter Try.func40, Try.ntmps40
              go_upto_region 19 with (first | (go_at_call 62; refine (ref_right s _ hs9).mono ?_; rintro e w5 ⟨rfl, hw5⟩; have hw6 := hw5.symm; clear hw5; subst hw6; rw [hok]) | (go_at_call 64; refine (rat_any HH.out s).mono ?_; rintro e w1 ⟨rfl, b1⟩; rw [show pv fb (look m.now s.data.toList) = .pointer (some ⟨fb i, 0, none⟩) from by rw [show look m.now s.data.toList = some i from hl]; rfl]; have H1 : Hid (Rd T w1 d fb m vf vn vs vc ∧ Goes T T w w1) := ⟨HH.out.below b1, Goes.below b1⟩; have t8 : w1.cell? ⟨d, 8, none⟩ = some (.int .i64 (m.rig.part : Nat)) := (H1.out.1.top.2 8 (by omega)).1; clear b1) | (go_at_call 63; refine (rrigged_any H1.out.1).mono ?_; rintro e w2 ⟨rfl, h2, g2⟩; rw [hf]; have H2 : Hid (Rd T w2 d fb m.fails vf vn vs vc ∧ Goes T T w w2) := ⟨h2, H1.out.2.trans g2⟩; clear h2 g2) | (go_at_call 74; refine (rfull_any H2.out.1 (show m.used ≤ _ by omega) HFL.out (l.length) (by omega)).mono ?_; rintro e w3 ⟨rfl, q3, hw3⟩; rw [show (!roomR m.fails.room m.fails.used f.data.length (l.length)) = false from by rw [show roomR m.fails.room m.fails.used f.data.length (l.length) = !false from hro]; rfl]; have H3 : Hid (Rd T w3 d fb m.fails vf vn vs vc ∧ Goes T T w w3) := (by have b3 : Below w2.heap.size w2 w3 := (by rw [hw3]; exact below_drewN (Below.refl _ _) q3); exact ⟨H2.out.1.below b3, H2.out.2.trans (Goes.below b3)⟩); clear hw3) | (go_at_call 65; refine (HFA.out w3 _ H3.out.1 (by first | rfl | omega | go_num)).mono ?_; rintro e w4 ⟨rfl, h4, g4⟩; rw [hs']; have H4 : Hid (Rd T w4 d fb (m.fails.spend (1 + l.length)).2 vf vn vs vc ∧ Goes T T w w4) := ⟨h4, H3.out.2.trans g4⟩; clear h4 g4))
              obtain ⟨a, c, hfa⟩ := H4.out.1.file i f HFL.out
              have cf0 := (hfa.fld.2 0 (by omega)).1
              simp only [fcell, if_true] at cf0
              have HFA2 : Hid (FileAt T w4 (fb i) i f a c) := hfa
              have HBW : Hid (IsB w4 ab l) := isB_goes HB.out HO.out H4.out.2
              have HBG : Hid (f.data.length + (l.take NX).length ≤ 2147483648) := by
                have z : roomR m.fails.room m.fails.used f.data.length (l.length) = true := hro
                simp only [roomR, Bool.and_eq_true, decide_eq_true_eq] at z
                have z2 := z.2
                show f.data.length + (l.take NX).length ≤ 2147483648
                (try simp only [List.length_take])
                omega
              have hncb : NX ≤ cb := by omega
              have hlt : (l.take NX).length = NX := by first | rfl | (simp only [List.length_take]; omega)
              clear hfa
              go_region_law (refine step_appHb (by rfl) (.tmp 70) (.tmp 73) 30 (by rfl) i8 Try.underlying30 hi8 y0 y1 y2 a c f.data (by first | rfl | simp [Act.eval, Act.put]) (HFA2.out.own.below (Below.refl _ _).drew) ab (NX) cb (l.take NX) (by first | rfl | simp [Act.eval, Act.put]) hlt.symm NB.out ((HBW.out.below (Below.refl _ _).drew).take _) (by have := HBG.out; omega) ?_; intro a8 c8 w8 hown8 hgr8 hat8; obtain ⟨z1, z2⟩ := (H4.out.1.below (Below.refl _ _).drew).layFacts (hfa_below HFA2.out (Below.refl _ _).drew) hgr8; have H8 : Hid (∃ T', Rd T' (w8.setCell ⟨fb i, 0, none⟩ (.slice a8 (f.data ++ l.take NX).length c8)) d fb ((m.fails.spend (1 + l.length)).2.lay i (l.take NX)) vf vn vs vc ∧ Goes T T' w (w8.setCell ⟨fb i, 0, none⟩ (.slice a8 (f.data ++ l.take NX).length c8))) := (by obtain ⟨T', r1, r2⟩ := (H4.out.1.below (Below.refl _ _).drew).lay HFL.out (hfa_below HFA2.out (Below.refl _ _).drew) HBG.out hgr8 hown8 hat8; exact ⟨T', r1, (H4.out.2.trans (Goes.below (Below.refl _ _).drew)).trans r2⟩); clear hown8 hgr8 hat8)
              all_goals (
                go_wp2
                go_ret
                obtain ⟨T9, h9, g9⟩ := H8.out
                rw [show (f.data ++ l.take NX).length = f.data.length + NX from by rw [List.length_append, hlt]] at h9 g9
                exact ⟨rfl, T9, by first | exact Re.of h9 | (rw [hNX]; exact Re.of h9), g9⟩)
            · have hs' : decide (0 < (m.fails.spend (1 + l.length)).1) = false := decide_eq_false hs1
              have e : m.append s l = (0, (m.fails.spend (1 + l.length)).2.lay i l) := by simp [Rm.append, renter_o hd hf, hok, hl, hln, hro, hs1]
              rw [e]
              go_enter Try.func40, Try.ntmps40
              go_upto_region 21 with (first | (go_at_call 62; refine (ref_right s _ hs9).mono ?_; rintro e w5 ⟨rfl, hw5⟩; have hw6 := hw5.symm; clear hw5; subst hw6; rw [hok]) | (go_at_call 64; refine (rat_any HH.out s).mono ?_; rintro e w1 ⟨rfl, b1⟩; rw [show pv fb (look m.now s.data.toList) = .pointer (some ⟨fb i, 0, none⟩) from by rw [show look m.now s.data.toList = some i from hl]; rfl]; have H1 : Hid (Rd T w1 d fb m vf vn vs vc ∧ Goes T T w w1) := ⟨HH.out.below b1, Goes.below b1⟩; have t8 : w1.cell? ⟨d, 8, none⟩ = some (.int .i64 (m.rig.part : Nat)) := (H1.out.1.top.2 8 (by omega)).1; clear b1) | (go_at_call 63; refine (rrigged_any H1.out.1).mono ?_; rintro e w2 ⟨rfl, h2, g2⟩; rw [hf]; have H2 : Hid (Rd T w2 d fb m.fails vf vn vs vc ∧ Goes T T w w2) := ⟨h2, H1.out.2.trans g2⟩; clear h2 g2) | (go_at_call 74; refine (rfull_any H2.out.1 (show m.used ≤ _ by omega) HFL.out (l.length) (by omega)).mono ?_; rintro e w3 ⟨rfl, q3, hw3⟩; rw [show (!roomR m.fails.room m.fails.used f.data.length (l.length)) = false from by rw [show roomR m.fails.room m.fails.used f.data.length (l.length) = !false from hro]; rfl]; have H3 : Hid (Rd T w3 d fb m.fails vf vn vs vc ∧ Goes T T w w3) := (by have b3 : Below w2.heap.size w2 w3 := (by rw [hw3]; exact below_drewN (Below.refl _ _) q3); exact ⟨H2.out.1.below b3, H2.out.2.trans (Goes.below b3)⟩); clear hw3) | (go_at_call 65; refine (HFA.out w3 _ H3.out.1 (by first | rfl | omega | go_num)).mono ?_; rintro e w4 ⟨rfl, h4, g4⟩; rw [hs']; have H4 : Hid (Rd T w4 d fb (m.fails.spend (1 + l.length)).2 vf vn vs vc ∧ Goes T T w w4) := ⟨h4, H3.out.2.trans g4⟩; clear h4 g4))
              obtain ⟨a, c, hfa⟩ := H4.out.1.file i f HFL.out
              have cf0 := (hfa.fld.2 0 (by omega)).1
              simp only [fcell, if_true] at cf0
              have HFA2 : Hid (FileAt T w4 (fb i) i f a c) := hfa
              have HBW : Hid (IsB w4 ab l) := isB_goes HB.out HO.out H4.out.2
              have HBG : Hid (f.data.length + (l).length ≤ 2147483648) := by
                have z : roomR m.fails.room m.fails.used f.data.length (l.length) = true := hro
                simp only [roomR, Bool.and_eq_true, decide_eq_true_eq] at z
                have z2 := z.2
                show f.data.length + (l).length ≤ 2147483648
                (try simp only [List.length_take])
                omega
              have hncb : l.length ≤ cb := by omega
              have hlt : (l).length = l.length := by first | rfl | (simp only [List.length_take]; omega)
              clear hfa
              go_wp2_with (at_builtin; refine wpList_appHb (by rfl) (.tmp 81) (.tmp 82) 30 (by rfl) i8 Try.underlying30 hi8 y0 y1 y2 a c f.data (by first | rfl | simp [Act.eval, Act.put]) HFA2.out.own ab (l.length) cb (l) (by first | rfl | simp [Act.eval, Act.put]) hlt.symm NB.out HBW.out (by have := HBG.out; omega) ?_; intro a8 c8 w8 hown8 hgr8 hat8; obtain ⟨z1, z2⟩ := H4.out.1.layFacts HFA2.out hgr8; have H8 : Hid (∃ T', Rd T' (w8.setCell ⟨fb i, 0, none⟩ (.slice a8 (f.data ++ l).length c8)) d fb ((m.fails.spend (1 + l.length)).2.lay i (l)) vf vn vs vc ∧ Goes T T' w (w8.setCell ⟨fb i, 0, none⟩ (.slice a8 (f.data ++ l).length c8))) := (by obtain ⟨T', r1, r2⟩ := H4.out.1.lay HFL.out HFA2.out HBG.out hgr8 hown8 hat8; exact ⟨T', r1, (H4.out.2.trans (Goes.below (Below.refl _ _))).trans r2⟩); clear hown8 hgr8 hat8)
              go_ret
              obtain ⟨T9, h9, g9⟩ := H8.out
              first | exact ⟨rfl, T9, Re.of h9, g9⟩ | (rw [List.length_append] at h9 g9; exact ⟨rfl, T9, Re.of h9, g9⟩)
end Dsk
end Go.Proofs.Ytbloifnibgdeoaa
