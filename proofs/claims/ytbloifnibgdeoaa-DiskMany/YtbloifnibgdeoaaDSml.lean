import Derived.Test.YtbloifnibgdeoaaProg
import Derived.Test.YtbloifnibgdeoaaDDel
import Derived.WalkKit
import Derived.WalkSpells
import Derived.WalkLawsBesides
namespace Go.Proofs.Ytbloifnibgdeoaa
namespace Dsk
open Go.RowKit Go.Maps Go.Sort Byt Laws
set_option linter.unusedVariables false
set_option maxRecDepth 100000

/-- P3.2 to P3.4: SyncDir. -/
def Dm.syncDir (m : Dm) : Int × Dm :=
  if (m.enter true).1 ≠ 0 then m.enter true
  else if 0 < ((m.enter true).2.spend 1).1 then (30, ((m.enter true).2.spend 1).2) else (0, { ((m.enter true).2.spend 1).2 with ch := [] })

theorem Pdi.clear {T : Nat → Nat} {w w' : World} {d mb : Nat} {fb : Nat → Nat} {m : Dm} {cv : Value} {D : DataW (Option Addr)} (h : Pdi T w d mb fb m cv D) (hk : Keep [d] w w') (ht : IsTop w' d ⟨m.rig, m.room, m.used, .map (some mb), .slice none 0 0, m.down⟩) : Pdi T w' d mb fb { m with ch := [] } (.slice none 0 0) D := by
  have htd := h.td
  refine { h with top := ht, fresh := fun b hb => h.fresh b (Nat.le_trans hk.size hb), chg := World.ownsRow_nil _ _ _ _, tc := (fun b hb => by cases hb), map := ?_, file := fun i f hf => ?_, cids := (fun c hc => by cases hc), csz := (fun c hc => by cases hc) }
  · obtain ⟨es, clock, h1, h2⟩ := h.map
    refine ⟨es, clock, (hk.block mb h.map.lt ?_).trans h1, h2⟩
    simp; intro e; have := h.tm; rw [e, htd] at this; omega
  · obtain ⟨a, c, hf⟩ := h.file i f hf
    exact ⟨a, c, hf.keep hk (by intro x hx; simp at hx; subst hx; omega) (by intro x hx; simp at hx; subst hx; omega)⟩

set_option maxHeartbeats 1000000 in
theorem syncDir_any {T : Nat → Nat} {w : World} {d mb : Nat} {fb : Nat → Nat} {m : Dm} (h : Pd T w d mb fb m) :
    Calls Try.prog 32 #[.pointer (some ⟨d, 0, none⟩)] w fun e w' => e = .returned (.int .i64 m.syncDir.1) ∧ Pd T w' d mb fb m.syncDir.2 ∧ Goes T T w w' := by
  obtain ⟨cv, D, h⟩ := h
  have HH : Hid (Pdi T w d mb fb m cv D) := h
  clear h
  go_enter Try.func32, Try.ntmps32
  go_wp2_with fail
  refine (enter_pd HH.out none 0 0 [] (by simp) rfl (Nat.le_refl _) (by omega) (by simp)).mono ?_
  rintro e w1 ⟨rfl, h1, g1, _⟩
  have hall : ([] : List ByteArray).all okN = true := rfl
  rw [hall] at h1 ⊢
  have H1 : Hid (Pdi T w1 d mb fb (m.enter true).2 cv D ∧ Goes T T w w1) := ⟨h1, g1⟩
  clear h1 g1 hall
  by_cases he : (m.enter true).1 = 0
  · rw [he]
    go_wp2_with fail
    refine (spend_pd H1.out.1 1 (by omega)).mono ?_
    rintro e w2 ⟨rfl, h2, g2⟩
    have H2 : Hid (Pdi T w2 d mb fb ((m.enter true).2.spend 1).2 cv D ∧ Goes T T w w2) := ⟨h2, H1.out.2.trans g2⟩
    have c7 := (h2.top.1.2 7 (by omega)).1
    have f7 := (h2.top.1.2 7 (by omega)).2
    simp only [Top.cell] at c7
    clear h2 g2
    by_cases hp : 0 < ((m.enter true).2.spend 1).1
    · have hp' : (0 : Int) < (((m.enter true).2.spend 1).1 : Int) := by omega
      go_wp2
      go_ret
      have e : m.syncDir = (30, ((m.enter true).2.spend 1).2) := by
        unfold Dm.syncDir
        rw [if_neg (by simp [he]), if_pos hp]
      rw [e]
      exact ⟨rfl, ⟨cv, D, H2.out.1⟩, H2.out.2⟩
    · have hp' : ((m.enter true).2.spend 1).1 = 0 := by omega
      rw [hp']
      go_wp2
      go_ret
      have e : m.syncDir = (0, { ((m.enter true).2.spend 1).2 with ch := [] }) := by
        unfold Dm.syncDir
        rw [if_neg (by simp [he]), if_neg hp]
      rw [e]
      have hk := Keep.set w2 d 7 (.slice none 0 0)
      exact ⟨rfl, ⟨_, D, H2.out.1.clear hk ⟨(H2.out.1.top.1.set 7 (by omega) _).eq (nine rfl rfl rfl rfl rfl rfl rfl rfl rfl), H2.out.1.top.2⟩⟩, H2.out.2.trans (H2.out.1.goes hk)⟩
  · have he0 : ((m.enter true).1 != 0) = true := by simp [he]
    go_wp2
    go_ret
    have e : m.syncDir = m.enter true := by unfold Dm.syncDir; rw [if_pos he]
    rw [e]
    exact ⟨rfl, ⟨cv, D, H1.out.1⟩, H1.out.2⟩

theorem down_any {T : Nat → Nat} {w : World} {d mb : Nat} {fb : Nat → Nat} {m : Dm} (h : Pd T w d mb fb m) :
    Calls Try.prog 15 #[.pointer (some ⟨d, 0, none⟩)] w fun e w' => e = .returned (.bool m.down) ∧ w' = w := by
  obtain ⟨cv, D, h⟩ := h
  have c8 := (h.top.1.2 8 (by omega)).1
  simp only [Top.cell] at c8
  clear h
  go_enter Try.func15, Try.ntmps15
  go_wp2
  go_ret
  exact ⟨rfl, rfl⟩

def Dm.arm (m : Dm) (n : Int) : Dm := { m with rig := { m.rig with units := n.toNat } }
def Dm.fail (m : Dm) (a c p : Int) : Dm := { m with rig := { m.rig with after := a.toNat, calls := c.toNat, part := p.toNat } }
set_option maxHeartbeats 1000000 in
theorem arm_any {T : Nat → Nat} {w : World} {d mb : Nat} {fb : Nat → Nat} {m : Dm} (h : Pd T w d mb fb m) (n : Int) (hn : n ≤ 9223372036854775807) :
    Calls Try.prog 19 #[.pointer (some ⟨d, 0, none⟩), .int .i64 n] w fun e w' => e = .returned (.tuple #[]) ∧ Pd T w' d mb fb (m.arm n) ∧ Goes T T w w' := by
  obtain ⟨cv, D, h⟩ := h
  have HH : Hid (Pdi T w d mb fb m cv D) := h
  have c0 := (h.top.1.2 0 (by omega)).1
  have f0 := (h.top.1.2 0 (by omega)).2
  simp only [Top.cell] at c0
  clear h
  have fin : ∀ v : Int, v = (n.toNat : Int) → Pd T (w.setCell ⟨d, 0, none⟩ (.int .i64 v)) d mb fb (m.arm n) ∧ Goes T T w (w.setCell ⟨d, 0, none⟩ (.int .i64 v)) := by
    rintro v rfl
    have hk := Keep.set w d 0 (.int .i64 (n.toNat : Int))
    have hr := HH.out.top.2
    exact ⟨⟨cv, D, HH.out.turn hk (r := { m.rig with units := n.toNat }) (dn := m.down) ⟨(HH.out.top.1.set 0 (by omega) _).eq (nine rfl rfl rfl rfl rfl rfl rfl rfl rfl), ⟨by show n.toNat ≤ _; omega, hr.2.1, hr.2.2.1, hr.2.2.2⟩⟩⟩, HH.out.goes hk⟩
  have FIN : Hid (∀ v : Int, v = (n.toNat : Int) → Pd T (w.setCell ⟨d, 0, none⟩ (.int .i64 v)) d mb fb (m.arm n) ∧ Goes T T w (w.setCell ⟨d, 0, none⟩ (.int .i64 v))) := fin
  clear fin
  go_enter Try.func19, Try.ntmps19
  go_wp2
  all_goals
    go_end0
    exact ⟨rfl, FIN.out _ (by omega)⟩
set_option maxHeartbeats 1000000 in
theorem fail_any {T : Nat → Nat} {w : World} {d mb : Nat} {fb : Nat → Nat} {m : Dm} (h : Pd T w d mb fb m) (x y z : Int) (hx : x ≤ 9223372036854775807) (hy : y ≤ 9223372036854775807) (hz : z ≤ 9223372036854775807) :
    Calls Try.prog 37 #[.pointer (some ⟨d, 0, none⟩), .int .i64 x, .int .i64 y, .int .i64 z] w fun e w' => e = .returned (.tuple #[]) ∧ Pd T w' d mb fb (m.fail x y z) ∧ Goes T T w w' := by
  obtain ⟨cv, D, h⟩ := h
  have HH : Hid (Pdi T w d mb fb m cv D) := h
  have c1 := (h.top.1.2 1 (by omega)).1
  have f1 := (h.top.1.2 1 (by omega)).2
  have c2 := (h.top.1.2 2 (by omega)).1
  have f2 := (h.top.1.2 2 (by omega)).2
  have c3 := (h.top.1.2 3 (by omega)).1
  have f3 := (h.top.1.2 3 (by omega)).2
  simp only [Top.cell] at c1 c2 c3
  clear h
  have FIN : Hid (∀ u v t : Int, u = (x.toNat : Int) → v = (y.toNat : Int) → t = (z.toNat : Int) → Pd T (((w.setCell ⟨d, 1, none⟩ (.int .i64 u)).setCell ⟨d, 2, none⟩ (.int .i64 v)).setCell ⟨d, 3, none⟩ (.int .i64 t)) d mb fb (m.fail x y z) ∧ Goes T T w (((w.setCell ⟨d, 1, none⟩ (.int .i64 u)).setCell ⟨d, 2, none⟩ (.int .i64 v)).setCell ⟨d, 3, none⟩ (.int .i64 t))) := by
    rintro u v t rfl rfl rfl
    have hk := ((Keep.set w d 1 (.int .i64 (x.toNat : Int))).trans (Keep.set _ d 2 (.int .i64 (y.toNat : Int)))).trans (Keep.set _ d 3 (.int .i64 (z.toNat : Int)))
    have hr := HH.out.top.2
    exact ⟨⟨cv, D, HH.out.turn hk (r := { m.rig with after := x.toNat, calls := y.toNat, part := z.toNat }) (dn := m.down) ⟨(((HH.out.top.1.set 1 (by omega) _).set 2 (by omega) _).set 3 (by omega) _).eq (nine rfl rfl rfl rfl rfl rfl rfl rfl rfl), ⟨hr.1, by show x.toNat ≤ _; omega, by show y.toNat ≤ _; omega, by show z.toNat ≤ _; omega⟩⟩⟩, HH.out.goes hk⟩
  go_enter Try.func37, Try.ntmps37
  go_wp2
  all_goals
    go_end0
    exact ⟨rfl, FIN.out _ _ _ (by omega) (by omega) (by omega)⟩
end Dsk
end Go.Proofs.Ytbloifnibgdeoaa
