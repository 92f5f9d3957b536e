import Derived.Test.YtbloifnibgdeoaaProg
import Derived.Test.YtbloifnibgdeoaaDRch
import Derived.WalkKit
import Derived.WalkSpells
import Derived.WalkLawsBesides
import Derived.Deep.RegionLaw
import Derived.Deep.DrawnRows
namespace Go.Proofs.Ytbloifnibgdeoaa
namespace Dsk
open Go.RowKit Go.Maps Go.Sort Byt Laws
set_option linter.unusedVariables false
set_option maxRecDepth 100000

theorem usedOf_same {fl fl' : List Fl} (h : ∀ i, lenOf fl' i = lenOf fl i) (l : List (Key × Nat)) : usedOf fl' l = usedOf fl l := by
  unfold usedOf
  congr 1
  exact List.map_congr_left fun p _ => h p.2
/-- A file's cells turn; its length doesn't. -/
theorem Pdi.setFile {T : Nat → Nat} {w w' : World} {d mb : Nat} {fb : Nat → Nat} {m : Dm} {cv : Value} {D : DataW (Option Addr)} (h : Pdi T w d mb fb m cv D) {i : Nat} {f f' : Fl} (hf : m.fl[i]? = some f) (hk : Keep [fb i] w w') {a' : Option Addr} {c' : Nat}
    (hfa : FileAt T w' (fb i) i f' a' c') (hlen : f'.data.length = f.data.length) : Pdi T w' d mb fb { m with fl := m.fl.set i f' } cv D := by
  have hi : i < m.fl.length := (List.getElem?_eq_some_iff.1 hf).1
  have htf := hfa.tag
  have hu : ({ m with fl := m.fl.set i f' } : Dm).used = m.used := by
    refine usedOf_same (fun j => ?_) m.now
    by_cases e : j = i
    · subst e
      rw [lenOf_set_same _ hi, lenOf_some hf, hlen]
    · exact lenOf_set_other _ e
  refine { h with top := ?_, fresh := fun b hb => h.fresh b (Nat.le_trans hk.size hb), chg := hk.own h.chg ?_, map := ?_, file := fun j g hj => ?_, ids := ?_, cids := ?_ }
  · rw [hu]
    refine h.top.keep hk ?_
    simp; intro e; have := h.td; rw [e, htf] at this; omega
  · intro g hg hm
    have := h.tc g hg
    simp at hm; rw [hm, htf] at this; omega
  · obtain ⟨es, clock, h1, h2⟩ := h.map
    refine ⟨es, clock, (hk.block mb h.map.lt ?_).trans h1, h2⟩
    simp; intro e; have := h.tm; rw [e, htf] at this; omega
  · by_cases e : j = i
    · subst e
      have : g = f' := by
        have hj' : (m.fl.set j f')[j]? = some g := hj
        rw [List.getElem?_set_self hi] at hj'; exact (Option.some.inj hj').symm
      subst this
      exact ⟨a', c', hfa⟩
    · have hj' : m.fl[j]? = some g := by
        have hj' : (m.fl.set i f')[j]? = some g := hj
        rwa [List.getElem?_set_ne (Ne.symm e)] at hj'
      obtain ⟨a2, c2, hfj⟩ := h.file j g hj'
      exact ⟨a2, c2, hfj.keep hk (by intro x hx; simp at hx; subst hx; omega) (by intro x hx; simp at hx; subst hx; omega)⟩
  · intro p hp
    show p.2 < (m.fl.set i f').length
    rw [List.length_set]; exact h.ids p hp
  · intro c hc
    show (∀ j, _ → j < (m.fl.set i f').length) ∧ (∀ j, _ → j < (m.fl.set i f').length)
    rw [List.length_set]; exact h.cids c hc

/-- All bytes of file i are sure. -/
def Dm.sure (m : Dm) (i : Nat) : Dm := match m.fl[i]? with
  | some f => { m with fl := m.fl.set i { f with sure := f.data.length } }
  | none => m
/-- P3.2, P3.3: Sync. -/
def Dm.sync (m : Dm) (s : ByteArray) : Int × Dm :=
  if (m.reach (okN s) (ky s)).1 = 0 then (0, match look m.now (ky s) with
    | some i => (m.reach (okN s) (ky s)).2.sure i
    | none => (m.reach (okN s) (ky s)).2)
  else m.reach (okN s) (ky s)

set_option maxHeartbeats 1000000 in
theorem sync_any {T : Nat → Nat} {w : World} {d mb : Nat} {fb : Nat → Nat} {m : Dm} (h : Pd T w d mb fb m) (s : ByteArray) (hs : s.size ≤ maxLen) :
    Calls Try.prog 28 #[.pointer (some ⟨d, 0, none⟩), .string s] w fun e w' => e = .returned (.int .i64 (m.sync s).1) ∧ Pd T w' d mb fb (m.sync s).2 ∧ Goes T T w w' := by
  obtain ⟨cv, D, h⟩ := h
  have HH : Hid (Pdi T w d mb fb m cv D) := h
  have HS : Hid (s.size ≤ maxLen) := hs
  clear h hs
  go_enter Try.func28, Try.ntmps28
  go_wp2_with fail
  refine (reach_one HH.out s HS.out).mono ?_
  rintro e w1 ⟨rfl, h1, g1⟩
  obtain ⟨m1, hm1⟩ : ∃ m1, m1 = (m.reach (okN s) (ky s)).2 := ⟨_, rfl⟩
  have HM1 : Hid (m1 = (m.reach (okN s) (ky s)).2) := hm1
  rw [← hm1] at h1
  have H1 : Hid (Pdi T w1 d mb fb m1 cv D ∧ Goes T T w w1) := ⟨h1, g1⟩
  have HSM : Hid (m1.fl = m.fl ∧ m1.now = m.now) := by have := reach_same m (okN s) (ky s); rw [hm1]; exact ⟨this.2.1, this.1⟩
  obtain ⟨ec, hec⟩ : ∃ ec, ec = (m.reach (okN s) (ky s)).1 := ⟨_, rfl⟩
  have HEC : Hid (ec = (m.reach (okN s) (ky s)).1) := hec
  rw [← hec]
  by_cases he : ec = 0
  · obtain ⟨i, hi⟩ := reach_ok (hec.symm.trans he)
    subst he
    rw [reachV_ok, hi]
    simp only [pv]
    obtain ⟨f, hf⟩ : ∃ f, m1.fl[i]? = some f := ⟨_, List.getElem?_eq_getElem (h1.ids _ (by rw [HSM.out.2]; exact look_some hi))⟩
    obtain ⟨a, c, hfa⟩ := h1.file i f hf
    have HF : Hid (m1.fl[i]? = some f ∧ FileAt T w1 (fb i) i f a c) := ⟨hf, hfa⟩
    have cf0 := (hfa.fld.2 0 (by omega)).1
    have cf1 := (hfa.fld.2 1 (by omega)).1
    have ff1 := (hfa.fld.2 1 (by omega)).2
    simp only [fcell, if_true, Nat.one_ne_zero, if_false] at cf0 cf1
    clear hm1 h1 g1 hec hf hfa
    go_wp2
    go_ret
    have e : m.sync s = (0, m1.sure i) := by
      rw [HM1.out]; unfold Dm.sync
      rw [if_pos HEC.out.symm, hi]
    rw [e]
    have e2 : m1.sure i = { m1 with fl := m1.fl.set i { f with sure := f.data.length } } := by unfold Dm.sure; rw [HF.out.1]
    rw [e2]
    have hk := Keep.set w1 (fb i) 1 (.int .i64 (f.data.length : Nat))
    have hfa := HF.out.2
    have htf := hfa.tag
    refine ⟨rfl, ⟨cv, D, H1.out.1.setFile HF.out.1 hk (a' := a) (c' := c) (f' := { f with sure := f.data.length }) ⟨htf, ?_, hfa.own.keep hk ?_, hfa.mine, Nat.le_refl _, hfa.big⟩ rfl⟩, H1.out.2.trans (Goes.keep hk ?_)⟩
    · refine (hfa.fld.set 1 (by omega) _).eq ?_
      intro j hj
      match j, hj with
      | 0, _ => rfl
      | 1, _ => rfl
    · intro g hg hm
      simp at hm
      cases a with
      | none => cases hg
      | some ad =>
        cases hg
        have := hfa.mine ad rfl
        rw [hm, htf] at this; omega
    · intro b hb _
      simp at hb; subst hb; rw [htf]; omega
  · have he0 : (ec == 0) = false := by simp [he]
    rw [reachV_no fb he]
    clear hm1 h1 g1 hec
    go_wp2
    go_ret
    have e : m.sync s = (ec, m1) := by
      rw [HM1.out]; unfold Dm.sync
      rw [if_neg (by rw [← HEC.out]; exact he), HEC.out]
    rw [e]
    exact ⟨rfl, ⟨cv, D, H1.out.1⟩, H1.out.2⟩
end Dsk
end Go.Proofs.Ytbloifnibgdeoaa
