import Derived.Test.YtbloifnibgdeoaaProg
import Derived.Test.YtbloifnibgdeoaaDDir
import Derived.WalkKit
import Derived.WalkSpells
import Derived.WalkLawsBesides
import Derived.Deep.RegionLaw
import Derived.Deep.DrawnRows
namespace Go.Proofs.Ytbloifnibgdeoaa
namespace Dsk
open Go.RowKit Go.Maps Go.Sort Byt Laws
set_option linter.unusedVariables false
set_option maxRecDepth 100000
attribute [local go_sem ↓] Go.wp_at_zero Go.wp_at_succ

/-- P3.2, P3.3: Delete. -/
def Dm.delete (m : Dm) (s : ByteArray) : Int × Dm :=
  if (m.reach (okN s) (ky s)).1 = 0 then (0, { (m.reach (okN s) (ky s)).2.note ⟨s, look m.now (ky s), ⟨#[]⟩, none⟩ with now := del m.now (ky s) })
  else m.reach (okN s) (ky s)

set_option maxHeartbeats 1000000 in
theorem delete_any {T : Nat → Nat} {w : World} {d mb : Nat} {fb : Nat → Nat} {m : Dm} (h : Pd T w d mb fb m) (s : ByteArray) (hs : s.size ≤ maxLen) (hch : m.ch.length ≤ 1000000) (hu : m.used ≤ 9223372036854775807) :
    Calls Try.prog 31 #[.pointer (some ⟨d, 0, none⟩), .string s] w fun e w' => e = .returned (.int .i64 (m.delete s).1) ∧ ∃ T', Pd T' w' d mb fb (m.delete s).2 ∧ Goes T T' w w' := by
  obtain ⟨cv, D, h⟩ := h
  have HH : Hid (Pdi T w d mb fb m cv D) := h
  have HS : Hid (s.size ≤ maxLen) := hs
  clear h hs
  go_enter Try.func31, Try.ntmps31
  go_wp2_with fail
  refine (reach_one HH.out s HS.out).mono ?_
  rintro e w1 ⟨rfl, h1, g1⟩
  obtain ⟨m1, hm1⟩ : ∃ m1, m1 = (m.reach (okN s) (ky s)).2 := ⟨_, rfl⟩
  have HM1 : Hid (m1 = (m.reach (okN s) (ky s)).2) := hm1
  rw [← hm1] at h1
  have H1 : Hid (Pdi T w1 d mb fb m1 cv D ∧ Goes T T w w1) := ⟨h1, g1⟩
  have HSM : Hid (m1.now = m.now ∧ m1.fl = m.fl ∧ m1.ch = m.ch) := by have := reach_same m (okN s) (ky s); rw [hm1]; exact ⟨this.1, this.2.1, this.2.2.1⟩
  obtain ⟨ec, hec⟩ : ∃ ec, ec = (m.reach (okN s) (ky s)).1 := ⟨_, rfl⟩
  have HEC : Hid (ec = (m.reach (okN s) (ky s)).1) := hec
  rw [← hec]
  by_cases he : ec = 0
  · obtain ⟨i, hi⟩ := reach_ok (hec.symm.trans he)
    subst he
    rw [reachV_ok, hi]
    simp only [pv]
    have HI : Hid (look m.now (ky s) = some i) := hi
    have hi1 : look m1.now (ky s) = some i := by rw [HSM.out.1]; exact hi
    have HI1 : Hid (look m1.now (ky s) = some i) := hi1
    have hlt : i < m1.fl.length := h1.ids _ (look_some hi1)
    clear hm1 h1 g1 hec hi hi1
    go_wp2_with fail
    refine (note_any ⟨cv, D, H1.out.1⟩ ⟨s, some i, ⟨#[]⟩, none⟩ ⟨(fun j e => by cases e; exact hlt), (fun j e => by cases e)⟩ (by rw [HSM.out.2.2]; exact hch) ⟨HS.out, Nat.zero_le _⟩).mono ?_
    rintro e w2 ⟨rfl, T2, ⟨cv2, D2, h2⟩, g2⟩
    have H2 : Hid (Pdi T2 w2 d mb fb (m1.note ⟨s, some i, ⟨#[]⟩, none⟩) cv2 D2 ∧ Goes T T2 w w2) := ⟨h2, H1.out.2.trans g2⟩
    obtain ⟨f, hf⟩ : ∃ f, m1.fl[i]? = some f := ⟨_, List.getElem?_eq_getElem hlt⟩
    obtain ⟨a, c, hfa⟩ := h2.file i f hf
    have HF : Hid (m1.fl[i]? = some f) := hf
    have cf0 := (hfa.fld.2 0 (by omega)).1
    have c5 := (h2.top.1.2 5 (by omega)).1
    have f5 := (h2.top.1.2 5 (by omega)).2
    have c6 := (h2.top.1.2 6 (by omega)).1
    simp only [fcell, if_true, Top.cell] at cf0 c5 c6
    have hue : (m1.note ⟨s, some i, ⟨#[]⟩, none⟩).used = m.used := by show usedOf m1.fl m1.now = usedOf m.fl m.now; rw [HSM.out.1, HSM.out.2.1]
    rw [hue] at c5
    have hsub := usedOf_del (fl := m1.fl) H1.out.1.dir.rises HI1.out
    rw [lenOf_some hf] at hsub
    have hlu : f.data.length ≤ m.used := by
      have : usedOf m1.fl m1.now = m.used := hue
      omega
    have HSUB : Hid (usedOf m1.fl (del m1.now (ky s)) + f.data.length = m.used) := by show _ = _; rw [hsub]; exact hue
    have hsi : (m.used : Int) - (f.data.length : Int) = ((m.used - f.data.length : Nat) : Int) := by omega
    have hdm : d ≠ mb := by rintro rfl; have h1 := h2.td; have h2 := h2.tm; omega
    clear h2 g2 hf hfa hue hsub
    go_wp2
    go_region
    have k3 : Keep [d] w2 (w2.setCell ⟨d, 5, none⟩ (.int .i64 ((m.used - f.data.length : Nat) : Int))).drew := (Keep.set _ _ _ _).trans (Keep.drew _ _)
    have t3 : IsTop (w2.setCell ⟨d, 5, none⟩ (.int .i64 ((m.used - f.data.length : Nat) : Int))).drew d ⟨m1.rig, m1.room, usedOf m1.fl (del m1.now (ky s)), .map (some mb), cv2, m1.down⟩ := by
      have e : m.used - f.data.length = usedOf m1.fl (del m1.now (ky s)) := by have := HSUB.out; omega
      refine ⟨Fld.keep (((H2.out.1.top.1.set 5 (by omega) _).eq (nine rfl rfl rfl rfl rfl ?_ rfl rfl rfl))) (Keep.drew [] _) (by simp), H2.out.1.top.2⟩
      rw [upd_same, e]; rfl
    have o3 : (w2.setCell ⟨d, 5, none⟩ (.int .i64 ((m.used - f.data.length : Nat) : Int))).drew.ownsMap Try.prog 9 ptrR mb (m1.note ⟨s, some i, ⟨#[]⟩, none⟩).now.length D2 := by
      obtain ⟨es, clock, z1, z2⟩ := H2.out.1.map
      exact ⟨es, clock, (k3.block mb H2.out.1.map.lt (by simp; exact Ne.symm hdm)).trans z1, z2⟩
    have c63 := (t3.1.2 6 (by omega)).1
    simp only [Top.cell] at c63
    have H3 : Hid (Keep [d] w2 (w2.setCell ⟨d, 5, none⟩ (.int .i64 ((m.used - f.data.length : Nat) : Int))).drew ∧ IsTop (w2.setCell ⟨d, 5, none⟩ (.int .i64 ((m.used - f.data.length : Nat) : Int))).drew d ⟨m1.rig, m1.room, usedOf m1.fl (del m1.now (ky s)), .map (some mb), cv2, m1.down⟩ ∧ (w2.setCell ⟨d, 5, none⟩ (.int .i64 ((m.used - f.data.length : Nat) : Int))).drew.ownsMap Try.prog 9 ptrR mb (m1.note ⟨s, some i, ⟨#[]⟩, none⟩).now.length D2) := ⟨k3, t3, o3⟩
    clear k3 t3 o3 cf0 c5 f5 c6 hsi
    generalize (w2.setCell ⟨d, 5, none⟩ (.int .i64 ((m.used - f.data.length : Nat) : Int))).drew = w3 at *
    go_wp2_with (at_delete; refine wpList_delete_own _ (by rfl) (.tmp 37) (.tmp 38) 82 9 (by rfl) 87 keyed Try.underlying82 ptrR mb _ D2 (by rfl) H3.out.2.2 _ (.string (ky s)) (by rfl) (keyOf_s s HS.out) ?_; intro w4 ho4 ht4; have H4 : Hid (w4.ownsMap Try.prog 9 ptrR mb (m1.note ⟨s, some i, ⟨#[]⟩, none⟩).now.length (D2.del (.string (ky s))) ∧ Keep [mb] w3 w4) := ⟨ho4, Keep.grown ht4.grown⟩; clear ho4 ht4)
    go_ret
    have e : m.delete s = (0, { m1.note ⟨s, some i, ⟨#[]⟩, none⟩ with now := del m1.now (ky s) }) := by
      have e1 := HSM.out.1
      rw [HM1.out] at e1 ⊢
      unfold Dm.delete
      rw [if_pos HEC.out.symm, HI.out, e1]
    rw [e]
    obtain ⟨z1, z2⟩ := H2.out.1.redir (w' := w4) (now' := del m1.now (ky s)) ((H3.out.1.mono (by simp)).trans (H4.out.2.mono (by simp))) (H3.out.2.1.keep H4.out.2 (by simp; exact hdm)) H4.out.1 (H2.out.1.dir.del (ky s)) (fun p hp => H2.out.1.ids p (mem_del hp)) (nodup_del H2.out.1.apart _) (Nat.le_trans (len_del _ _) H2.out.1.most)
    exact ⟨rfl, T2, ⟨cv2, _, z1⟩, H2.out.2.trans z2⟩
  · have he0 : (ec != 0) = true := by simp [he]
    rw [reachV_no fb he]
    clear hm1 h1 g1 hec
    go_wp2
    go_ret
    have e : m.delete s = (ec, m1) := by
      rw [HM1.out]; unfold Dm.delete
      rw [if_neg (by rw [← HEC.out]; exact he), HEC.out]
    rw [e]
    exact ⟨rfl, T, ⟨cv, D, H1.out.1⟩, H1.out.2⟩
end Dsk
end Go.Proofs.Ytbloifnibgdeoaa
