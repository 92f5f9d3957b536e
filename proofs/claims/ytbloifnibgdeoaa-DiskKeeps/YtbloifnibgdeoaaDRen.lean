import Derived.Test.YtbloifnibgdeoaaProg
import Derived.Test.YtbloifnibgdeoaaDDel
import Derived.WalkKit
import Derived.WalkSpells
import Derived.WalkLawsBesides
import Derived.Deep.RegionLaw
import Derived.Deep.DrawnRows
namespace Go.Proofs.Ytbloifnibgdeoaa
namespace Dsk
open Go.RowKit Go.Maps Go.Sort Byt Laws
set_option linter.unusedVariables false
set_option maxRecDepth 100000
attribute [local go_sem ↓] Go.wp_at_zero Go.wp_at_succ

/-- P3.2, P3.3: Rename. -/
def Dm.rename (m : Dm) (s t : ByteArray) : Int × Dm :=
  if (m.reach (okN s && okN t) (ky s)).1 = 0 ∧ s ≠ t then
    match look m.now (ky s) with
    | some i => (0, { (m.reach (okN s && okN t) (ky s)).2.note ⟨s, some i, t, look m.now (ky t)⟩ with now := ins (del m.now (ky s)) (ky t) i })
    | none => m.reach (okN s && okN t) (ky s)
  else m.reach (okN s && okN t) (ky s)
theorem ky_ne {s t : ByteArray} (h : s ≠ t) : ky s ≠ ky t := fun e => h (by
  cases s; cases t
  simp only [ky] at e
  congr
  exact Array.toList_inj.1 e)
theorem del_ins {l : List (Key × Nat)} (h : Rises l) {k k' : Key} (hne : k ≠ k') (i : Nat) : del (ins l k' i) k = ins (del l k) k' i := by
  refine rises_ext (rises_del (rises_ins h _ _) _) (rises_ins (rises_del h _) _ _) fun x => ?_
  by_cases e : x = k
  · subst e
    rw [look_del_same, look_ins_other _ _ hne, look_del_same]
  · rw [look_del_other _ e]
    by_cases e' : x = k'
    · subst e'
      rw [look_ins_same, look_ins_same]
    · rw [look_ins_other _ _ e', look_ins_other _ _ e', look_del_other _ e]
theorem usedOf_ren {fl : List Fl} {l : List (Key × Nat)} (h : Rises l) {k k' : Key} {i : Nat} (hk : look l k = some i) (hne : k ≠ k') :
    usedOf fl (ins (del l k) k' i) + (match look l k' with | some o => lenOf fl o | none => 0) = usedOf fl l := by
  have h1 := usedOf_del (fl := fl) h hk
  have h2 := usedOf_ins' (fl := fl) (rises_del h k) k' i
  rw [h2]
  cases ho : look l k' with
  | none =>
    have : look (del l k) k' = none := by rw [look_del_other _ (Ne.symm hne)]; exact ho
    rw [del_none this]
    simp only
    omega
  | some o =>
    have : look (del l k) k' = some o := by rw [look_del_other _ (Ne.symm hne)]; exact ho
    have h3 := usedOf_del (fl := fl) (rises_del h k) this
    simp only
    omega
theorem ids_ren {l : List (Key × Nat)} (h : Rises l) {k k' : Key} {i : Nat} (hk : look l k = some i) (ha : (l.map (·.2)).Nodup) : ((ins (del l k) k' i).map (·.2)).Nodup := by
  rw [(ids_ins' (rises_del h k) k' i).nodup_iff, List.nodup_cons]
  have h1 := (ids_del h hk).nodup_iff.1 ha
  rw [List.nodup_cons] at h1
  refine ⟨fun hm => h1.1 ?_, nodup_del h1.2 k'⟩
  obtain ⟨p, hp, e⟩ := List.mem_map.1 hm
  exact List.mem_map.2 ⟨p, mem_del hp, e⟩
theorem len_ren {l : List (Key × Nat)} (h : Rises l) {k k' : Key} {i : Nat} (hk : look l k = some i) : (ins (del l k) k' i).length ≤ l.length := by
  have h1 := (ids_ins' (rises_del h k) k' i).length_eq
  have h2 := len_del_some h hk
  have h3 := len_del (del l k) k'
  simp at h1
  omega
theorem tl_eq (s : ByteArray) : s.toList = ky s := by
  exact ByteArray.toList_eq s
theorem reach_two {T : Nat → Nat} {w : World} {d mb : Nat} {fb : Nat → Nat} {m : Dm} {cv : Value} {D : DataW (Option Addr)} (h : Pdi T w d mb fb m cv D) (s t : ByteArray) (hs : s.size ≤ maxLen) (ht : t.size ≤ maxLen) :
    Calls Try.prog 71 #[.pointer (some ⟨d, 0, none⟩), .slice (some ⟨w.heap.size, 0, none⟩) 2 2] (w.alloc (.cells #[.string s, .string t] 9)) fun e w' =>
      e = .returned (.tuple #[reachV fb (m.reach (okN s && okN t) (ky s)).1 (look m.now (ky s)), .int .i64 (m.reach (okN s && okN t) (ky s)).1]) ∧ Pdi T w' d mb fb (m.reach (okN s && okN t) (ky s)).2 cv D ∧ Goes T T w w' := by
  have hb : Below w.heap.size w (w.alloc (.cells #[.string s, .string t] 9)) := (Below.refl _ _).alloc (Nat.le_refl _) _
  have e1 : [s, t].all okN = (okN s && okN t) := by simp
  have := reach_pd (h.below hb) w.heap.size 2 2 [s, t] s (fun i s' hi => by
    match i, hi with
    | 0, hi => simp at hi; subst hi; rw [World.cell?_alloc_at _ _ _ _ rfl]; rfl
    | 1, hi => simp at hi; subst hi; rw [World.cell?_alloc_at _ _ _ _ rfl]; rfl
    | i + 2, hi => simp at hi) (by simp) (h.fresh _ (Nat.le_refl _)) rfl rfl (Nat.le_refl _) (by omega) (by simp; exact ⟨hs, ht⟩)
  rw [e1] at this
  refine this.mono ?_
  rintro e w' ⟨rfl, h1, h2⟩
  exact ⟨rfl, h1, (Goes.below hb).trans h2⟩
set_option maxHeartbeats 1000000 in
theorem rename_any {T : Nat → Nat} {w : World} {d mb : Nat} {fb : Nat → Nat} {m : Dm} (h : Pd T w d mb fb m) (s t : ByteArray) (hs : s.size ≤ maxLen) (ht : t.size ≤ maxLen) (hch : m.ch.length ≤ 1000000) (hu : m.used ≤ 9223372036854775807) :
    Calls Try.prog 30 #[.pointer (some ⟨d, 0, none⟩), .string s, .string t] w fun e w' => e = .returned (.int .i64 (m.rename s t).1) ∧ ∃ T', Pd T' w' d mb fb (m.rename s t).2 ∧ Goes T T' w w' := by
  obtain ⟨cv, D, h⟩ := h
  have HH : Hid (Pdi T w d mb fb m cv D) := h
  have HS : Hid (s.size ≤ maxLen ∧ t.size ≤ maxLen) := ⟨hs, ht⟩
  clear h hs ht
  go_enter Try.func30, Try.ntmps30
  go_wp2_with fail
  refine (reach_two HH.out s t HS.out.1 HS.out.2).mono ?_
  rintro e w1 ⟨rfl, h1, g1⟩
  obtain ⟨m1, hm1⟩ : ∃ m1, m1 = (m.reach (okN s && okN t) (ky s)).2 := ⟨_, rfl⟩
  have HM1 : Hid (m1 = (m.reach (okN s && okN t) (ky s)).2) := hm1
  rw [← hm1] at h1
  have H1 : Hid (Pdi T w1 d mb fb m1 cv D ∧ Goes T T w w1) := ⟨h1, g1⟩
  have HSM : Hid (m1.now = m.now ∧ m1.fl = m.fl ∧ m1.ch = m.ch) := by have := reach_same m (okN s && okN t) (ky s); rw [hm1]; exact ⟨this.1, this.2.1, this.2.2.1⟩
  obtain ⟨ec, hec⟩ : ∃ ec, ec = (m.reach (okN s && okN t) (ky s)).1 := ⟨_, rfl⟩
  have HEC : Hid (ec = (m.reach (okN s && okN t) (ky s)).1) := hec
  rw [← hec]
  have DONE : Hid (¬ (ec = 0 ∧ s ≠ t) → m.rename s t = (ec, m1)) := fun hn => by
    rw [HM1.out]; unfold Dm.rename
    rw [if_neg (by rw [← HEC.out]; exact hn), HEC.out]
  by_cases he : ec = 0
  · obtain ⟨i, hi⟩ := reach_ok (hec.symm.trans he)
    subst he
    rw [reachV_ok, hi]
    simp only [pv]
    by_cases hst : s = t
    · subst hst
      clear hm1 h1 g1 hec
      go_wp2
      go_ret
      have e := DONE.out (fun h => h.2 rfl)
      rw [e]
      exact ⟨rfl, T, ⟨cv, D, H1.out.1⟩, H1.out.2⟩
    · have HST : Hid (s ≠ t) := hst
      have hst3 : ¬ s.toList = t.toList := fun e => ky_ne hst (by rw [tl_eq, tl_eq] at e; exact e)
      have hst4 : (s.toList == t.toList) = false := by simpa using hst3
      have HI : Hid (look m.now (ky s) = some i) := hi
      have hi1 : look m1.now (ky s) = some i := by rw [HSM.out.1]; exact hi
      have HI1 : Hid (look m1.now (ky s) = some i) := hi1
      have hlt : i < m1.fl.length := h1.ids _ (look_some hi1)
      have c6 := (h1.top.1.2 6 (by omega)).1
      simp only [Top.cell] at c6
      clear hm1 h1 g1 hec hi hi1
      have HLT : Hid (i < m1.fl.length) := hlt
      clear hlt
      cases hl2 : look m1.now (ky t) with
      | none =>
        have HO : Hid (look m1.now (ky t) = none) := hl2
        go_wp2_with (at_lookup; refine wpList_look H1.out.1 t HS.out.2 (by rfl) (.tmp 29) (.tmp 30) (by rfl) (by rfl) (by rfl) ?_; rw [hl2]; simp only [pv])
        refine (note_any ⟨cv, D, H1.out.1⟩ ⟨s, some i, t, none⟩ ⟨(fun j e => by cases e; exact HLT.out), (fun j e => by cases e)⟩ (by rw [HSM.out.2.2]; exact hch) HS.out).mono ?_
        rintro e w2 ⟨rfl, T2, ⟨cv2, D2, h2⟩, g2⟩
        have H2 : Hid (Pdi T2 w2 d mb fb (m1.note ⟨s, some i, t, none⟩) cv2 D2 ∧ Goes T T2 w w2) := ⟨h2, H1.out.2.trans g2⟩
        have H3 : Hid (Keep [d] w2 w2 ∧ IsTop w2 d ⟨m1.rig, m1.room, usedOf m1.fl (ins (del m1.now (ky s)) (ky t) i), .map (some mb), cv2, m1.down⟩ ∧ w2.ownsMap Try.prog 9 ptrR mb (m1.note ⟨s, some i, t, none⟩).now.length D2) := by
          refine ⟨Keep.refl _ _, ?_, h2.map⟩
          have e := usedOf_ren (fl := m1.fl) H1.out.1.dir.rises HI1.out (ky_ne HST.out)
          rw [hl2] at e
          simp only [Nat.add_zero] at e
          rw [e]
          exact h2.top
        clear h2 g2 c6 hl2
        have hdm : d ≠ mb := by rintro rfl; have h1 := H2.out.1.td; have h2 := H2.out.1.tm; omega
        have HDM : Hid (d ≠ mb) := hdm
        clear hdm
        have HMX : Hid ((m1.note ⟨s, some i, t, none⟩).now.length < maxLen) := by
          have := H2.out.1.most
          show _ < _
          unfold maxLen; omega
        have c63 := (H3.out.2.1.1.2 6 (by omega)).1
        simp only [Top.cell] at c63
        go_wp2_with (first
          | (at_mapUpdate; refine wpList_mapUpdate_own _ (by rfl) (.tmp 56) (.tmp 57) (.tmp 58) 82 (by rfl) 9 87 keyed Try.underlying82 ptrR mb _ D2 (by rfl) H3.out.2.2 HMX.out _ _ (.string (ky t)) (by rfl) (by rfl) (keyOf_s t HS.out.2) (.held (some ⟨fb i, 0, none⟩)) [] (by rfl) ?_; intro w4 ho4 hg4; have H4 : Hid (w4.ownsMap Try.prog 9 ptrR mb _ (D2.put (.string (ky t)) (.held (some ⟨fb i, 0, none⟩))) ∧ Keep [mb] w2 w4) := ⟨ho4, Keep.grown hg4⟩; have c64 := ((H3.out.2.1.keep H4.out.2 (by simp; exact HDM.out)).1.2 6 (by omega)).1; simp only [Top.cell] at c64; clear ho4 hg4)
          | (at_delete; refine wpList_delete_own _ (by rfl) (.tmp 62) (.tmp 63) 82 9 (by rfl) 87 keyed Try.underlying82 ptrR mb _ _ (by rfl) H4.out.1 _ (.string (ky s)) (by rfl) (keyOf_s s HS.out.1) ?_; intro w5 ho5 ht5; have H5 : Hid (w5.ownsMap Try.prog 9 ptrR mb _ ((D2.put (.string (ky t)) (.held (some ⟨fb i, 0, none⟩))).del (.string (ky s))) ∧ Keep [mb] w4 w5) := ⟨ho5, Keep.grown ht5.grown⟩; clear ho5 ht5))
        go_ret
        have e : m.rename s t = (0, { m1.note ⟨s, some i, t, none⟩ with now := ins (del m1.now (ky s)) (ky t) i }) := by
          have e1 := HSM.out.1
          have e2 := HO.out
          rw [HM1.out] at e1 e2 ⊢
          unfold Dm.rename
          rw [if_pos ⟨HEC.out.symm, HST.out⟩, HI.out]
          simp only
          rw [← e1, e2]
        rw [e]
        have hdd := (H2.out.1.dir.put (ky t) i).del (ky s)
        rw [del_ins H2.out.1.dir.rises (ky_ne HST.out)] at hdd
        obtain ⟨z1, z2⟩ := H2.out.1.redir (w' := w5) (now' := ins (del m1.now (ky s)) (ky t) i) (((H3.out.1.mono (by simp)).trans (H4.out.2.mono (by simp))).trans (H5.out.2.mono (by simp))) ((H3.out.2.1.keep H4.out.2 (by simp; exact HDM.out)).keep H5.out.2 (by simp; exact HDM.out)) H5.out.1 hdd (fun p hp => by
          rcases ins_mem hp with rfl | hp
          · exact HLT.out
          · exact H2.out.1.ids p (mem_del hp)) (ids_ren H2.out.1.dir.rises HI1.out H2.out.1.apart) (Nat.le_trans (len_ren H2.out.1.dir.rises HI1.out) H2.out.1.most)
        exact ⟨rfl, T2, ⟨cv2, _, z1⟩, H2.out.2.trans z2⟩
      | some o =>
        have HO : Hid (look m1.now (ky t) = some o) := hl2
        have HOL : Hid (o < m1.fl.length) := H1.out.1.ids _ (look_some hl2)
        go_wp2_with (at_lookup; refine wpList_look H1.out.1 t HS.out.2 (by rfl) (.tmp 29) (.tmp 30) (by rfl) (by rfl) (by rfl) ?_; rw [hl2]; simp only [pv])
        refine (note_any ⟨cv, D, H1.out.1⟩ ⟨s, some i, t, some o⟩ ⟨(fun j e => by cases e; exact HLT.out), (fun j e => by cases e; exact HOL.out)⟩ (by rw [HSM.out.2.2]; exact hch) HS.out).mono ?_
        rintro e w2 ⟨rfl, T2, ⟨cv2, D2, h2⟩, g2⟩
        have H2 : Hid (Pdi T2 w2 d mb fb (m1.note ⟨s, some i, t, some o⟩) cv2 D2 ∧ Goes T T2 w w2) := ⟨h2, H1.out.2.trans g2⟩
        obtain ⟨f, hf⟩ : ∃ f, m1.fl[o]? = some f := ⟨_, List.getElem?_eq_getElem HOL.out⟩
        obtain ⟨a, c, hfa⟩ := h2.file o f hf
        have cf0 := (hfa.fld.2 0 (by omega)).1
        have c5 := (h2.top.1.2 5 (by omega)).1
        have f5 := (h2.top.1.2 5 (by omega)).2
        simp only [fcell, if_true, Top.cell] at cf0 c5
        have hue : (m1.note ⟨s, some i, t, some o⟩).used = m.used := by show usedOf m1.fl m1.now = usedOf m.fl m.now; rw [HSM.out.1, HSM.out.2.1]
        rw [hue] at c5
        have hsub := usedOf_ren (fl := m1.fl) H1.out.1.dir.rises HI1.out (ky_ne HST.out)
        rw [hl2] at hsub
        simp only [lenOf_some hf] at hsub
        have HSUB : Hid (usedOf m1.fl (ins (del m1.now (ky s)) (ky t) i) + f.data.length = m.used) := by show _ = _; rw [hsub]; exact hue
        have hlu : f.data.length ≤ m.used := by have := HSUB.out; omega
        have hsi : (m.used : Int) - (f.data.length : Int) = ((m.used - f.data.length : Nat) : Int) := by omega
        have hdm2 : d ≠ mb := by rintro rfl; have h1 := h2.td; have h2 := h2.tm; omega
        clear h2 g2 hf hfa hue hsub c6 hl2
        go_wp2
        go_region
        have k3 : Keep [d] w2 (w2.setCell ⟨d, 5, none⟩ (.int .i64 ((m.used - f.data.length : Nat) : Int))).drew := (Keep.set _ _ _ _).trans (Keep.drew _ _)
        have t3 : IsTop (w2.setCell ⟨d, 5, none⟩ (.int .i64 ((m.used - f.data.length : Nat) : Int))).drew d ⟨m1.rig, m1.room, usedOf m1.fl (ins (del m1.now (ky s)) (ky t) i), .map (some mb), cv2, m1.down⟩ := by
          have e : m.used - f.data.length = usedOf m1.fl (ins (del m1.now (ky s)) (ky t) i) := by have := HSUB.out; omega
          refine ⟨Fld.keep (((H2.out.1.top.1.set 5 (by omega) _).eq (nine rfl rfl rfl rfl rfl ?_ rfl rfl rfl))) (Keep.drew [] _) (by simp), H2.out.1.top.2⟩
          rw [upd_same, e]; rfl
        have o3 : (w2.setCell ⟨d, 5, none⟩ (.int .i64 ((m.used - f.data.length : Nat) : Int))).drew.ownsMap Try.prog 9 ptrR mb (m1.note ⟨s, some i, t, some o⟩).now.length D2 := by
          obtain ⟨es, clock, z1, z2⟩ := H2.out.1.map
          exact ⟨es, clock, (k3.block mb H2.out.1.map.lt (by simp; exact Ne.symm hdm2)).trans z1, z2⟩
        have H3 : Hid (Keep [d] w2 (w2.setCell ⟨d, 5, none⟩ (.int .i64 ((m.used - f.data.length : Nat) : Int))).drew ∧ IsTop (w2.setCell ⟨d, 5, none⟩ (.int .i64 ((m.used - f.data.length : Nat) : Int))).drew d ⟨m1.rig, m1.room, usedOf m1.fl (ins (del m1.now (ky s)) (ky t) i), .map (some mb), cv2, m1.down⟩ ∧ (w2.setCell ⟨d, 5, none⟩ (.int .i64 ((m.used - f.data.length : Nat) : Int))).drew.ownsMap Try.prog 9 ptrR mb (m1.note ⟨s, some i, t, some o⟩).now.length D2) := ⟨k3, t3, o3⟩
        clear k3 t3 o3 cf0 c5 f5 hsi hdm2
        generalize (w2.setCell ⟨d, 5, none⟩ (.int .i64 ((m.used - f.data.length : Nat) : Int))).drew = w3 at *
        have hdm : d ≠ mb := by rintro rfl; have h1 := H2.out.1.td; have h2 := H2.out.1.tm; omega
        have HDM : Hid (d ≠ mb) := hdm
        clear hdm
        have HMX : Hid ((m1.note ⟨s, some i, t, some o⟩).now.length < maxLen) := by
          have := H2.out.1.most
          show _ < _
          unfold maxLen; omega
        have c63 := (H3.out.2.1.1.2 6 (by omega)).1
        simp only [Top.cell] at c63
        go_wp2_with (first
          | (at_mapUpdate; refine wpList_mapUpdate_own _ (by rfl) (.tmp 56) (.tmp 57) (.tmp 58) 82 (by rfl) 9 87 keyed Try.underlying82 ptrR mb _ D2 (by rfl) H3.out.2.2 HMX.out _ _ (.string (ky t)) (by rfl) (by rfl) (keyOf_s t HS.out.2) (.held (some ⟨fb i, 0, none⟩)) [] (by rfl) ?_; intro w4 ho4 hg4; have H4 : Hid (w4.ownsMap Try.prog 9 ptrR mb _ (D2.put (.string (ky t)) (.held (some ⟨fb i, 0, none⟩))) ∧ Keep [mb] w3 w4) := ⟨ho4, Keep.grown hg4⟩; have c64 := ((H3.out.2.1.keep H4.out.2 (by simp; exact HDM.out)).1.2 6 (by omega)).1; simp only [Top.cell] at c64; clear ho4 hg4)
          | (at_delete; refine wpList_delete_own _ (by rfl) (.tmp 62) (.tmp 63) 82 9 (by rfl) 87 keyed Try.underlying82 ptrR mb _ _ (by rfl) H4.out.1 _ (.string (ky s)) (by rfl) (keyOf_s s HS.out.1) ?_; intro w5 ho5 ht5; have H5 : Hid (w5.ownsMap Try.prog 9 ptrR mb _ ((D2.put (.string (ky t)) (.held (some ⟨fb i, 0, none⟩))).del (.string (ky s))) ∧ Keep [mb] w4 w5) := ⟨ho5, Keep.grown ht5.grown⟩; clear ho5 ht5))
        go_ret
        have e : m.rename s t = (0, { m1.note ⟨s, some i, t, some o⟩ with now := ins (del m1.now (ky s)) (ky t) i }) := by
          have e1 := HSM.out.1
          have e2 := HO.out
          rw [HM1.out] at e1 e2 ⊢
          unfold Dm.rename
          rw [if_pos ⟨HEC.out.symm, HST.out⟩, HI.out]
          simp only
          rw [← e1, e2]
        rw [e]
        have hdd := (H2.out.1.dir.put (ky t) i).del (ky s)
        rw [del_ins H2.out.1.dir.rises (ky_ne HST.out)] at hdd
        obtain ⟨z1, z2⟩ := H2.out.1.redir (w' := w5) (now' := ins (del m1.now (ky s)) (ky t) i) (((H3.out.1.mono (by simp)).trans (H4.out.2.mono (by simp))).trans (H5.out.2.mono (by simp))) ((H3.out.2.1.keep H4.out.2 (by simp; exact HDM.out)).keep H5.out.2 (by simp; exact HDM.out)) H5.out.1 hdd (fun p hp => by
          rcases ins_mem hp with rfl | hp
          · exact HLT.out
          · exact H2.out.1.ids p (mem_del hp)) (ids_ren H2.out.1.dir.rises HI1.out H2.out.1.apart) (Nat.le_trans (len_ren H2.out.1.dir.rises HI1.out) H2.out.1.most)
        exact ⟨rfl, T2, ⟨cv2, _, z1⟩, H2.out.2.trans z2⟩
  · have he0 : (ec != 0) = true := by simp [he]
    rw [reachV_no fb he]
    clear hm1 h1 g1 hec
    go_wp2
    go_ret
    have e := DONE.out (fun h => he h.1)
    rw [e]
    exact ⟨rfl, T, ⟨cv, D, H1.out.1⟩, H1.out.2⟩
end Dsk
end Go.Proofs.Ytbloifnibgdeoaa
