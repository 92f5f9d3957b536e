import Derived.Test.YtbloifnibgdeoaaDByt
import Derived.Deep.CutRange
import Derived.Deep.CutBlock
import Derived.Deep.DeepCutAuto
namespace Go.Proofs.Ytbloifnibgdeoaa
namespace Dsk
open Go.RowKit Go.Shelf Go.Maps Go.Sort Byt Laws
set_option linter.unusedVariables false
set_option maxRecDepth 100000
attribute [local go_sem ↓] Go.wp_at_zero Go.wp_at_succ

/-- A file's bytes after a fall that leaves so many of those that aren't sure. -/
def cutF (fl : List Fl) (i : Nat) (o : Int) : List Fl := match fl[i]? with
  | some f => fl.set i ⟨f.data.take (leftN f.data.length f.sure o), leftN f.data.length f.sure o⟩
  | none => fl
/-- The first k names' files have been cut. -/
def fallF (ks : List Int) (l : List (Key × Nat)) (fl : List Fl) : Nat → List Fl
  | 0 => fl
  | k + 1 => match l[k]? with
    | some p => cutF (fallF ks l fl k) p.2 (amongN ks k)
    | none => fallF ks l fl k
/-- P3.6, P3.7: Fall. -/
def Dm.fall (m : Dm) (dir : Int) (ks : List Int) : Dm := ⟨Rig.zero, m.room, fallF ks (m.dirAt dir) m.fl (m.dirAt dir).length, m.dirAt dir, [], false⟩
theorem cutF_length (fl : List Fl) (i : Nat) (o : Int) : (cutF fl i o).length = fl.length := by
  unfold cutF
  split
  · rw [List.length_set]
  · rfl
theorem fallF_length (ks : List Int) (l : List (Key × Nat)) (fl : List Fl) : ∀ k, (fallF ks l fl k).length = fl.length
  | 0 => rfl
  | k + 1 => by
    unfold fallF
    split
    · rw [cutF_length, fallF_length]
    · exact fallF_length ks l fl k
theorem usedOf_le {fl : List Fl} {B : Nat} : ∀ {l : List (Key × Nat)}, (∀ p ∈ l, lenOf fl p.2 ≤ B) → usedOf fl l ≤ l.length * B
  | [], _ => by simp [usedOf]
  | p :: r, h => by
    have ih := usedOf_le (fl := fl) (B := B) (l := r) (fun q hq => h q (by simp [hq]))
    have h1 := h p (by simp)
    unfold usedOf at ih ⊢
    rw [List.map_cons, List.sum_cons, List.length_cons, Nat.succ_mul]
    omega
/-- A file's cells turn, whatever is told of the bytes of all. -/
theorem Pdu.setFile {T : Nat → Nat} {w w' : World} {d mb : Nat} {fb : Nat → Nat} {m : Dm} {cv : Value} {D : DataW (Option Addr)} {u : Nat} (h : Pdu T w d mb fb m cv D u) {i : Nat} {f f' : Fl} (hf : m.fl[i]? = some f) (hk : Keep [fb i] w w') {a' : Option Addr} {c' : Nat}
    (hfa : FileAt T w' (fb i) i f' a' c') : Pdu T w' d mb fb { m with fl := m.fl.set i f' } cv D u := by
  have hi : i < m.fl.length := (List.getElem?_eq_some_iff.1 hf).1
  have htf := hfa.tag
  refine { h with top := ?_, fresh := fun b hb => h.fresh b (Nat.le_trans hk.size hb), chg := hk.own h.chg ?_, map := ?_, file := fun j g hj => ?_, ids := ?_, cids := ?_ }
  · refine h.top.keep hk ?_
    simp; intro e; have := h.td; rw [e, htf] at this; omega
  · intro g hg hm
    have := h.tc g hg
    simp at hm; rw [hm, htf] at this; omega
  · obtain ⟨es, clock, h1, h2⟩ := h.map
    refine ⟨es, clock, (hk.block mb h.map.lt ?_).trans h1, h2⟩
    simp; intro e; have := h.tm; rw [e, htf] at this; omega
  · by_cases e : j = i
    · subst e
      have : g = f' := by
        have hj' : (m.fl.set j f')[j]? = some g := hj
        rw [List.getElem?_set_self hi] at hj'; exact (Option.some.inj hj').symm
      subst this
      exact ⟨a', c', hfa⟩
    · have hj' : m.fl[j]? = some g := by
        have hj' : (m.fl.set i f')[j]? = some g := hj
        rwa [List.getElem?_set_ne (Ne.symm e)] at hj'
      obtain ⟨a2, c2, hfj⟩ := h.file j g hj'
      exact ⟨a2, c2, hfj.keep hk (by intro x hx; simp at hx; subst hx; omega) (by intro x hx; simp at hx; subst hx; omega)⟩
  · intro p hp
    show p.2 < (m.fl.set i f').length
    rw [List.length_set]; exact h.ids p hp
  · intro c hc
    show (∀ j, _ → j < (m.fl.set i f').length) ∧ (∀ j, _ → j < (m.fl.set i f').length)
    rw [List.length_set]; exact h.cids c hc
theorem Pdu.below {T : Nat → Nat} {w w' : World} {d mb : Nat} {fb : Nat → Nat} {m : Dm} {cv : Value} {D : DataW (Option Addr)} {u : Nat} (h : Pdu T w d mb fb m cv D u) (hb : Below w.heap.size w w') : Pdu T w' d mb fb m cv D u := by
  have hk : Keep [] w w' := Keep.below hb
  refine { h with top := h.top.keep hk (by simp), fresh := fun b hb' => h.fresh b (Nat.le_trans hb.size hb'), chg := hk.own h.chg (by simp), map := ?_, file := fun i f hf => ?_ }
  · obtain ⟨es, clock, h1, h2⟩ := h.map
    exact ⟨es, clock, (hb.block mb h.map.lt).trans h1, h2⟩
  · obtain ⟨a, c, hf⟩ := h.file i f hf
    exact ⟨a, c, hf.keep hk (by simp) (by simp)⟩
/-- The names have been taken back; the files still are as they were. -/
theorem Pdu.back {T : Nat → Nat} {w w' : World} {d mb : Nat} {fb : Nat → Nat} {m : Dm} {cv : Value} {D D' : DataW (Option Addr)} {u n' : Nat} (h : Pdu T w d mb fb m cv D u) (hk : Keep [mb] w w') (ho : w'.ownsMap Try.prog 9 ptrR mb n' D') {l : List (Key × Nat)} (hd : DirIs D' fb l) (hi : ∀ p ∈ l, p.2 < m.fl.length) (hn : (l.map (·.2)).Nodup) (hl : l.length ≤ 1073741824) : Pdu T w' d mb fb { m with now := l } cv D' u := by
  have htm := h.tm
  refine { h with top := h.top.keep hk ?_, fresh := fun b hb => h.fresh b (Nat.le_trans hk.size hb), chg := hk.own h.chg ?_, map := tight ho (size_dir hd ho keyed Try.underlying9), dir := hd, file := fun j g hj => ?_, ids := hi, apart := hn, most := hl }
  · simp; intro e; have := h.td; rw [e] at this; omega
  · intro g hg hm
    have := h.tc g hg
    simp at hm; rw [hm] at this; omega
  · obtain ⟨a, c, hf⟩ := h.file j g hj
    exact ⟨a, c, hf.keep hk (by intro x hx; simp at hx; subst hx; omega) (by intro x hx; simp at hx; subst hx; omega)⟩
theorem IntsAt.goes {T T' : Nat → Nat} {w w' : World} {a : Option Addr} {ks : List Int} (h : IntsAt w a ks) (ho : ∀ ad, a = some ad → T ad.block = 0) (g : Goes T T' w w') : IntsAt w' a ks := fun j x hx => by
  obtain ⟨b, off, e, hc⟩ := h j x hx
  refine ⟨b, off, e, ?_⟩
  have hlt := World.block_lt_of_cell? w _ hc
  have hb := (g.block b hlt (ho _ e)).1
  unfold World.cell? at hc ⊢
  rw [hb]; exact hc
/-- Bytes that a fall has cut: a list that is full. -/
theorem Hb.cut {w : World} {a : Option Addr} {c : Nat} {l : List Nat} (h : Hb w a c l) {n : Nat} (hn : n ≤ l.length) : Hb w a (l.take n).length (l.take n) := by
  have hl : (l.take n).length = n := by rw [List.length_take]; omega
  refine ⟨h.isB.take n, Nat.le_refl _, fun e => ?_, by have := h.le; have := h.max; omega, fun g hg => ?_, ?_⟩
  · have z := h.isB
    rw [e] at z
    have z2 := z.none
    rw [z2]; simp
  · cases a with
    | none => cases hg
    | some ad => cases hg; exact h.lt _ rfl
  · rcases h.own with ⟨hg, _⟩ | ho
    · exact .inl ⟨hg, rfl⟩
    · rcases ho.2 with ⟨e, e0⟩ | ⟨g, cap, cur, e, _⟩
      · obtain ⟨rfl, hl0, rfl⟩ := Value.slice.inj e
        have : l = [] := List.eq_nil_of_length_eq_zero hl0
        subst this
        refine .inr ?_
        have e2 : ([] : List Nat).take n = [] := by simp
        rw [e2]
        exact ⟨rfl, .inl ⟨rfl, rfl⟩⟩
      · obtain ⟨rfl, _, _⟩ := Value.slice.inj e
        exact .inl ⟨⟨g, rfl⟩, rfl⟩
theorem FileAt.cut {T : Nat → Nat} {w w' : World} {b i : Nat} {f : Fl} {a : Option Addr} {c n : Nat} {dd : List Nat} (h : FileAt T w b i f a c) (hk : Keep [b] w w') (hn : n ≤ f.data.length) (hd : dd = f.data.take n) (hf : Fld 2 w' b (fcell a dd.length ⟨dd, dd.length⟩)) : FileAt T w' b i ⟨dd, dd.length⟩ a dd.length := by
  subst hd
  refine ⟨h.tag, hf, (h.own.cut hn).keep hk ?_, h.mine, Nat.le_refl _, ?_⟩
  · intro g hg hm
    simp at hm
    cases a with
    | none => cases hg
    | some ad =>
      cases hg
      have h1 := h.mine ad rfl
      have h2 := h.tag
      rw [hm] at h1; omega
  · have := h.big
    have e : (f.data.take n).length = n := by rw [List.length_take]; omega
    show (f.data.take n).length ≤ _
    omega
/-- The machine has come up. -/
theorem Pdu.fell {T : Nat → Nat} {w w' : World} {d mb : Nat} {fb : Nat → Nat} {m : Dm} {cv : Value} {D : DataW (Option Addr)} {u : Nat} (h : Pdu T w d mb fb m cv D u) (hk : Keep [d] w w') (ht : IsTop w' d ⟨Rig.zero, m.room, usedOf m.fl m.now, .map (some mb), .slice none 0 0, false⟩) :
    Pdi T w' d mb fb ⟨Rig.zero, m.room, m.fl, m.now, [], false⟩ (.slice none 0 0) D := by
  have hd := h.td
  refine ⟨ht, h.td, h.tm, fun b hb => h.fresh b (Nat.le_trans hk.size hb), ⟨rfl, .inl ⟨rfl, rfl⟩⟩, (by intro b hb; cases hb), ?_, h.dir, fun j g hj => ?_, h.ids, h.apart, by simp, h.room, h.most, by simp⟩
  · obtain ⟨es, clock, h1, h2⟩ := h.map
    refine ⟨es, clock, (hk.block mb h.map.lt ?_).trans h1, h2⟩
    simp; intro e; have := h.tm; rw [e] at this; omega
  · obtain ⟨a, c, hf⟩ := h.file j g hj
    exact ⟨a, c, hf.keep hk (by intro x hx; simp at hx; subst hx; omega) (by intro x hx; simp at hx; subst hx; omega)⟩
theorem fld_fell {w : World} {d : Nat} {t : Top} (h : Fld 9 w d t.cell) (u : Nat) : Fld 9 (((((((w.setCell ⟨d, 5, none⟩ (.int .i64 (u : Nat))).setCell ⟨d, 7, none⟩ (.slice none 0 0)).setCell ⟨d, 8, none⟩ (.bool false)).setCell ⟨d, 0, none⟩ (.int .i64 0)).setCell ⟨d, 1, none⟩ (.int .i64 0)).setCell ⟨d, 2, none⟩ (.int .i64 0)).setCell ⟨d, 3, none⟩ (.int .i64 0)) d (Top.cell ⟨Rig.zero, t.room, u, t.files, .slice none 0 0, false⟩) :=
  (((((((h.set 5 (by omega) _).set 7 (by omega) _).set 8 (by omega) _).set 0 (by omega) _).set 1 (by omega) _).set 2 (by omega) _).set 3 (by omega) _).eq (nine rfl rfl rfl rfl rfl rfl rfl rfl rfl)
theorem keep_fell (w : World) (d u : Nat) : Keep [d] w (((((((w.setCell ⟨d, 5, none⟩ (.int .i64 (u : Nat))).setCell ⟨d, 7, none⟩ (.slice none 0 0)).setCell ⟨d, 8, none⟩ (.bool false)).setCell ⟨d, 0, none⟩ (.int .i64 0)).setCell ⟨d, 1, none⟩ (.int .i64 0)).setCell ⟨d, 2, none⟩ (.int .i64 0)).setCell ⟨d, 3, none⟩ (.int .i64 0)) :=
  (Keep.set _ _ _ _).trans ((Keep.set _ _ _ _).trans ((Keep.set _ _ _ _).trans ((Keep.set _ _ _ _).trans ((Keep.set _ _ _ _).trans ((Keep.set _ _ _ _).trans (Keep.set _ _ _ _))))))
set_option maxHeartbeats 4000000 in
theorem fall_any {T : Nat → Nat} {w : World} {d mb : Nat} {fb : Nat → Nat} {m : Dm} (h : Pd T w d mb fb m) (dir : Int) (ak : Option Addr) (ck : Nat) (ks : List Int) (hk : IntsAt w ak ks) (hko : ∀ ad, ak = some ad → T ad.block = 0) (hck : ks.length ≤ ck) (hck2 : ck ≤ 9223372036854775807) (hkw : ∀ x ∈ ks, x ≤ 9223372036854775807) (hnd : ((m.dirAt dir).map (·.2)).Nodup) (hm : m.now.length ≤ 500000000) (hch : m.ch.length ≤ 1000000) :
    Calls Try.prog 21 #[.pointer (some ⟨d, 0, none⟩), .int .i64 dir, .slice ak ks.length ck] w fun e w' => e = .returned (.tuple #[]) ∧ Pd T w' d mb fb (m.fall dir ks) ∧ Goes T T w w' := by
  obtain ⟨cv, D, h⟩ := h
  have HH : Hid (Pdi T w d mb fb m cv D) := h
  have HIK : Hid (IntsAt w ak ks) := hk
  have HKO : Hid (∀ ad, ak = some ad → T ad.block = 0) := hko
  have HKW : Hid (∀ x ∈ ks, x ≤ 9223372036854775807) := hkw
  have HND : Hid (((m.dirAt dir).map (·.2)).Nodup) := hnd
  have c6 := (h.top.1.2 6 (by omega)).1
  simp only [Top.cell] at c6
  have HL : Hid ((m.dirAt dir).length ≤ m.now.length + 2 * m.ch.length) := dirAt_len m dir
  have HDM : Hid (d ≠ mb) := by
    show d ≠ mb
    rintro rfl; have h1 := h.td; have h2 := h.tm; omega
  obtain ⟨L, hL⟩ : ∃ L : Nat, (m.dirAt dir).length = L := ⟨_, rfl⟩
  have HLL : Hid ((m.dirAt dir).length = L) := hL
  have hmost : L ≤ 502000000 := by have := HL.out; omega
  clear hL
  clear h hk hkw hko hnd
  go_enter Try.func21, Try.ntmps21
  go_upto_region 0 with fail
  go_cut [16] (fun _ wx => ∃ D3, Hid (Pdu T wx d mb fb { m with now := m.dirAt dir } cv D3 m.used ∧ Goes T T w wx))
  case first =>
    go_region_law (first
      | (go_simp; go_at_call 53; refine (lost_any (w := w.drew) (HH.out.below (Below.refl _ _).drew) dir).mono ?_; rintro e w2 ⟨v2, rfl, hw2, hlo⟩; subst hw2; obtain ⟨b, ps, l1, l2, l3, l4, l5⟩ := hlo)
      | ((try go_simp); go_at_call 52; refine (undo_any (w := w.drew.drew) (by obtain ⟨es, clock, z1, z2⟩ := HH.out.map; exact ⟨es, clock, z1, z2⟩) HH.out.dir v2 ps l3 b (by rcases l4 with rfl | l4; exact HH.out.top.1.1; exact (HH.out.chg.lt b l4).2) (by rcases l4 with rfl | l4; exact HDM.out; (intro e; have z1 := HH.out.tc b l4; have z2 := HH.out.tm; rw [e] at z1; omega)) (by omega) l5 (by omega)).mono ?_; rintro e w3 ⟨rfl, ⟨n3, D3, ho3, hd3⟩, hk3⟩; have hd3' : DirIs D3 fb (m.dirAt dir) := (by rw [undoAll_map, List.map_reverse, l1] at hd3; exact hd3); have H3 : Hid (Pdu T w3 d mb fb { m with now := m.dirAt dir } cv D3 m.used ∧ Goes T T w w3) := ⟨HH.out.back (((Keep.drew _ w).trans (Keep.drew _ w.drew)).trans hk3) ho3 hd3' (HH.out.dirIds dir) HND.out (by have := HL.out; omega), Goes.keep (((Keep.drew _ w).trans (Keep.drew _ w.drew)).trans hk3) (by intro b hb _; simp at hb; subst hb; rw [HH.out.tm]; omega)⟩; clear l1 l2 l3 l4 l5 ho3 hd3 hd3' hk3))
    all_goals
      go_wp2_with fail
      go_meet
      exact ⟨_, H3⟩
  case rest =>
  obtain ⟨D3, H3⟩ := hcut
  rename World => w3
  have c63 := (H3.out.1.top.1.2 6 (by omega)).1
  simp only [Top.cell] at c63
  go_wp2_with fail
  refine (names_dir (w := w3) H3.out.1.map H3.out.1.dir (by rw [HLL.out]; omega)).mono ?_
  rintro e w5 ⟨v5, rfl, ho5, hb5⟩
  rw [HLL.out] at ho5
  obtain ⟨a5, c5, rfl⟩ := own_slice ho5
  have H5 : Hid (w5.ownsRow w3.heap.size 9 1 (.slice a5 L c5) L (((m.dirAt dir).map (·.1)).map encStr) ∧ Below w3.heap.size w3 w5) := ⟨ho5, hb5⟩
  clear ho5 hb5 c63
  go_wp2
  go_loopw [6, 7, 8, 23, 24, 25, 26, 27, 28, 29, 30, 31, 32, 33, 34, 35, 36, 37, 38, 39, 40, 41, 42, 43, 44, 45, 46, 47, 48, 49, 50] (fun _ _ _ i _ _ _ _ _ _ _ _ _ _ _ _ _ _ _ _ _ _ _ _ _ _ _ _ _ _ _ wr => ∃ k : Nat, i = .int .i64 k ∧ k ≤ L ∧ Hid (Pdu T wr d mb fb { m with now := m.dirAt dir, fl := fallF ks (m.dirAt dir) m.fl k } cv D3 m.used ∧ Goes T T w wr ∧ wr.ownsRow w3.heap.size 9 1 (.slice a5 L c5) L (((m.dirAt dir).map (·.1)).map encStr) ∧ w3.heap.size ≤ wr.heap.size)) (fun _ _ _ i _ _ _ _ _ _ _ _ _ _ _ _ _ _ _ _ _ _ _ _ _ _ _ _ _ _ _ _ => L - (intOf i).toNat)
  case atStart =>
    exact ⟨0, rfl, Nat.zero_le _, (H3.out.1.below H5.out.2), H3.out.2.trans (Goes.below H5.out.2), H5.out.1, H5.out.2.size⟩
  case round =>
    rename World => W
    obtain ⟨k, rfl, hk, HW⟩ := hrel
    by_cases hlt : k < L
    · have hlt' : (k : Int) < (L : Int) := by omega
      obtain ⟨p, hp⟩ : ∃ p, (m.dirAt dir)[k]? = some p := ⟨_, List.getElem?_eq_getElem (by rw [HLL.out]; exact hlt)⟩
      obtain ⟨g, c, e, hc1, hc2, hg1, hg2, hcell⟩ := names_cell HW.out.2.2.1 hp
      obtain ⟨rfl, _, rfl⟩ := Value.slice.inj e
      have hpm : p ∈ m.dirAt dir := List.mem_of_getElem? hp
      have hsz : (ba p.1).size ≤ maxLen := by rw [ba_size]; exact names_len HW.out.1.map HW.out.1.dir p hpm
      have hlk : (Instr.lookup 82 (.map (some mb)) (.string (ba p.1)) false).run Try.prog W = .ok (.pointer (some ⟨fb p.2, 0, none⟩)) W := by
        have z := look_run HW.out.1.map HW.out.1.dir (ba p.1) hsz
        have z2 : look (m.dirAt dir) (ky (ba p.1)) = some p.2 := by rw [ky_ba]; exact look_mem HW.out.1.dir.rises hpm
        simp only [z2, pv] at z
        exact z
      obtain ⟨fk, hfk⟩ : ∃ fk, fk = fallF ks (m.dirAt dir) m.fl k := ⟨_, rfl⟩
      have HFK : Hid (fk = fallF ks (m.dirAt dir) m.fl k) := hfk
      have HX : Hid (Pdu T W d mb fb { m with now := m.dirAt dir, fl := fk } cv D3 m.used) := by rw [hfk]; exact HW.out.1
      obtain ⟨f, hf⟩ : ∃ f, fk[p.2]? = some f := ⟨_, List.getElem?_eq_getElem (HX.out.ids p hpm)⟩
      obtain ⟨a, cc, hfi⟩ := HX.out.file p.2 f hf
      have HFI : Hid (FileAt T W (fb p.2) p.2 f a cc ∧ fk[p.2]? = some f) := ⟨hfi, hf⟩
      have hE := leftN_le hfi.sure (amongN ks k)
      have hES : f.sure ≤ leftN f.data.length f.sure (amongN ks k) := by unfold leftN; omega
      obtain ⟨dd, hdd⟩ : ∃ dd, dd = f.data.take (leftN f.data.length f.sure (amongN ks k)) := ⟨_, rfl⟩
      have hddl : dd.length = leftN f.data.length f.sure (amongN ks k) := by rw [hdd, List.length_take]; omega
      have HDD : Hid (dd = f.data.take (leftN f.data.length f.sure (amongN ks k)) ∧ dd.length = leftN f.data.length f.sure (amongN ks k)) := ⟨hdd, hddl⟩
      have HNX : Hid (fallF ks (m.dirAt dir) m.fl (k + 1) = fk.set p.2 ⟨dd, dd.length⟩) := by
        show _ = _
        simp only [fallF, hp]
        rw [← hfk, cutF, hf]
        simp only
        rw [← hdd, ← hddl]
      have HIW : Hid (IntsAt W ak ks) := HIK.out.goes HKO.out HW.out.2.1
      have hal := among_le HKW.out k
      have hkb : k ≤ 9223372036854775807 := by omega
      have hdb : dd.length ≤ 2147483648 := by rw [hddl]; have := hfi.big; omega
      have c6 := (HX.out.top.1.2 6 (by omega)).1
      simp only [Top.cell] at c6
      have f0 := (hfi.fld.2 0 (by omega)).2
      have f1 := (hfi.fld.2 1 (by omega)).2
      have cf0 := (hfi.fld.2 0 (by omega)).1
      have cf1 := (hfi.fld.2 1 (by omega)).1
      simp only [fcell, if_true, Nat.one_ne_zero, if_false] at cf0 cf1
      have HPM : Hid (p.2 < m.fl.length) := HX.out.ids p hpm |> fun z => by have z2 : p.2 < fk.length := z; rw [hfk, fallF_length] at z2; exact z2
      have HLE : Hid (leftN f.data.length f.sure (amongN ks k) ≤ f.data.length) := hE
      generalize ba p.1 = nm at *
      have HSS : Hid (f.sure ≤ dd.length) := by show _ ≤ _; rw [hddl]; exact hES
      clear hpm hf hfi hsz e hp hg1 hg2 hdd hddl hE hES hfk
      go_wp2_with (first
        | (go_at_call 55; refine (among_any (w := W) HIW.out rfl hck hck2 k hkb).mono ?_; rintro e w9 ⟨rfl, hw9⟩; have hw8 := hw9.symm; clear hw9; subst hw8)
        | (go_at_call 54; refine (left_any (w := W) HFI.out.1.fld HFI.out.1.own HFI.out.1.sure HFI.out.1.big (amongN ks k) hal).mono ?_; rintro e w9 ⟨rfl, hw9⟩; have hw8 := hw9.symm; clear hw9; subst hw8; rw [← HDD.out.2]))
      go_roundw
      case rel =>
        refine ⟨k + 1, by go_num, hlt, ?_⟩
        have hfi := HFI.out.1
        have hk1 : Keep [fb p.2] W ((W.drew.setCell ⟨fb p.2, 0, none⟩ (.slice a dd.length dd.length)).setCell ⟨fb p.2, 1, none⟩ (.int .i64 (dd.length : Nat))) := (Keep.drew _ W).trans ((Keep.set _ _ _ _).trans (Keep.set _ _ _ _))
        have hfl : Fld 2 ((W.drew.setCell ⟨fb p.2, 0, none⟩ (.slice a dd.length dd.length)).setCell ⟨fb p.2, 1, none⟩ (.int .i64 (dd.length : Nat))) (fb p.2) (fcell a dd.length ⟨dd, dd.length⟩) := by
          refine (((hfi.fld.keep (Keep.drew [] W) (by simp)).set 0 (by omega) _).set 1 (by omega) _).eq ?_
          intro j hj
          match j, hj with
          | 0, _ => rfl
          | 1, _ => rfl
        have hfc := hfi.cut hk1 HLE.out HDD.out.1 hfl
        have hx := Pdu.setFile (m := { m with now := m.dirAt dir, fl := fk }) HX.out HFI.out.2 hk1 hfc
        have hgo : Goes T T W ((W.drew.setCell ⟨fb p.2, 0, none⟩ (.slice a dd.length dd.length)).setCell ⟨fb p.2, 1, none⟩ (.int .i64 (dd.length : Nat))) := Goes.keep hk1 (by intro b hb _; simp at hb; subst hb; rw [hfi.tag]; omega)
        refine ⟨by rw [HNX.out]; exact hx, HW.out.2.1.trans hgo, hk1.own HW.out.2.2.1 ?_, Nat.le_trans HW.out.2.2.2 hk1.size⟩
        intro g' hg' hm'
        simp at hm'
        have h1 := (HW.out.2.2.1.lt g' hg').1
        have h2 := H3.out.1.fresh g' h1
        rw [hm', hfi.tag] at h2; omega
      case measure => simp [intOf]; omega
    · have hk' : k = L := by omega
      subst hk'
      have c6 := (HW.out.1.top.1.2 6 (by omega)).1
      simp only [Top.cell] at c6
      have HU : Hid (usedOf (fallF ks (m.dirAt dir) m.fl k) (m.dirAt dir) ≤ 9223372036854775807) := by
        have hx : ∀ p ∈ m.dirAt dir, lenOf (fallF ks (m.dirAt dir) m.fl k) p.2 ≤ 2147483648 := fun p hp => by
          obtain ⟨f, hf⟩ : ∃ f, (fallF ks (m.dirAt dir) m.fl k)[p.2]? = some f := ⟨_, List.getElem?_eq_getElem (HW.out.1.ids p hp)⟩
          obtain ⟨a, c, hfi⟩ := HW.out.1.file p.2 f hf
          rw [lenOf_some hf]; exact hfi.big
        have := usedOf_le hx
        rw [HLL.out] at this
        show _ ≤ _
        omega
      have HB : Hid (∀ p ∈ m.dirAt dir, ∃ f, (fallF ks (m.dirAt dir) m.fl k)[p.2]? = some f ∧ ∃ a c, Fld 2 W (fb p.2) (fcell a c f)) := fun p hp => by
        obtain ⟨f, hf⟩ : ∃ f, (fallF ks (m.dirAt dir) m.fl k)[p.2]? = some f := ⟨_, List.getElem?_eq_getElem (HW.out.1.ids p hp)⟩
        obtain ⟨a, c, hfi⟩ := HW.out.1.file p.2 f hf
        exact ⟨f, hf, a, c, hfi.fld⟩
      have HWF : Hid (∀ W2, Below W.heap.size W W2 → ∀ j, j < 9 → W2.frozen? ⟨d, j, none⟩ = false ∧ ∃ v, W2.cell? ⟨d, j, none⟩ = some v) := fun W2 hb j hj => ⟨((HW.out.1.below hb).top.1.2 j hj).2, _, ((HW.out.1.below hb).top.1.2 j hj).1⟩
      go_wp2_with (go_at_call 57; refine (bytes_any HW.out.1.map HW.out.1.dir HB.out HU.out).mono ?_; rintro e w9 ⟨rfl, hb9⟩; have H9 : Hid (Below W.heap.size W w9) := hb9; obtain ⟨f5, x5, d5⟩ := HWF.out w9 hb9 5 (by omega); obtain ⟨f7, x7, d7⟩ := HWF.out w9 hb9 7 (by omega); obtain ⟨f8, x8, d8⟩ := HWF.out w9 hb9 8 (by omega); obtain ⟨f00, x00, d00⟩ := HWF.out w9 hb9 0 (by omega); obtain ⟨f01, x01, d01⟩ := HWF.out w9 hb9 1 (by omega); obtain ⟨f02, x02, d02⟩ := HWF.out w9 hb9 2 (by omega); obtain ⟨f03, x03, d03⟩ := HWF.out w9 hb9 3 (by omega); clear hb9)
      go_end0
      have hx := HW.out.1.below H9.out
      have e : m.fall dir ks = ⟨Rig.zero, m.room, fallF ks (m.dirAt dir) m.fl k, m.dirAt dir, [], false⟩ := by unfold Dm.fall; rw [HLL.out]
      rw [e]
      refine ⟨rfl, ⟨_, D3, Pdu.fell hx (keep_fell _ _ _) ⟨fld_fell hx.top.1 _, ?_⟩⟩, HW.out.2.1.trans ((Goes.below H9.out).trans (Goes.keep (keep_fell _ _ _) ?_))⟩
      · exact ⟨Nat.zero_le _, Nat.zero_le _, Nat.zero_le _, Nat.zero_le _⟩
      · intro b hb _
        simp at hb; subst hb
        have := H3.out.1.td; omega
end Dsk
end Go.Proofs.Ytbloifnibgdeoaa
