import Derived.Test.YtbloifnibgdeoaaDLef
import Derived.Deep.RegionLaw
import Derived.Deep.DrawnRows
namespace Go.Proofs.Ytbloifnibgdeoaa
namespace Dsk
open Go.RowKit Go.Shelf Go.Maps Go.Sort Byt Laws
set_option linter.unusedVariables false
set_option maxRecDepth 100000
attribute [local go_sem ↓] Go.wp_at_zero Go.wp_at_succ

/-- The directory that a fall leaves. -/
def Dm.dirAt (m : Dm) (dir : Int) : List (Key × Nat) := ((m.ch.drop (keptN dir m.ch.length)).reverse).foldl undo1 m.now
def leftD (fl : List Fl) (i : Nat) (o : Int) : List Nat := (dataOf fl i).take (leftN (lenOf fl i) (sureOf fl i) o)
/-- What is told of the files l, of which falls leave so much. -/
def told (fl : List Fl) (ks : List Int) (l : List (Key × Nat)) : List Fi := l.zipIdx.map fun x => ⟨ba x.1.1, leftD fl x.1.2 (amongN ks x.2), (leftD fl x.1.2 (amongN ks x.2)).length⟩
/-- P3.7: Image. -/
def Dm.image (m : Dm) (dir : Int) (ks : List Int) : List Fi := told m.fl ks (m.dirAt dir)
theorem told_length (fl : List Fl) (ks : List Int) (l : List (Key × Nat)) : (told fl ks l).length = l.length := by simp [told]
theorem told_get {fl : List Fl} {ks : List Int} {l : List (Key × Nat)} {k : Nat} {p : Key × Nat} (h : l[k]? = some p) : (told fl ks l)[k]? = some ⟨ba p.1, leftD fl p.2 (amongN ks k), (leftD fl p.2 (amongN ks k)).length⟩ := by
  simp [told, List.getElem?_zipIdx, h]

theorem ids_putD {l : List (Key × Nat)} {n : Nat} (h : ∀ p ∈ l, p.2 < n) (k : Key) {o : Option Nat} (ho : ∀ i, o = some i → i < n) : ∀ p ∈ putD l k o, p.2 < n := by
  intro p hp
  cases o with
  | none => exact h p (mem_del hp)
  | some i =>
    rcases ins_mem hp with rfl | hp
    · exact ho i rfl
    · exact h p hp
theorem ids_undo1 {l : List (Key × Nat)} {n : Nat} (h : ∀ p ∈ l, p.2 < n) {c : Chg} (hc : (∀ i, c.was = some i → i < n) ∧ (∀ i, c.over = some i → i < n)) : ∀ p ∈ undo1 l c, p.2 < n := by
  unfold undo1
  refine ids_putD ?_ _ hc.1
  split
  · exact h
  · exact ids_putD h _ hc.2
theorem ids_undo {n : Nat} : ∀ (cs : List Chg) {l : List (Key × Nat)}, (∀ p ∈ l, p.2 < n) → (∀ c ∈ cs, (∀ i, c.was = some i → i < n) ∧ (∀ i, c.over = some i → i < n)) → ∀ p ∈ cs.foldl undo1 l, p.2 < n
  | [], l, h, _ => h
  | c :: cs, l, h, hc => ids_undo cs (ids_undo1 h (hc c (by simp))) (fun x hx => hc x (by simp [hx]))
theorem len_undo : ∀ (cs : List Chg) (l : List (Key × Nat)), (cs.foldl undo1 l).length ≤ l.length + 2 * cs.length
  | [], l => by simp
  | c :: cs, l => by
    have h1 := len_undo cs (undo1 l c)
    have h2 := undo1_len l c
    simp only [List.foldl_cons, List.length_cons]
    omega
theorem Pdi.dirIds {T : Nat → Nat} {w : World} {d mb : Nat} {fb : Nat → Nat} {m : Dm} {cv : Value} {D : DataW (Option Addr)} (h : Pdi T w d mb fb m cv D) (dir : Int) : ∀ p ∈ m.dirAt dir, p.2 < m.fl.length :=
  ids_undo _ h.ids (fun c hc => h.cids c (List.mem_of_mem_drop (List.mem_reverse.1 hc)))
theorem dirAt_len (m : Dm) (dir : Int) : (m.dirAt dir).length ≤ m.now.length + 2 * m.ch.length := by
  have := len_undo ((m.ch.drop (keptN dir m.ch.length)).reverse) m.now
  unfold Dm.dirAt
  simp only [List.length_reverse, List.length_drop] at this
  omega

theorem IntsAt.below {w w' : World} {a : Option Addr} {ks : List Int} (h : IntsAt w a ks) (hb : Below w.heap.size w w') : IntsAt w' a ks := fun j x hx => by
  obtain ⟨b, off, e, hc⟩ := h j x hx
  exact ⟨b, off, e, (hb.cell (p := ⟨b, off + j, none⟩) (World.block_lt_of_cell? w _ hc)).trans hc⟩
theorem among_le {ks : List Int} (h : ∀ x ∈ ks, x ≤ 9223372036854775807) (i : Nat) : amongN ks i ≤ 9223372036854775807 := by
  unfold amongN
  cases e : ks[i % ks.length]? with
  | none => simp
  | some x => exact h x (List.mem_of_getElem? e)
theorem FilesAt.lower {base base' : Nat} {w : World} {v : Value} {fs : List Fi} {ds : List (Option Addr × Nat)} (h : FilesAt base w v fs ds) (hb : base' ≤ base) : FilesAt base' w v fs ds :=
  ⟨h.len, ⟨h.row.1, by
    rcases h.row.2 with h2 | ⟨g, cap, cur, h1, h3, h4⟩
    · exact .inl h2
    · exact .inr ⟨g, cap, cur, h1, by omega, h4⟩⟩, fun i f x hf hx => ⟨(h.data i f x hf hx).1.lower hb, (h.data i f x hf hx).2⟩⟩
set_option maxHeartbeats 4000000 in
theorem image_any {T : Nat → Nat} {w : World} {d mb : Nat} {fb : Nat → Nat} {m : Dm} (h : Pd T w d mb fb m) (dir : Int) (ak : Option Addr) (ck : Nat) (ks : List Int) (hk : IntsAt w ak ks) (hck : ks.length ≤ ck) (hck2 : ck ≤ 9223372036854775807) (hkw : ∀ x ∈ ks, x ≤ 9223372036854775807) (hm : m.now.length ≤ 500000000) (hch : m.ch.length ≤ 1000000) :
    Calls Try.prog 17 #[.pointer (some ⟨d, 0, none⟩), .int .i64 dir, .slice ak ks.length ck] w fun e w' => ∃ v ds, e = .returned v ∧ FilesAt w.heap.size w' v (m.image dir ks) ds ∧ Below w.heap.size w w' := by
  obtain ⟨cv, D, h⟩ := h
  obtain ⟨i3, hi3, hz0, hz1, hz2⟩ := info_parts infoF
  have HH : Hid (Pdi T w d mb fb m cv D) := h
  have HIK : Hid (IntsAt w ak ks) := hk
  have HKW : Hid (∀ x ∈ ks, x ≤ 9223372036854775807) := hkw
  have c6 := (h.top.1.2 6 (by omega)).1
  simp only [Top.cell] at c6
  have HL : Hid ((m.dirAt dir).length ≤ m.now.length + 2 * m.ch.length) := dirAt_len m dir
  clear h hk hkw
  go_enter Try.func17, Try.ntmps17
  go_wp2_with fail
  refine (clone_own ptrR mb _ D w HH.out.map).mono ?_
  rintro e w1 ⟨rfl, hcm, _, hb1⟩
  have H1 : Hid (w1.ownsMap Try.prog 9 ptrR w.heap.size m.now.length D ∧ Below w.heap.size w w1 ∧ Pdi T w1 d mb fb m cv D) := ⟨hcm, hb1, HH.out.below hb1⟩
  have hs1 : w.heap.size < w1.heap.size := hcm.lt
  clear hcm hb1 c6
  go_wp2_with fail
  refine (lost_any H1.out.2.2 dir).mono ?_
  rintro e w2 ⟨v2, rfl, hw2, hlo⟩
  subst hw2
  obtain ⟨b, ps, l1, l2, l3, l4, l5⟩ := hlo
  have hbw : b < w.heap.size := by
    rcases l4 with rfl | l4
    · exact HH.out.top.1.1
    · exact (HH.out.chg.lt b l4).2
  have HLO : Hid (ps.map (fun x => x.2.1) = m.ch.drop (keptN dir m.ch.length) ∧ ps.length ≤ m.ch.length ∧ (∀ (j : Nat) (x : Nat × OkC m.fl.length), ps[j]? = some x → x.1 = j) ∧ ChgS fb w1 v2 ps b) := ⟨l1, l2, l3, l5⟩
  clear l1 l2 l3 l4 l5
  go_wp2_with fail
  refine (undo_any (w := w1.drew) H1.out.1 HH.out.dir v2 ps HLO.out.2.2.1 b (Nat.lt_trans hbw hs1) (by omega) (by have := HLO.out.2.1; omega) HLO.out.2.2.2 (by omega)).mono ?_
  rintro e w3 ⟨rfl, ⟨n3, D3, ho3, hd3⟩, hk3⟩
  have hd3' : DirIs D3 fb (m.dirAt dir) := by
    rw [undoAll_map, List.map_reverse, HLO.out.1] at hd3
    exact hd3
  have hb3 : Below w.heap.size w w3 := by
    have k := (Keep.below (bs := [w.heap.size]) ((H1.out.2.1.mono (Nat.le_refl _)).mono (Nat.le_refl _))).trans ((Keep.drew _ w1).trans hk3)
    exact ⟨k.os, k.tape, k.output, k.size, fun i hi => k.block i hi (by simp; omega)⟩
  have H3 : Hid (w3.ownsMap Try.prog 9 ptrR w.heap.size n3 D3 ∧ DirIs D3 fb (m.dirAt dir) ∧ Below w.heap.size w w3) := ⟨ho3, hd3', hb3⟩
  have hs3 : w.heap.size < w3.heap.size := ho3.lt
  obtain ⟨L, hL⟩ : ∃ L : Nat, (m.dirAt dir).length = L := ⟨_, rfl⟩
  have HLL : Hid ((m.dirAt dir).length = L) := hL
  have hmost : L ≤ 1073741824 := by have := HL.out; omega
  clear ho3 hd3 hd3' hb3 hk3 hL hbw
  go_wp2_with (first | (at_len; refine wpList_len_own w3 (by rfl) (.tmp 22) 82 (by rfl) 9 87 Try.underlying82 ptrR w.heap.size _ D3 (by rfl) H3.out.1 ?_; rw [size_dir H3.out.2.1 H3.out.1 keyed Try.underlying9, HLL.out]) | (at_make; refine wpList_make_own _ rfl _ _ 22 rfl w3.heap.size 67 i3 _ 3 Try.underlying22 hi3 hz0 hz1 _ _ _ L rfl rfl (by omega) (by rw [hz2]; omega) (by unfold maxLen; omega) (Nat.le_refl _) ?_; intro w4 hown4 hgr4; have H4 : Hid (Below w3.heap.size w3 w4 ∧ w4.ownsRow w3.heap.size 67 3 (.slice (some ⟨w3.heap.size, 0, none⟩) 0 L) 0 []) := ⟨below_of (Below.refl _ _) hgr4 (Nat.le_refl _) (by simp), hown4⟩; clear hgr4 hown4) | (go_at_call 49; refine (names_dir (w := w4) (by obtain ⟨es, clock, z1, z2⟩ := H3.out.1; exact ⟨es, clock, (H4.out.1.block _ hs3).trans z1, z2⟩) H3.out.2.1 (by rw [HLL.out]; omega)).mono ?_; rintro e w5 ⟨v5, rfl, ho5, hb5⟩; rw [HLL.out] at ho5; obtain ⟨a5, c5, rfl⟩ := own_slice ho5; have H5 : Hid (w5.ownsRow w4.heap.size 9 1 (.slice a5 L c5) L (((m.dirAt dir).map (·.1)).map encStr) ∧ Below w4.heap.size w4 w5) := ⟨ho5, hb5⟩; clear ho5 hb5))
  obtain ⟨IM, hIM⟩ : ∃ IM, IM = m.image dir ks := ⟨_, rfl⟩
  have HIM : Hid (IM = m.image dir ks) := hIM
  have HIL : Hid (IM.length = L) := by show _ = _; rw [hIM, Dm.image, told_length]; exact HLL.out
  clear hIM
  go_loopw [8, 9, 10, 11, 28, 29, 30, 31, 32, 33, 34, 35, 36, 37, 38, 39, 40, 41, 42, 43, 44, 45, 46, 47, 48, 49] (fun tl _ _ _ i _ _ _ _ _ _ _ _ _ _ _ _ _ _ _ _ _ _ _ _ _ wr => ∃ (k : Nat) (ds : List (Option Addr × Nat)), i = .int .i64 k ∧ k ≤ L ∧ FilesAt w3.heap.size wr tl (IM.take k) ds ∧ Below w3.heap.size w3 wr ∧ wr.ownsRow w4.heap.size 9 1 (.slice a5 L c5) L (((m.dirAt dir).map (·.1)).map encStr) ∧ ∀ b, tl.ownBlock = some b → (Value.slice a5 L c5).ownBlock ≠ some b) (fun _ _ _ _ i _ _ _ _ _ _ _ _ _ _ _ _ _ _ _ _ _ _ _ _ _ _ => L - (intOf i).toNat)
  case atStart =>
    have hs4 := H4.out.1.size
    refine ⟨0, [], rfl, Nat.zero_le _, ⟨rfl, (Keep.below (bs := []) H5.out.2).own H4.out.2 (by simp), by simp⟩, H4.out.1.trans (H5.out.2.mono hs4), H5.out.1, ?_⟩
    intro b hb e
    cases hb
    have h1 : w4.heap.size ≤ w3.heap.size := (H5.out.1.lt _ e).1
    have h2 : w3.heap.size < w4.heap.size := (H4.out.2.lt _ rfl).2
    omega
  case round =>
    rename World => W
    obtain ⟨k, ds, rfl, hk, hfa, hbw, hnm, hsep⟩ := hrel
    by_cases hlt : k < L
    · have hlt' : (k : Int) < (L : Int) := by omega
      obtain ⟨p, hp⟩ : ∃ p, (m.dirAt dir)[k]? = some p := ⟨_, List.getElem?_eq_getElem (by rw [HLL.out]; exact hlt)⟩
      obtain ⟨g, c, e, hc1, hc2, hg1, hg2, hcell⟩ := names_cell hnm hp
      obtain ⟨rfl, _, rfl⟩ := Value.slice.inj e
      have hbW : Below w.heap.size w W := H3.out.2.2.trans (hbw.mono H3.out.2.2.size)
      have hpd := HH.out.below hbW
      have hpm : p ∈ m.dirAt dir := List.mem_of_getElem? hp
      have homW : W.ownsMap Try.prog 9 ptrR w.heap.size n3 D3 := by
        obtain ⟨es, clock, z1, z2⟩ := H3.out.1
        exact ⟨es, clock, (hbw.block _ hs3).trans z1, z2⟩
      have hsz : (ba p.1).size ≤ maxLen := by rw [ba_size]; exact names_len homW H3.out.2.1 p hpm
      have hlk : (Instr.lookup 82 (.map (some w.heap.size)) (.string (ba p.1)) false).run Try.prog W.drew = .ok (.pointer (some ⟨fb p.2, 0, none⟩)) W.drew := by
        have z := look_run (w := W.drew) (m := { m with now := m.dirAt dir }) (fb := fb) (tight homW (size_dir H3.out.2.1 homW keyed Try.underlying9)) H3.out.2.1 (ba p.1) hsz
        have z2 : look (m.dirAt dir) (ky (ba p.1)) = some p.2 := by rw [ky_ba]; exact look_mem H3.out.2.1.rises hpm
        simp only [z2, pv] at z
        exact z
      obtain ⟨f, hf⟩ : ∃ f, m.fl[p.2]? = some f := ⟨_, List.getElem?_eq_getElem (HH.out.dirIds dir p hpm)⟩
      obtain ⟨a, cc, hfi⟩ := hpd.file p.2 f hf
      have HFI : Hid (FileAt T W (fb p.2) p.2 f a cc) := hfi
      have HFA : Hid (FilesAt w3.heap.size W u8 (IM.take k) ds) := hfa
      have HTK : Hid ((IM.take k).length = k) := by show _ = _; rw [List.length_take, HIL.out]; omega
      have hE := leftN_le hfi.sure (amongN ks k)
      obtain ⟨dd, hdd⟩ : ∃ dd, dd = f.data.take (leftN f.data.length f.sure (amongN ks k)) := ⟨_, rfl⟩
      have hddl : dd.length = leftN f.data.length f.sure (amongN ks k) := by rw [hdd, List.length_take]; omega
      have HNX : Hid (IM.take (k + 1) = IM.take k ++ [⟨ba p.1, dd, dd.length⟩]) := by
        show _ = _
        rw [List.take_add_one]
        congr 1
        have z := told_get (fl := m.fl) (ks := ks) hp
        have z2 : leftD m.fl p.2 (amongN ks k) = dd := by rw [hdd]; simp [leftD, dataOf, sureOf, lenOf, hf]
        rw [z2] at z
        rw [HIM.out, Dm.image, z]; rfl
      have HDD : Hid (dd = f.data.take (leftN f.data.length f.sure (amongN ks k)) ∧ dd.length = leftN f.data.length f.sure (amongN ks k)) := ⟨hdd, hddl⟩
      have HBW : Hid (Below w3.heap.size w3 W) := hbw
      have HIW : Hid (IntsAt W ak ks) := HIK.out.below hbW
      have HNM : Hid (W.ownsRow w4.heap.size 9 1 (.slice (some ⟨g, 0, none⟩) L c5) L (((m.dirAt dir).map (·.1)).map encStr)) := hnm
      have HSEP : Hid (∀ b, u8.ownBlock = some b → (Value.slice (some ⟨g, 0, none⟩) L c5).ownBlock ≠ some b) := hsep
      have hal := among_le HKW.out k
      have hkb : k ≤ 9223372036854775807 := by omega
      have hdb : dd.length ≤ 2147483648 := by rw [hddl]; have := hfi.big; omega
      generalize ba p.1 = nm at *
      clear hfa hbw hnm hsep hpd hpm hf hfi hsz e hp hg1 hg2 hdd hddl hE homW hbW
      go_wp2
      go_region_law (first
        | (go_simp; go_at_call 55; refine (among_any (w := W.drew) HIW.out rfl hck hck2 k hkb).mono ?_; rintro e w9 ⟨rfl, hw9⟩; have hw8 := hw9.symm; clear hw9; subst hw8)
        | (go_simp; go_at_call 54; refine (left_any (w := W.drew) HFI.out.fld (HFI.out.own.below ((Below.refl _ _).drew)) HFI.out.sure HFI.out.big (amongN ks k) hal).mono ?_; rintro e w9 ⟨rfl, hw9⟩; have hw8 := hw9.symm; clear hw9; subst hw8; rw [← HDD.out.2])
        | (go_simp; go_at_call 50; refine (clone_any a dd.length dd.length dd W.drew.drew (by rw [HDD.out.1]; exact HFI.out.own.isB.take _) (by intro e; have z := HFI.out.own.isB; rw [e] at z; have z2 := z.none; rw [HDD.out.1, z2]; simp) rfl (by omega)).mono ?_; rintro e W1 ⟨a1, c1, rfl, hn1, hb1⟩; have hb1' : Below W.heap.size W W1 := (((Below.refl W.heap.size W).drew).drew).trans hb1; have HC : Hid (New 5 W.heap.size W1 a1 c1 dd ∧ Below W.heap.size W W1 ∧ W1.ownsRow w3.heap.size 67 3 u8 k (fiRow (IM.take k) ds)) := ⟨hn1, hb1', (by have z := (Keep.below (bs := []) hb1').own HFA.out.row (by simp); rw [HTK.out] at z; exact z)⟩; clear hn1 hb1 hb1'))
      all_goals
        have hWs : w3.heap.size ≤ W.heap.size := HBW.out.size
        go_wp2_with (at_builtin; refine wpList_app _ (by rfl) (.tmp 41) (.tmp 47) 22 (by rfl) w3.heap.size 67 i3 _ 3 48 Try.underlying22 hi3 hz0 hz1 hz2 rfl (by omega) u8 k (fiRow (IM.take k) ds) (by rfl) (HC.out.2.2.alloc _) ⟨W1.heap.size, 0, none⟩ 1 1 [.string nm, .slice a1 dd.length c1, .int .i64 (dd.length : Nat)] (by rfl) (by rfl) (World.news_of_block (heap_alloc_new W1 _)) (by intro u hu; simp at hu; rcases hu with rfl | rfl | rfl <;> rfl) (by intro _; omega) (by unfold maxLen; omega) (by omega) (Nat.le_trans (Nat.le_trans hWs HC.out.2.1.size) (Keep.alloc [] _ _).size) (W1.heap.size + 1) (by simp) ?_; intro g7 c7 w7 hown7 hgr7 hat7 hlt7; have HR : Hid (FilesAt w3.heap.size w7 (.slice (some ⟨g7, 0, none⟩) (k + 1) c7) (IM.take k ++ [⟨nm, dd, dd.length⟩]) (ds ++ [(a1, c1)]) ∧ Keep u8.ownBlock.toList W w7 ∧ (u8.ownBlock = some g7 ∨ W1.heap.size ≤ g7)) := ⟨(by have z := HFA.out.push HC.out.2.1 hWs (f := ⟨nm, dd, dd.length⟩) HC.out.1 (Keep.alloc [] _ _) hgr7 (c' := c7) (by rw [HTK.out]; exact hown7) (hat7.imp id (by intro e; omega)); rw [HTK.out] at z; exact z), (Keep.below HC.out.2.1).trans ((Keep.alloc _ _ _).trans (Keep.grown hgr7)), hat7.imp id (by intro e; omega)⟩; clear hown7 hgr7 hat7 hlt7)
        go_roundw
        case rel =>
          refine ⟨k + 1, ds ++ [(a1, c1)], by go_num, hlt, ?_, ?_, ?_, ?_⟩
          · rw [HNX.out]; exact HR.out.1
          · refine HBW.out.trans ⟨HR.out.2.1.os, HR.out.2.1.tape, HR.out.2.1.output, HR.out.2.1.size, fun b hb => HR.out.2.1.block b (by omega) (fun hm => ?_)⟩
            have := (HFA.out.row.lt b (by simpa using hm)).1
            omega
          · exact HR.out.2.1.own HNM.out (fun x hx hm => HSEP.out x (by simpa using hm) hx)
          · intro b hb e
            have hb' : g7 = b := by simpa [Value.ownBlock] using hb
            subst hb'
            have hx := (HNM.out.lt _ e).2
            rcases HR.out.2.2 with h1 | h1
            · exact HSEP.out _ h1 e
            · have := HC.out.2.1.size; omega
        case measure => simp [intOf]; omega
    · have hk' : k = L := by omega
      subst hk'
      go_wp2
      go_ret
      have e : IM.take k = IM := List.take_of_length_le (by rw [HIL.out]; exact Nat.le_refl _)
      rw [e, HIM.out] at hfa
      exact ⟨_, ds, rfl, hfa.lower (by omega), H3.out.2.2.trans (hbw.mono H3.out.2.2.size)⟩
end Dsk
end Go.Proofs.Ytbloifnibgdeoaa
