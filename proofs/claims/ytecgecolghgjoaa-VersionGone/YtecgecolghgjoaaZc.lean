import Derived.Test.YtecgecolghgjoaaZb
namespace Go.Proofs.Ytecgecolghgjoaa
namespace Vr
open Go.Shelf Go.RowKit Go.Maps Go.ChangeMaps Go.MapKept Laws Irw Crw
set_option linter.unusedVariables false
set_option linter.unusedSimpArgs false
set_option maxRecDepth 20000
/-- what stays of a level -/
def stay (ns : List Nat) (l : List Tb) : List Tb := l.filter fun t => decide (t.no ∈ ns)
/-- the first k levels have been gone through -/
def flt (ns : List Nat) (V : Lv) (k : Nat) : Lv := (V.take k).map (stay ns) ++ V.drop k
theorem flt_len (ns : List Nat) (V : Lv) (k : Nat) : (flt ns V k).length = V.length := by
  simp [flt]; omega
theorem flt_zero (ns : List Nat) (V : Lv) : flt ns V 0 = V := by simp [flt]
theorem flt_all (ns : List Nat) (V : Lv) : flt ns V V.length = V.map (stay ns) := by simp [flt]
theorem flt_get {ns : List Nat} {V : Lv} {k : Nat} (h : k < V.length) : (flt ns V k)[k]? = V[k]? := by
  unfold flt
  rw [List.getElem?_append_right (by simp; omega)]
  simp [Nat.min_eq_left (Nat.le_of_lt h)]
theorem flt_set {ns : List Nat} {V : Lv} {k : Nat} {l : List Tb} (h : V[k]? = some l) : (flt ns V k).set k (stay ns l) = flt ns V (k + 1) := by
  have hk := (List.getElem?_eq_some_iff.1 h).1
  unfold flt
  rw [List.set_append_right _ _ (by simp; omega), List.length_map, List.length_take, Nat.min_eq_left (by omega), Nat.sub_self, List.take_add_one, h, List.map_append]
  have e : V.drop k = l :: V.drop (k + 1) := by
    obtain ⟨h1, h2⟩ := List.getElem?_eq_some_iff.1 h
    rw [← h2]; exact List.drop_eq_getElem_cons h1
  rw [e]
  simp
def DtIs (w0 : World) (db mb : Nat) (ls : Sv) (V : Lv) (ns : List Nat) (T : Nat → Nat) (e : Ending) (w' : World) : Prop := e = .returned (.tuple #[]) ∧ DAt w0 T w' db mb ls (V.map (stay ns)) ns
set_option maxHeartbeats 2000000 in
theorem dropTaken_any {w0 : World} {T : Nat → Nat} {w : World} {db mb lb n c : Nat} {V : Lv} {ns : List Nat} (h : DAt w0 T w db mb (some ⟨lb, 0, none⟩, n, c) V ns) (hf : Fits V) (hno : NumOk V) :
    Calls Try.prog 48 #[.pointer (some ⟨db, 0, none⟩)] w fun e w' => DtIs w0 db mb (some ⟨lb, 0, none⟩, n, c) V ns T e w' := by
  have hn := h.len
  subst hn
  have hv5 := hf.1
  have HF : Hid (Fits V ∧ NumOk V) := ⟨hf, hno⟩
  have HD : Hid (DAt w0 T (w.alloc (Obj.cells #[.pointer (some ⟨db, 0, none⟩)] 90)) db mb (some ⟨lb, 0, none⟩, V.length, c) V ns ∧ Zb (w.alloc (Obj.cells #[.pointer (some ⟨db, 0, none⟩)] 90)) w.heap.size [.pointer (some ⟨db, 0, none⟩)]) := ⟨h.below ((Below.refl _ _).alloc (Nat.le_refl _) _), Zb.new w #[.pointer (some ⟨db, 0, none⟩)] 90⟩
  have HT : Hid (T w.heap.size = 0 ∧ w.heap.size ≠ lb) := ⟨h.old.zero _ (.inr (Nat.le_refl _)), by
    obtain ⟨vs, l1, _⟩ := h.lvl
    have := (l1.1.lt lb rfl).2
    omega⟩
  have c0 := HD.out.1.box.2.1 0 _ rfl
  simp only [svV] at c0
  clear h hf hno
  go_enter Try.func48, Try.ntmps48
  go_wp2
  obtain ⟨W, hW⟩ : ∃ W, w.alloc (Obj.cells #[.pointer (some ⟨db, 0, none⟩)] 90) = W := ⟨_, rfl⟩
  obtain ⟨bx, hbx⟩ : ∃ b, w.heap.size = b := ⟨_, rfl⟩
  rw [hW, hbx] at HD
  rw [hbx] at HT
  rw [hW, hbx]
  clear hW hbx c0
  go_loopw [9] (fun i wr => ∃ k : Nat, k ≤ V.length ∧ i = .int .i64 (k : Int) ∧ Hid (DAt w0 T wr db mb (some ⟨lb, 0, none⟩, V.length, c) (flt ns V k) ns ∧ Zb wr bx [.pointer (some ⟨db, 0, none⟩)])) (fun i _ => V.length - (intOf i).toNat)
  case atStart => exact ⟨0, Nat.zero_le _, rfl, by rw [flt_zero]; exact HD.out.1, HD.out.2⟩
  case round =>
    clear HD
    obtain ⟨k, hk, rfl, HX⟩ := hrel
    rename World => wr
    by_cases hlt : k < V.length
    · have q1 : (k : Int) < (V.length : Int) := by omega
      obtain ⟨l, hl⟩ : ∃ l, V[k]? = some l := ⟨_, List.getElem?_eq_getElem hlt⟩
      have hl2 : (flt ns V k)[k]? = some l := (flt_get hlt).trans hl
      obtain ⟨⟨sa, sn, sc⟩, hc, hfr, hown⟩ := HX.out.1.cell (by rw [flt_len]; exact hlt) hl2
      have hsn := (OwnK.sk hown).1
      change sn = l.length at hsn
      subst hsn
      simp only [svV] at hc hown
      have c0 := HX.out.1.box.2.1 0 _ rfl
      simp only [svV] at c0
      have b0 := HX.out.2.2.1 0 _ rfl
      obtain ⟨r, hr⟩ : ∃ r, stay ns l = r := ⟨_, rfl⟩
      have HC : Hid (Calls Try.prog 56 #[.slice sa l.length sc, .func (.func 57) #[] #[.pointer (some ⟨bx, 0, none⟩)]] wr.drew fun e w' => DfIs T wr sa sc (10 + k) r e w') := by
        have hb : Below wr.heap.size wr wr.drew := (Below.refl _ _).drew
        rw [← hr]
        exact (deleteFunc_any sa sc l (HX.out.2.below hb) (HX.out.1.box.below hb) (HX.out.1.map.goes (Goes.below (t := fun _ => False) hb) (fun z => z)) (hown.below hb) (HF.out.2 l (List.mem_of_getElem? hl)) (HF.out.1.2 l (List.mem_of_getElem? hl)) (by rw [HT.out.1]; omega) (by rw [HX.out.1.td]; omega) (by omega)).mono fun e w' hp => ⟨hp.1, (Goes.below hb).trans hp.2.1, hp.2.2⟩
      have HO : Hid (V[k]? = some l ∧ stay ns l = r) := ⟨hl, hr⟩
      have hrl : r.length ≤ l.length := by rw [← hr]; exact List.length_filter_le _ _
      clear hown hl hl2 hr
      go_wp2
      go_region_with (go_at_call 56; go_loud (refine HC.out.mono ?_; rintro e w2 ⟨rfl, hg2, ho2⟩; have HB2 : Hid (Goes (· = 10 + k) T wr T w2 ∧ OwnK kTb (10 + k) T w2 (.slice sa r.length sc) r) := ⟨hg2, ho2⟩; obtain ⟨d0, ⟨u5, hu5⟩, hfr5⟩ := HX.out.1.after hg2 (by rw [flt_len]; exact hlt); have d1 := (HX.out.2.goes hg2 (by rw [HT.out.1]; omega)).2.1 0 _ rfl; clear hg2 ho2))
      all_goals
        go_wp2
        go_roundw
        case rel =>
          refine ⟨k + 1, by omega, by go_num, ?_⟩
          have h1 := HX.out.1.setl HB2.out.1 HB2.out.2 (by rw [flt_len]; exact hlt) (s := (sa, r.length, sc))
          rw [← HO.out.2, flt_set HO.out.1] at h1
          rw [← HO.out.2]
          exact ⟨h1.1, (HX.out.2.goes HB2.out.1 (by rw [HT.out.1]; omega)).other (w' := wr) _ _ HT.out.2⟩
        case measure => simp [intOf]; omega
    · have q1 : ¬ (k : Int) < (V.length : Int) := by omega
      have HK : Hid (k = V.length) := show k = V.length by omega
      go_wp2
      go_end0
      have := HX.out.1
      rw [HK.out, flt_all] at this
      exact ⟨rfl, this⟩
end Vr
end Go.Proofs.Ytecgecolghgjoaa
