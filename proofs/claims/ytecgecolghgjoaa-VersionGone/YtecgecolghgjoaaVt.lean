import Derived.Test.YtecgecolghgjoaaVq
namespace Go.Proofs.Ytecgecolghgjoaa
namespace Vr
open Go.Shelf Go.RowKit Go.Lib Go.Sort Go.Maps Go.ChangeMaps Go.MapKept Laws Irw Crw
set_option linter.unusedVariables false
set_option linter.unusedSimpArgs false
set_option maxRecDepth 20000
theorem ovl_false : ∀ {l : List Tb}, (∀ (i : Nat) a b, l[i]? = some a → l[i + 1]? = some b → ltS a.gr b.le = true) → ovl l = false
  | [], _ => rfl
  | [a], _ => rfl
  | a :: b :: r, h => by
    simp only [ovl, Bool.or_eq_false_iff, Bool.not_eq_false']
    exact ⟨h 0 a b rfl rfl, ovl_false fun i x y hx hy => h (i + 1) x y (by simpa using hx) (by simpa using hy)⟩
theorem ovl_true : ∀ {l : List Tb} {i : Nat} {a b : Tb}, l[i]? = some a → l[i + 1]? = some b → ltS a.gr b.le = false → ovl l = true
  | [], i, a, b, h, _, _ => by simp at h
  | [x], i, a, b, _, h, _ => by simp at h
  | x :: y :: r, 0, a, b, h1, h2, h3 => by
    simp at h1 h2
    subst h1; subst h2
    simp [ovl, h3]
  | x :: y :: r, i + 1, a, b, h1, h2, h3 => by
    have := ovl_true (l := y :: r) (i := i) (a := a) (b := b) (by simpa using h1) (by simpa using h2) h3
    simp only [ovl, this, Bool.or_true]
set_option maxHeartbeats 2000000 in
theorem overlapping_any (a : Option Addr) (c : Nat) (l : List Tb) (w : World) (h : Ls kTb w (a, l.length, c) l) (hlen : l.length ≤ 3000000) :
    Calls Try.prog 52 #[.slice a l.length c] w fun e w' => e = .returned (.bool (ovl l)) ∧ Below w.heap.size w w' := by
  have HL : Hid (Ls kTb w (a, l.length, c) l) := h
  have l1 := geqS
  clear h
  go_enter Try.func52, Try.ntmps52
  go_wp2
  go_loopw [3] (fun i wr => ∃ k : Nat, k ≤ l.length ∧ i = .int .i64 ((k : Int) + 1) ∧ Hid (Below w.heap.size w wr ∧ ∀ (j : Nat) x y, j < k → l[j]? = some x → l[j + 1]? = some y → ltS x.gr y.le = true)) (fun i _ => l.length + 1 - (intOf i).toNat)
  case atStart => exact ⟨0, Nat.zero_le _, rfl, Below.refl _ _, fun j x y hj => by omega⟩
  case round =>
    obtain ⟨k, hk, rfl, HX⟩ := hrel
    rename World => wr
    by_cases hlt : k + 1 < l.length
    · have q1 : (k : Int) + 1 < (l.length : Int) := by omega
      obtain ⟨b, off, rfl, hb, t, ht, x0, x1, x2, x3, x4, x5⟩ := (HL.out.below HX.out.1).tb (i := k) (by omega)
      obtain ⟨b', off', e', hb', u, hu, y0, y1, y2, y3, y4, y5⟩ := (HL.out.below HX.out.1).tb (i := k + 1) hlt
      cases e'
      have w1 : IntKind.i64.wrap ((k : Int) + 1 - 1) = (k : Int) := by rw [IntWalk.i64_in _ (by omega)]; omega
      have q2 : (0 : Int) ≤ (k : Int) + 1 - 1 := by omega
      have q3 : (k : Int) < (l.length : Int) := by omega
      have q4 : ((k : Int) + 1).toNat = k + 1 := by omega
      have q5 : (0 : Int) ≤ (k : Int) + 1 := by omega
      have HT : Hid (l[k]? = some t ∧ l[k + 1]? = some u) := ⟨ht, hu⟩
      clear ht hu
      go_wp2
      cases hq : ltS t.gr u.le with
      | true =>
        have hq2 : Op.bytesLess t.gr.toList u.le.toList = true := by rw [lt_ltS]; exact hq
        go_quiet (fail)
        go_wp2
        go_roundw
        case rel =>
          refine ⟨k + 1, by omega, by go_num, bl_dn HX.out.1 _, fun j x y hj hx hy => ?_⟩
          by_cases e : j = k
          · subst e
            rw [HT.out.1] at hx
            rw [HT.out.2] at hy
            cases hx; cases hy
            exact hq
          · exact HX.out.2 j x y (by omega) hx hy
        case measure => simp [intOf]; omega
      | false =>
        have hq2 : Op.bytesLess t.gr.toList u.le.toList = false := by rw [lt_ltS]; exact hq
        go_quiet (fail)
        go_wp2
        go_ret
        exact ⟨by rw [ovl_true HT.out.1 HT.out.2 hq]; rfl, bl_dn HX.out.1 _⟩
    · have q1 : ¬ (k : Int) + 1 < (l.length : Int) := by omega
      have HO : Hid (ovl l = false) := ovl_false fun i x y hx hy => HX.out.2 i x y (by have := (List.getElem?_eq_some_iff.1 hy).1; omega) hx hy
      go_wp2
      go_ret
      exact ⟨by rw [HO.out]; rfl, HX.out.1⟩
end Vr
end Go.Proofs.Ytecgecolghgjoaa
namespace Go.Proofs.Ytecgecolghgjoaa
namespace Vr
open Go.Shelf Go.RowKit Go.Lib Go.Sort Go.Maps Go.ChangeMaps Go.MapKept Laws Irw Crw
set_option linter.unusedVariables false
set_option linter.unusedSimpArgs false
set_option maxRecDepth 20000
theorem svV_inj {a b : Sv} (h : svV a = svV b) : a = b := by
  obtain ⟨a1, a2, a3⟩ := a
  obtain ⟨b1, b2, b3⟩ := b
  simp only [svV, Value.slice.injEq] at h
  obtain ⟨rfl, rfl, rfl⟩ := h
  rfl
/-- one level's list is sorted where it lies -/
theorem DAt.turn {w0 : World} {T : Nat → Nat} {w w2 : World} {db mb lb n c k : Nat} {V : Lv} {ns : List Nat} {s : Sv} {d : List Tb} (h : DAt w0 T w db mb (some ⟨lb, 0, none⟩, n, c) V ns) (hc : w.cell? ⟨lb, k, none⟩ = some (svV s)) (hg : Goes (· = 10 + k) T w T w2) (ho : OwnK kTb (10 + k) T w2 (svV s) d) (hk : k < V.length) :
    DAt w0 T w2 db mb (some ⟨lb, 0, none⟩, n, c) (V.set k d) ns := by
  obtain ⟨vs, l1, l2, l3⟩ := h.lvl
  have hkv : k < vs.length := by omega
  have hv : vs[k]? = some vs[k] := List.getElem?_eq_getElem hkv
  have hs : vs[k] = s := by
    obtain ⟨b, off, e1, _, hc'⟩ := (Ls.own (s := (some ⟨lb, 0, none⟩, n, c)) l1).cell hv
    cases e1
    have := hc' 0 _ rfl
    rw [Nat.zero_add, show k * kS.size + 0 = k by show k * 1 + 0 = k; omega, hc] at this
    exact (svV_inj (Option.some.inj this)).symm
  refine ⟨h.old.goes hg (by omega), h.td, h.box.goes hg (by rw [h.td]; omega), ⟨vs, l1.goes hg (by omega), by simp [l2], fun i v l' hv' hl => ?_⟩, h.map.goes hg (by omega)⟩
  by_cases hik : k = i
  · subst hik
    rw [hv, hs] at hv'
    rw [List.getElem?_set_self hk] at hl
    cases hv'; cases hl
    exact ho
  · rw [List.getElem?_set_ne hik] at hl
    exact (l3 i v l' hv' hl).goes hg (by omega)
/-- levels while they are sorted -/
def ordK (V : Lv) (k : Nat) : Lv := V.take 1 ++ (((V.drop 1).take k).map srt ++ (V.drop 1).drop k)
theorem ordK_len (V : Lv) (k : Nat) : (ordK V k).length = V.length := by
  simp [ordK]; omega
theorem ordK_zero (V : Lv) : ordK V 0 = V := by
  unfold ordK
  rw [List.take_zero, List.map_nil, List.nil_append, List.drop_zero, List.take_append_drop]
theorem ordK_all {V : Lv} {k : Nat} (h : V.length ≤ k + 1) : ordK V k = ordered V := by
  unfold ordK ordered
  rw [List.take_of_length_le (show (V.drop 1).length ≤ k by simp; omega), List.drop_of_length_le (show (V.drop 1).length ≤ k by simp; omega), List.append_nil]
theorem ordK_get {V : Lv} {k : Nat} (h : k + 1 < V.length) : (ordK V k)[k + 1]? = V[k + 1]? := by
  unfold ordK
  rw [List.getElem?_append_right (by simp; omega), List.getElem?_append_right (by simp; omega)]
  simp
  congr 1
  omega
theorem ordK_set {V : Lv} {k : Nat} {l : List Tb} (h : V[k + 1]? = some l) : (ordK V k).set (k + 1) (srt l) = ordK V (k + 1) := by
  have hk := (List.getElem?_eq_some_iff.1 h).1
  apply List.ext_getElem?
  intro j
  have hd : (V.drop 1)[k]? = some l := by rw [List.getElem?_drop, Nat.add_comm]; exact h
  have hdl : k < (V.drop 1).length := (List.getElem?_eq_some_iff.1 hd).1
  have e1 : ordK V k = V.take 1 ++ (((V.drop 1).take k).map srt ++ (l :: (V.drop 1).drop (k + 1))) := by
    unfold ordK
    congr 2
    rw [List.drop_eq_getElem_cons hdl]
    congr 1
    exact (List.getElem?_eq_some_iff.1 hd).2
  have e2 : ordK V (k + 1) = V.take 1 ++ (((V.drop 1).take k).map srt ++ (srt l :: (V.drop 1).drop (k + 1))) := by
    unfold ordK
    rw [List.take_add_one (l := V.drop 1) (i := k), hd]
    simp
  rw [e1, e2, List.set_append_right _ _ (by simp; omega), List.set_append_right _ _ (by simp; omega)]
  have e3 : k + 1 - (V.take 1).length - (((V.drop 1).take k).map srt).length = 0 := by simp; omega
  rw [e3, List.set_cons_zero]
def OrIs (w0 : World) (db mb lb n c : Nat) (V : Lv) (e : Ending) (w' : World) : Prop :=
  if ((V.drop 1).map srt).any ovl = true then e = .returned (.int .i64 eOrder) ∧ RowKit.Below w0.heap.size w0 w' else e = .returned (.int .i64 0) ∧ ∃ T ns, DAt w0 T w' db mb (some ⟨lb, 0, none⟩, n, c) (ordered V) ns
set_option maxHeartbeats 2000000 in
theorem order_any {w0 : World} {T : Nat → Nat} {w : World} {db mb lb n c : Nat} {V : Lv} {ns : List Nat} (h : DAt w0 T w db mb (some ⟨lb, 0, none⟩, n, c) V ns) (hh : ∀ l ∈ V, Hull l) (hf : Fits V) (h1 : 2 ≤ n) (hnc : n ≤ c) :
    Calls Try.prog 39 #[.pointer (some ⟨db, 0, none⟩)] w fun e w' => OrIs w0 db mb lb n c V e w' := by
  have HN : Hid (n = V.length) := h.len
  have hn5 : n ≤ 5 := by rw [HN.out]; exact hf.1
  have HH : Hid ((∀ l ∈ V, Hull l) ∧ Fits V) := ⟨hh, hf⟩
  have HD : Hid (DAt w0 T w db mb (some ⟨lb, 0, none⟩, n, c) V ns) := h
  have c0 := h.box.2.1 0 _ rfl
  simp only [svV] at c0
  have q1 : (1 : Int) ≤ (n : Int) := by omega
  have q2 : (n : Int) ≤ (c : Int) := by omega
  have q3 : c ≠ 1 := by omega
  clear h hh hf
  go_enter Try.func39, Try.ntmps39
  go_wp2
  go_loopw [11] (fun i wr => ∃ k : Nat, k ≤ n - 1 ∧ i = .int .i64 (k : Int) ∧ Hid ((∃ ns, DAt w0 T wr db mb (some ⟨lb, 0, none⟩, n, c) (ordK V k) ns) ∧ ∀ (j : Nat) l, j < k → V[j + 1]? = some l → ovl (srt l) = false)) (fun i _ => n - (intOf i).toNat)
  case atStart => exact ⟨0, Nat.zero_le _, rfl, ⟨ns, by rw [ordK_zero]; exact HD.out⟩, fun j l hj => by omega⟩
  case round =>
    clear HD c0
    obtain ⟨k, hk, rfl, HX⟩ := hrel
    rename World => wr
    by_cases hlt : k < n - 1
    · have q4 : (k : Int) < ((n - 1 : Nat) : Int) := by omega
      have q5 : (k : Int) < (n : Int) - 1 := by omega
      have hkV : k + 1 < V.length := by rw [← HN.out]; omega
      obtain ⟨l, hl⟩ : ∃ l, V[k + 1]? = some l := ⟨_, List.getElem?_eq_getElem hkV⟩
      obtain ⟨ns1, hd1⟩ := HX.out.1
      have hko : k + 1 < (ordK V k).length := by rw [ordK_len]; exact hkV
      obtain ⟨⟨sa, sn, sc⟩, hc, hfr, hown⟩ := hd1.cell hko (by rw [ordK_get hkV]; exact hl)
      have hsn := (OwnK.sk hown).1
      change sn = l.length at hsn
      subst hsn
      have hc2 := hc
      simp only [svV] at hc2 hown
      rw [Nat.add_comm] at hc2
      have HC : Hid (Calls Try.prog 49 #[.slice sa l.length sc, .func (.func 50) #[] #[]] wr fun e w' => SoIs (10 + (k + 1)) T wr (sa, l.length, sc) l e w') := sortFunc_any _ T wr sa sc l hown (HH.out.2.2 l (List.mem_of_getElem? hl))
      have HD1 : Hid (DAt w0 T wr db mb (some ⟨lb, 0, none⟩, n, c) (ordK V k) ns1 ∧ wr.cell? ⟨lb, k + 1, none⟩ = some (svV (sa, l.length, sc)) ∧ V[k + 1]? = some l ∧ Hull l ∧ l.length ≤ 3000000) := ⟨hd1, hc, hl, HH.out.1 l (List.mem_of_getElem? hl), HH.out.2.2 l (List.mem_of_getElem? hl)⟩
      clear hc hown hd1 hl
      go_upto_region 5 with (go_at_call 49; go_loud (refine HC.out.mono ?_; rintro e w2 ⟨rfl, d, hp, hs, ho, hg⟩; have HS : Hid (l.Perm d ∧ Srt d ∧ OwnK kTb (10 + (k + 1)) T w2 (svV (sa, l.length, sc)) d ∧ Goes (· = 10 + (k + 1)) T wr T w2) := ⟨hp, hs, ho, hg⟩; clear hp hs ho hg))
      have HOV : Hid (Calls Try.prog 52 #[.slice sa l.length sc] w2 fun e w' => e = .returned (.bool (ovl d)) ∧ RowKit.Below w2.heap.size w2 w') := by
        have hdl := HS.out.1.length_eq
        have := overlapping_any sa sc d w2 (by rw [← hdl]; exact Ls.own HS.out.2.2.1) (by rw [← hdl]; exact HD1.out.2.2.2.2)
        rw [← hdl] at this
        exact this
      have HD2 : Hid (DAt w0 T w2 db mb (some ⟨lb, 0, none⟩, n, c) ((ordK V k).set (k + 1) d) ns1) := HD1.out.1.turn HD1.out.2.1 HS.out.2.2.2 HS.out.2.2.1 hko
      have HE : Hid (ovl d = ovl (srt l)) := sort_ovl HD1.out.2.2.2.1 HS.out.1 HS.out.2.1
      clear HC hc2
      cases hov : ovl d with
      | true =>
        rw [hov] at HOV
        go_wp2_with (go_at_call 52; go_loud (refine HOV.out.mono ?_; rintro e w3 ⟨rfl, hb3⟩; have HB3 : Hid (RowKit.Below w2.heap.size w2 w3) := hb3; clear hb3))
        go_ret
        unfold OrIs
        rw [if_pos]
        · exact ⟨rfl, HD2.out.old.below.trans (HB3.out.mono HD2.out.old.below.size)⟩
        · rw [List.any_eq_true]
          refine ⟨srt l, List.mem_map_of_mem (List.mem_of_getElem? (i := k) (by rw [List.getElem?_drop, Nat.add_comm]; exact HD1.out.2.2.1)), ?_⟩
          rw [← HE.out]; exact hov
      | false =>
        rw [hov] at HOV
        go_wp2_with (go_at_call 52; go_loud (refine HOV.out.mono ?_; rintro e w3 ⟨rfl, hb3⟩; have HB3 : Hid (RowKit.Below w2.heap.size w2 w3) := hb3; clear hb3))
        go_roundw
        case rel =>
          refine ⟨k + 1, by omega, by go_num, ⟨ns1, ?_⟩, fun j l' hj hl' => ?_⟩
          · have h3 := HD2.out.below HB3.out
            rw [sort_is HD1.out.2.2.2.1 HS.out.1 HS.out.2.1 hov, ordK_set HD1.out.2.2.1] at h3
            exact h3
          · by_cases e : j = k
            · subst e
              rw [HD1.out.2.2.1] at hl'
              cases hl'
              rw [← HE.out]; exact hov
            · exact HX.out.2 j l' (by omega) hl'
        case measure => simp [intOf]; omega
    · have q4 : ¬ (k : Int) < ((n - 1 : Nat) : Int) := by omega
      have q5 : ¬ (k : Int) < (n : Int) - 1 := by omega
      have HK : Hid (V.length ≤ k + 1) := by show V.length ≤ k + 1; rw [← HN.out]; omega
      go_wp2
      go_ret
      unfold OrIs
      rw [if_neg]
      · obtain ⟨ns1, hd1⟩ := HX.out.1
        rw [ordK_all HK.out] at hd1
        exact ⟨rfl, T, ns1, hd1⟩
      · rw [List.any_eq_true]
        rintro ⟨x, hx, ho⟩
        obtain ⟨l, hl, rfl⟩ := List.mem_map.1 hx
        obtain ⟨j, hj, rfl⟩ := List.getElem_of_mem hl
        have hj' : j < V.length - 1 := by simpa using hj
        have h3 := HX.out.2 j ((V.drop 1)[j]) (by have := HK.out; omega) (by rw [show V[j + 1]? = (V.drop 1)[j]? by rw [List.getElem?_drop, Nat.add_comm]]; exact List.getElem?_eq_getElem hj)
        rw [h3] at ho
        cases ho
end Vr
end Go.Proofs.Ytecgecolghgjoaa
namespace Go.Proofs.Ytecgecolghgjoaa
namespace Vr
open Go.Shelf Go.RowKit Go.Lib Go.Sort Go.Maps Go.ChangeMaps Go.MapKept Laws Irw Crw
set_option linter.unusedVariables false
set_option linter.unusedSimpArgs false
set_option maxRecDepth 20000
theorem mem_nums {V : Lv} {l : List Tb} {t : Tb} (hl : l ∈ V) (ht : t ∈ l) : t.no ∈ nums V := List.mem_map_of_mem (List.mem_flatten.2 ⟨l, hl, ht⟩)
theorem fits_of {V : Lv} (h5 : V.length ≤ 5) (h : (nums V).length ≤ 3000000) : Fits V := ⟨h5, fun l hl => by
  obtain ⟨i, hi, rfl⟩ := List.getElem_of_mem hl
  exact Nat.le_trans (level_le (List.getElem?_eq_getElem hi)) h⟩
theorem bring_cnt : ∀ {V V' : Lv} {l : List Pi}, bring V l = .ok V' → (nums V').length = (nums V).length + l.length
  | V, V', [], h => by simp [bring] at h; rw [h]; rfl
  | V, V', p :: r, h => by
    rw [bring_cons] at h
    split at h
    · rename_i h1
      split at h
      · cases h
      · split at h
        · cases h
        · have := bring_cnt h
          rw [this, (nums_modify (by omega)).length_eq, List.length_append]
          simp
          omega
    · cases h
theorem ordered_cnt (V : Lv) : (nums (ordered V)).length = (nums V).length := ((flatten_ordered V).map Tb.no).length_eq
/-- what a draft has become -/
theorem DAt.ver {w0 : World} {T : Nat → Nat} {w : World} {db mb lb n c : Nat} {V : Lv} {ns : List Nat} (h : DAt w0 T w db mb (some ⟨lb, 0, none⟩, n, c) V ns) (hf : Fits V) (ty : TypeId) : VT (lowT w0.heap.size) (w.alloc (Obj.cells #[.slice (some ⟨lb, 0, none⟩) n c] ty)) w.heap.size V := by
  have hb1 : RowKit.Below w.heap.size w (w.alloc (Obj.cells #[.slice (some ⟨lb, 0, none⟩) n c] ty)) := (Below.refl _ _).alloc (Nat.le_refl _) _
  have hn := h.len
  have hlow : ∀ b, b < w.heap.size → T b ≠ 0 → lowT w0.heap.size b = 0 := fun b _ hT => lowT_of (by
    rcases Nat.lt_or_ge b w0.heap.size with hb | hb
    · exact absurd (h.old.zero b (.inl hb)) hT
    · exact hb)
  obtain ⟨vs, l1, l2, l3⟩ := h.lvl
  have key : ∀ {α : Type} {K : Knd α} {s : Sv} {x : List α} {t : Nat}, t ≠ 0 → OwnK K t T w (svV s) x → Isk K (lowT w0.heap.size) (w.alloc (Obj.cells #[.slice (some ⟨lb, 0, none⟩) n c] ty)) s x := by
    intro α K s x u hu ho
    obtain ⟨o1, o2, o3, o4, o5, o6⟩ := OwnK.sk ho
    refine ⟨o2.below hb1, o1, o4, o3, o5, fun b off e => ?_⟩
    obtain ⟨q1, q2⟩ := o6 b off e
    exact ⟨hlow b q2 (by rw [q1]; exact hu), Nat.lt_of_lt_of_le q2 hb1.size⟩
  refine ⟨hf, lowT_of h.old.below.size, ⟨#[.slice (some ⟨lb, 0, none⟩) n c], ty, by show (w.heap.push _)[w.heap.size]? = _; rw [Array.getElem?_push, if_pos rfl]⟩, (some ⟨lb, 0, none⟩, n, c), Zb.new w #[.slice (some ⟨lb, 0, none⟩) n c] ty, hn, vs, l2, key (by omega) l1, fun i v l hv hl => key (by omega) (l3 i v l hv hl)⟩
/-- what edited answers -/
def EdIs (w : World) (V : Lv) (l : List Pi) (e : Ending) (w' : World) : Prop := RowKit.Below w.heap.size w w' ∧
  match edit V l with
  | .error x => e = .returned (.tuple #[.pointer none, .int .i64 x]) ∧ x ≠ 0
  | .ok V' => ∃ nb, e = .returned (.tuple #[.pointer (some ⟨nb, 0, none⟩), .int .i64 0]) ∧ VT (lowT w.heap.size) w' nb V'
theorem edit_bring {V : Lv} {l : List Pi} {x : Int} (h : bring V l = .error x) : edit V l = .error x := by
  unfold edit; rw [h]
theorem edit_order {V V1 : Lv} {l : List Pi} (h : bring V l = .ok V1) (ho : ((V1.drop 1).map srt).any ovl = true) : edit V l = .error eOrder := by
  unfold edit; rw [h]; dsimp only; rw [if_pos ho]
theorem edit_ok {V V1 : Lv} {l : List Pi} (h : bring V l = .ok V1) (ho : ¬ ((V1.drop 1).map srt).any ovl = true) : edit V l = .ok (ordered V1) := by
  unfold edit; rw [h]; dsimp only; rw [if_neg ho]
theorem bring_ne0 : ∀ {V : Lv} {l : List Pi} {x : Int}, bring V l = .error x → x ≠ 0
  | V, [], x, h => by simp [bring] at h
  | V, p :: r, x, h => by
    rw [bring_cons] at h
    split at h
    · split at h
      · cases h; decide
      · split at h
        · cases h; decide
        · exact bring_ne0 h
    · cases h; decide
set_option maxHeartbeats 4000000 in
theorem edited_any (vb : Nat) (V : Lv) (w : World) (x y z : Int) (ia : Option Addr) (ic : Nat) (pa : Option Addr) (pl pc : Nat) (l : List Pi) (h : VAt w vb V) (hn : NumOk V) (hh : Half V) (h2 : 2 ≤ V.length) (hsm : (nums V).length + l.length ≤ 3000000) (hl : Ls kPi w (ia, l.length, ic) l) (hp : PiOk l) :
    Calls Try.prog 24 #[.pointer (some ⟨vb, 0, none⟩), .agg #[.int .u64 x, .int .u64 y, .int .u64 z, .slice none 0 0, .slice ia l.length ic, .slice pa pl pc]] w fun e w' => EdIs w V l e w' := by
  obtain ⟨W, hW⟩ : ∃ W, w.alloc (Obj.cells #[.int .u64 x, .int .u64 y, .int .u64 z, .slice none 0 0, .slice ia l.length ic, .slice pa pl pc] 38) = W := ⟨_, rfl⟩
  have HW : Hid (RowKit.Below w.heap.size w W ∧ Zb W w.heap.size [.int .u64 x, .int .u64 y, .int .u64 z, .slice none 0 0, .slice ia l.length ic, .slice pa pl pc]) := by
    rw [← hW]
    exact ⟨(Below.refl _ _).alloc (Nat.le_refl _) _, Zb.new _ _ _⟩
  have HV : Hid (VAt w vb V ∧ NumOk V ∧ Half V ∧ V.length ≤ 5 ∧ Ls kPi w (ia, l.length, ic) l ∧ PiOk l) := ⟨h, hn, hh, h.1.1, hl, hp⟩
  have hv5 := h.1.1
  have HC : Hid (Calls Try.prog 36 #[.pointer (some ⟨vb, 0, none⟩)] W fun e w' => DrIs W V e w') := draft_any vb V W (h.below HW.out.1) hn
  clear h hn hh hl hp
  go_enter Try.func24, Try.ntmps24
  go_upto_region 2 with (go_at_call 36; go_loud ((try rw [hW]); refine HC.out.mono ?_; rintro e w2 ⟨T, db, mb, lb, rfl, hd⟩; have HD : Hid (DAt W T w2 db mb (some ⟨lb, 0, none⟩, V.length, V.length) V (nums V)) := hd; clear hd))
  clear hW HC
  obtain ⟨bx, hbx⟩ : ∃ b, w.heap.size = b := ⟨_, rfl⟩
  rw [hbx]
  have HZ : Hid (Zb w2 bx [.int .u64 x, .int .u64 y, .int .u64 z, .slice none 0 0, .slice ia l.length ic, .slice pa pl pc]) := by rw [← hbx]; exact HW.out.2.below HD.out.old.below
  have z3 := HZ.out.2.1 3 _ rfl
  have HT : Hid (Calls Try.prog 37 #[.pointer (some ⟨db, 0, none⟩), .slice none 0 0] w2 fun e w' => e = .returned (.int .i64 0) ∧ DAt W T w' db mb (some ⟨lb, 0, none⟩, V.length, V.length) V (nums V)) := takeOut_nil HD.out HV.out.1.1 (fun l' hl' t ht => ⟨HV.out.2.1 l' hl' t ht, mem_nums hl' ht⟩)
  have HBX : Hid (bx < W.heap.size ∧ w.heap.size = bx) := ⟨by rw [← hbx]; exact HW.out.2.1, hbx⟩
  clear hbx
  go_upto_region 5 with (go_at_call 37; go_loud (refine HT.out.mono ?_; rintro e w3 ⟨rfl, hd⟩; have HD3 : Hid (DAt W T w3 db mb (some ⟨lb, 0, none⟩, V.length, V.length) V (nums V)) := hd; clear hd))
  clear HT HD z3 HZ
  have HZ : Hid (Zb w3 bx [.int .u64 x, .int .u64 y, .int .u64 z, .slice none 0 0, .slice ia l.length ic, .slice pa pl pc]) := by
    have h0 := HW.out.2
    rw [HBX.out.2] at h0
    exact h0.below HD3.out.old.below
  have z4 := HZ.out.2.1 4 _ rfl
  have HB : Hid (Calls Try.prog 38 #[.pointer (some ⟨db, 0, none⟩), .slice ia l.length ic] w3 fun e w' => BrIs W db mb lb V.length V.length V l e w') := bringIn_any ia ic l HD3.out (fun _ => Iff.rfl) rfl (HV.out.2.2.2.2.1.below HW.out.1) HV.out.2.2.2.2.2 hsm hv5
  cases hbr : bring V l with
  | error er =>
    have hne := bring_ne0 hbr
    have HB2 : Hid (Calls Try.prog 38 #[.pointer (some ⟨db, 0, none⟩), .slice ia l.length ic] w3 fun e w' => e = .returned (.int .i64 er) ∧ RowKit.Below W.heap.size W w') := HB.out.mono fun e w' hp => by
      unfold BrIs at hp; rw [hbr] at hp; exact hp
    have HE : Hid (edit V l = .error er) := edit_bring hbr
    clear HB hbr
    go_wp2_with (go_at_call 38; go_loud (refine HB2.out.mono ?_; rintro e w4 ⟨rfl, hb4⟩; have HB4 : Hid (RowKit.Below W.heap.size W w4) := hb4; clear hb4))
    go_ret2
    refine ⟨HW.out.1.trans (HB4.out.mono HW.out.1.size), ?_⟩
    rw [HE.out]
    exact ⟨rfl, hne⟩
  | ok V1 =>
    have hh1 := HV.out.2.2.1.bring hbr
    have hc1 := bring_cnt hbr
    have hl1 : V1.length = V.length := bring_len hbr
    have hf1 : Fits V1 := fits_of (by omega) (by omega)
    have HB2 : Hid (Calls Try.prog 38 #[.pointer (some ⟨db, 0, none⟩), .slice ia l.length ic] w3 fun e w' => e = .returned (.int .i64 0) ∧ ∃ T ns, DAt W T w' db mb (some ⟨lb, 0, none⟩, V.length, V.length) V1 ns) := HB.out.mono fun e w' hp => by
      unfold BrIs at hp; rw [hbr] at hp; exact hp
    have HF : Hid (Half V1 ∧ Fits V1 ∧ (nums V1).length ≤ 3000000 ∧ V1.length = V.length ∧ bring V l = .ok V1) := ⟨hh1, hf1, by omega, hl1, hbr⟩
    clear HB hbr hh1 hf1 hc1 hl1
    go_upto_region 8 with (go_at_call 38; go_loud (refine HB2.out.mono ?_; rintro e w4 ⟨rfl, T4, ns4, hd4⟩; have HD4 : Hid (DAt W T4 w4 db mb (some ⟨lb, 0, none⟩, V.length, V.length) V1 ns4) := hd4; clear hd4))
    have HO : Hid (Calls Try.prog 39 #[.pointer (some ⟨db, 0, none⟩)] w4 fun e w' => OrIs W db mb lb V.length V.length V1 e w') := order_any HD4.out HF.out.1.hull HF.out.2.1 h2 (Nat.le_refl _)
    clear HB2 z4 HZ HD3
    by_cases hov : ((V1.drop 1).map srt).any ovl = true
    · have HO2 : Hid (Calls Try.prog 39 #[.pointer (some ⟨db, 0, none⟩)] w4 fun e w' => e = .returned (.int .i64 132) ∧ RowKit.Below W.heap.size W w') := HO.out.mono fun e w' hp => by
        unfold OrIs at hp; rw [if_pos hov] at hp; exact hp
      have HE : Hid (edit V l = .error eOrder) := edit_order HF.out.2.2.2.2 hov
      clear HO hov
      go_wp2_with (go_at_call 39; go_loud (refine HO2.out.mono ?_; rintro e w5 ⟨rfl, hb5⟩; have HB5 : Hid (RowKit.Below W.heap.size W w5) := hb5; clear hb5))
      go_ret2
      refine ⟨HW.out.1.trans (HB5.out.mono HW.out.1.size), ?_⟩
      rw [HE.out]
      exact ⟨rfl, by decide⟩
    · have HO2 : Hid (Calls Try.prog 39 #[.pointer (some ⟨db, 0, none⟩)] w4 fun e w' => e = .returned (.int .i64 0) ∧ ∃ T ns, DAt W T w' db mb (some ⟨lb, 0, none⟩, V.length, V.length) (ordered V1) ns) := HO.out.mono fun e w' hp => by
        unfold OrIs at hp; rw [if_neg hov] at hp; exact hp
      have HE : Hid (edit V l = .ok (ordered V1)) := edit_ok HF.out.2.2.2.2 hov
      clear HO hov
      go_upto_region 11 with (go_at_call 39; go_loud (refine HO2.out.mono ?_; rintro e w5 ⟨rfl, T5, ns5, hd5⟩; have HD5 : Hid (DAt W T5 w5 db mb (some ⟨lb, 0, none⟩, V.length, V.length) (ordered V1) ns5) := hd5; clear hd5))
      have f0 := HD5.out.box.2.1 0 _ rfl
      simp only [svV] at f0
      go_wp2
      go_ret2
      have hv := HD5.out.ver (fits_of (by rw [ordered_len, HF.out.2.2.2.1]; exact hv5) (by rw [ordered_cnt]; exact HF.out.2.2.1)) 65
      refine ⟨(HW.out.1.trans (HD5.out.old.below.mono HW.out.1.size)).alloc (Nat.le_trans HW.out.1.size HD5.out.old.below.size) _, ?_⟩
      rw [HE.out]
      refine ⟨_, rfl, hv.re fun b hb h0 => lowT_of (Nat.le_trans HW.out.1.size (lowT_ge h0))⟩
end Vr
end Go.Proofs.Ytecgecolghgjoaa
