import Derived.Test.YtaejjpbpnedblaaGreatVp
namespace Go.Proofs.YtaejjpbpnedblaaGreat
namespace Vr
open Go.Shelf Go.RowKit Go.Lib Go.Sort Go.Maps Go.ChangeMaps Go.MapKept Laws Irw Crw
set_option linter.unusedVariables false
set_option linter.unusedSimpArgs false
set_option maxRecDepth 20000
theorem enters109 : ∀ args w, (callFunc 108 args).run Tryz.prog w = .ok (.enter 108 args) w := enters_of Tryz.func108 (by kernel_rfl) rfl
/-- sorted by least keys -/
def Srt (d : List Tb) : Prop := d.Pairwise fun a b => ltS b.le a.le = false
theorem srt_of {l : List Tb} {d' : Array Tb} (h1 : PermIn 0 l.length l.toArray d') (h2 : SortedIn (ltOf cfT) 0 l.length d') : d'.size = l.length ∧ l.Perm d'.toList ∧ Srt d'.toList := by
  obtain ⟨e1, _, e3⟩ := h1
  have hs : d'.size = l.length := by simpa using e1
  refine ⟨hs, ?_, List.pairwise_iff_getElem.2 fun i j hi hj hij => ?_⟩
  · have e4 : d'.extract 0 l.length = d' := by rw [← hs]; simp
    have e5 : l.toArray.extract 0 l.length = l.toArray := by simp
    rw [e4, e5] at e3
    exact e3.symm
  · have hi' : i < d'.size := by simpa using hi
    have hj' : j < d'.size := by simpa using hj
    have := h2 i j (Nat.zero_le _) hij (by rw [← hs]; exact hj')
    rw [ltT, getElem!_pos d' j hj', getElem!_pos d' i hi'] at this
    simpa using this
set_option maxHeartbeats 1000000 in
theorem pdq_nil (c : Nat) (x : Int) (u : Value) (w : World) : Calls Tryz.prog 124 #[.slice none 0 0, .int .i64 0, .int .i64 0, .int .i64 x, u] w fun e w' => e = .returned (.tuple #[]) ∧ w' = w := by
  have HI : Hid (Calls Tryz.prog 140 #[.slice none 0 0, .int .i64 0, .int .i64 0, u] w fun e w' => e = .returned (.tuple #[]) ∧ w' = w) := by
    go_enter Tryz.func140, Tryz.ntmps140
    go_wp2
    go_loopw [8] (fun i wr => i = .int .i64 1 ∧ wr = w) (fun _ _ => 0)
    case atStart => exact ⟨rfl, rfl⟩
    case round =>
      obtain ⟨rfl, rfl⟩ := hrel
      go_wp2
      go_end0
      exact ⟨rfl, rfl⟩
  go_enter Tryz.func124, Tryz.ntmps124
  go_wp2
  go_loopw [1, 2] (fun a b wr => a = .int .i64 0 ∧ b = .int .i64 0 ∧ wr = w) (fun _ _ _ => 0)
  case atStart => exact ⟨rfl, rfl, rfl⟩
  case round =>
    obtain ⟨rfl, rfl, rfl⟩ := hrel
    go_wp2_with (go_at_call 140; go_loud (refine HI.out.mono ?_; rintro e w1 ⟨rfl, hw⟩; have hw := hw.symm; subst hw))
    refine bodyPost_ret (results_none rfl _ _ _) rfl ?_
    exact ⟨rfl, rfl⟩
/-- what a sort of a level makes -/
def SoIs (t : Nat) (T : Nat → Nat) (w : World) (v : Sv) (l : List Tb) (e : Ending) (w' : World) : Prop := e = .returned (.tuple #[]) ∧ ∃ d, l.Perm d ∧ Srt d ∧ OwnK kTb t T w' (svV v) d ∧ Goes (· = t) T w T w'
set_option maxHeartbeats 1000000 in
theorem sortFunc_any (t : Nat) (T : Nat → Nat) (w : World) (a : Option Addr) (c : Nat) (l : List Tb) (h : OwnK kTb t T w (.slice a l.length c) l) (hl : l.length ≤ 1000000) :
    Calls Tryz.prog 107 #[.slice a l.length c, .func (.func 108) #[] #[]] w fun e w' => SoIs t T w (a, l.length, c) l e w' := by
  rcases h.1.2 with ⟨h1, h2⟩ | ⟨G, cap, cur, hv, hb, hh, hc, hmx, hs, ht⟩
  · have hl0 : l = [] := List.eq_nil_of_length_eq_zero h2
    subst hl0
    simp only [List.length_nil] at h1 h ⊢
    cases h1
    have HO : Hid (OwnK kTb t T w (.slice none 0 0) []) := h
    have hlen : Calls Tryz.prog 115 #[.int .u64 0] w fun e w' => (∃ x : Int, e = .returned (.int .i64 x)) ∧ w' = w := (Any.bits_Len Tryz.bitsLen 0 w (by omega) (by omega)).mono fun _ _ ⟨he, hw⟩ => ⟨⟨_, he⟩, hw⟩
    clear h
    go_enter Tryz.func107, Tryz.ntmps107
    go_wp2_with (first
      | (go_at_call 115; go_loud (refine hlen.mono ?_; rintro e w1 ⟨⟨x, rfl⟩, hw⟩; have hw := hw.symm; subst hw))
      | (go_at_call 124; go_loud (refine (pdq_nil 0 x _ w).mono ?_; rintro e w1 ⟨rfl, hw⟩; have hw := hw.symm; subst hw)))
    go_end0
    exact ⟨rfl, [], List.Perm.refl _, List.Pairwise.nil, HO.out, Goes.refl _ _ _⟩
  · cases hv
    have hlt : G < w.heap.size := (Array.getElem?_eq_some_iff.1 hh).1
    have hH : HoldsK tbC 6 w G 0 l.toArray := by
      intro j hj
      have hj6 : j < l.length * 6 := by simpa using hj
      have hi : j / 6 < l.length := by omega
      have hg := kTb.cells_get l (j / 6) _ (List.getElem?_eq_getElem hi) (j % 6) (Nat.mod_lt _ (by decide))
      rw [show j / 6 * kTb.size + j % 6 = j by show j / 6 * 6 + j % 6 = j; omega] at hg
      have hm : j % 6 < (tbC l[j / 6]).length := Nat.mod_lt _ (by decide)
      refine ⟨?_, h.1.frozenAt _⟩
      rw [Nat.zero_add, h.1.cellAt j hj6, hg, get_flatK _ _ _ _ (by simpa using hj6)]
      have e1 : l.toArray[j / 6]! = l[j / 6] := by rw [getElem!_pos l.toArray _ (by simpa using hi)]; simp
      rw [e1]
      show (tbC l[j / 6])[j % 6]? = some (id (tbC l[j / 6])[j % 6]!)
      rw [getElem!_pos (tbC l[j / 6]) (j % 6) hm, List.getElem?_eq_getElem hm]
      rfl
    have hcon := AnyQ.slices_SortFunc Tryz.sortT 6 Tryz.isAgg76 Tryz.sizeOf76 tbC (fun _ => rfl) (fun x v hv => kTb.one x v hv) cfT swoT 108 #[] G 0 c l.toArray w enters109 (cmpLaysT G 0 _ w) hH hlt (by simp; omega)
    change Calls Tryz.prog 107 _ _ _ at hcon
    have hs0 : l.toArray.size = l.length := by simp
    rw [hs0] at hcon
    refine hcon.mono ?_
    rintro e w' ⟨rfl, d', m, os, h1, h2, rfl⟩
    obtain ⟨k1, k2, k3⟩ := srt_of h1 h2
    obtain ⟨k4, k5⟩ := own_sorted (m := m) (os := os) h k1
    exact ⟨rfl, _, k2, k3, k4, k5⟩
end Vr
end Go.Proofs.YtaejjpbpnedblaaGreat
namespace Go.Proofs.YtaejjpbpnedblaaGreat
namespace Vr
open Go.Shelf Go.RowKit Go.Lib Go.Sort Go.Maps Go.ChangeMaps Go.MapKept Laws Irw Crw
set_option linter.unusedVariables false
set_option linter.unusedSimpArgs false
set_option maxRecDepth 20000
theorem ovl_false : ∀ {l : List Tb}, (∀ (i : Nat) a b, l[i]? = some a → l[i + 1]? = some b → ltS a.gr b.le = true) → ovl l = false
  | [], _ => rfl
  | [a], _ => rfl
  | a :: b :: r, h => by
    simp only [ovl, Bool.or_eq_false_iff, Bool.not_eq_false']
    exact ⟨h 0 a b rfl rfl, ovl_false fun i x y hx hy => h (i + 1) x y (by simpa using hx) (by simpa using hy)⟩
theorem ovl_true : ∀ {l : List Tb} {i : Nat} {a b : Tb}, l[i]? = some a → l[i + 1]? = some b → ltS a.gr b.le = false → ovl l = true
  | [], i, a, b, h, _, _ => by simp at h
  | [x], i, a, b, _, h, _ => by simp at h
  | x :: y :: r, 0, a, b, h1, h2, h3 => by
    simp at h1 h2
    subst h1; subst h2
    simp [ovl, h3]
  | x :: y :: r, i + 1, a, b, h1, h2, h3 => by
    have := ovl_true (l := y :: r) (i := i) (a := a) (b := b) (by simpa using h1) (by simpa using h2) h3
    simp only [ovl, this, Bool.or_true]
set_option maxHeartbeats 2000000 in
theorem overlapping_any (a : Option Addr) (c : Nat) (l : List Tb) (w : World) (h : Ls kTb w (a, l.length, c) l) (hlen : l.length ≤ 1000000) :
    Calls Tryz.prog 110 #[.slice a l.length c] w fun e w' => e = .returned (.bool (ovl l)) ∧ Below w.heap.size w w' := by
  have HL : Hid (Ls kTb w (a, l.length, c) l) := h
  have l1 := geqS
  clear h
  go_enter Tryz.func110, Tryz.ntmps110
  go_wp2
  go_loopw [3] (fun i wr => ∃ k : Nat, k ≤ l.length ∧ i = .int .i64 ((k : Int) + 1) ∧ Hid (Below w.heap.size w wr ∧ ∀ (j : Nat) x y, j < k → l[j]? = some x → l[j + 1]? = some y → ltS x.gr y.le = true)) (fun i _ => l.length + 1 - (intOf i).toNat)
  case atStart => exact ⟨0, Nat.zero_le _, rfl, Below.refl _ _, fun j x y hj => by omega⟩
  case round =>
    obtain ⟨k, hk, rfl, HX⟩ := hrel
    rename World => wr
    by_cases hlt : k + 1 < l.length
    · have q1 : (k : Int) + 1 < (l.length : Int) := by omega
      obtain ⟨b, off, rfl, hb, t, ht, x0, x1, x2, x3, x4, x5⟩ := (HL.out.below HX.out.1).tb (i := k) (by omega)
      obtain ⟨b', off', e', hb', u, hu, y0, y1, y2, y3, y4, y5⟩ := (HL.out.below HX.out.1).tb (i := k + 1) hlt
      cases e'
      have w1 : IntKind.i64.wrap ((k : Int) + 1 - 1) = (k : Int) := by rw [IntWalk.i64_in _ (by omega)]; omega
      have q2 : (0 : Int) ≤ (k : Int) + 1 - 1 := by omega
      have q3 : (k : Int) < (l.length : Int) := by omega
      have q4 : ((k : Int) + 1).toNat = k + 1 := by omega
      have q5 : (0 : Int) ≤ (k : Int) + 1 := by omega
      have HT : Hid (l[k]? = some t ∧ l[k + 1]? = some u) := ⟨ht, hu⟩
      clear ht hu
      go_wp2
      cases hq : ltS t.gr u.le with
      | true =>
        have hq2 : Op.bytesLess t.gr.toList u.le.toList = true := by rw [lt_ltS]; exact hq
        go_quiet (fail)
        go_wp2
        go_roundw
        case rel =>
          refine ⟨k + 1, by omega, by go_num, bl_dn HX.out.1 _, fun j x y hj hx hy => ?_⟩
          by_cases e : j = k
          · subst e
            rw [HT.out.1] at hx
            rw [HT.out.2] at hy
            cases hx; cases hy
            exact hq
          · exact HX.out.2 j x y (by omega) hx hy
        case measure => simp [intOf]; omega
      | false =>
        have hq2 : Op.bytesLess t.gr.toList u.le.toList = false := by rw [lt_ltS]; exact hq
        go_quiet (fail)
        go_wp2
        go_ret
        exact ⟨by rw [ovl_true HT.out.1 HT.out.2 hq]; rfl, bl_dn HX.out.1 _⟩
    · have q1 : ¬ (k : Int) + 1 < (l.length : Int) := by omega
      have HO : Hid (ovl l = false) := ovl_false fun i x y hx hy => HX.out.2 i x y (by have := (List.getElem?_eq_some_iff.1 hy).1; omega) hx hy
      go_wp2
      go_ret
      exact ⟨by rw [HO.out]; rfl, HX.out.1⟩
end Vr
end Go.Proofs.YtaejjpbpnedblaaGreat
namespace Go.Proofs.YtaejjpbpnedblaaGreat
namespace Vr
open Go.Shelf Go.RowKit Go.Lib Go.Sort Go.Maps Go.ChangeMaps Go.MapKept Laws Irw Crw
set_option linter.unusedVariables false
set_option linter.unusedSimpArgs false
set_option maxRecDepth 20000
theorem svV_inj {a b : Sv} (h : svV a = svV b) : a = b := by
  obtain ⟨a1, a2, a3⟩ := a
  obtain ⟨b1, b2, b3⟩ := b
  simp only [svV, Value.slice.injEq] at h
  obtain ⟨rfl, rfl, rfl⟩ := h
  rfl
/-- one level's list is sorted where it lies -/
theorem DAt.turn {w0 : World} {T : Nat → Nat} {w w2 : World} {db mb lb n c k : Nat} {V : Lv} {ns : List Nat} {s : Sv} {d : List Tb} (h : DAt w0 T w db mb (some ⟨lb, 0, none⟩, n, c) V ns) (hc : w.cell? ⟨lb, k, none⟩ = some (svV s)) (hg : Goes (· = 10 + k) T w T w2) (ho : OwnK kTb (10 + k) T w2 (svV s) d) (hk : k < V.length) :
    DAt w0 T w2 db mb (some ⟨lb, 0, none⟩, n, c) (V.set k d) ns := by
  obtain ⟨vs, l1, l2, l3⟩ := h.lvl
  have hkv : k < vs.length := by omega
  have hv : vs[k]? = some vs[k] := List.getElem?_eq_getElem hkv
  have hs : vs[k] = s := by
    obtain ⟨b, off, e1, _, hc'⟩ := (Ls.own (s := (some ⟨lb, 0, none⟩, n, c)) l1).cell hv
    cases e1
    have := hc' 0 _ rfl
    rw [Nat.zero_add, show k * kS.size + 0 = k by show k * 1 + 0 = k; omega, hc] at this
    exact (svV_inj (Option.some.inj this)).symm
  refine ⟨h.old.goes hg (by omega), h.td, h.box.goes hg (by rw [h.td]; omega), ⟨vs, l1.goes hg (by omega), by simp [l2], fun i v l' hv' hl => ?_⟩, h.map.goes hg (by omega)⟩
  by_cases hik : k = i
  · subst hik
    rw [hv, hs] at hv'
    rw [List.getElem?_set_self hk] at hl
    cases hv'; cases hl
    exact ho
  · rw [List.getElem?_set_ne hik] at hl
    exact (l3 i v l' hv' hl).goes hg (by omega)
/-- levels while they are sorted -/
def ordK (V : Lv) (k : Nat) : Lv := V.take 1 ++ (((V.drop 1).take k).map srt ++ (V.drop 1).drop k)
theorem ordK_len (V : Lv) (k : Nat) : (ordK V k).length = V.length := by
  simp [ordK]; omega
theorem ordK_zero (V : Lv) : ordK V 0 = V := by
  unfold ordK
  rw [List.take_zero, List.map_nil, List.nil_append, List.drop_zero, List.take_append_drop]
theorem ordK_all {V : Lv} {k : Nat} (h : V.length ≤ k + 1) : ordK V k = ordered V := by
  unfold ordK ordered
  rw [List.take_of_length_le (show (V.drop 1).length ≤ k by simp; omega), List.drop_of_length_le (show (V.drop 1).length ≤ k by simp; omega), List.append_nil]
theorem ordK_get {V : Lv} {k : Nat} (h : k + 1 < V.length) : (ordK V k)[k + 1]? = V[k + 1]? := by
  unfold ordK
  rw [List.getElem?_append_right (by simp; omega), List.getElem?_append_right (by simp; omega)]
  simp
  congr 1
  omega
theorem ordK_set {V : Lv} {k : Nat} {l : List Tb} (h : V[k + 1]? = some l) : (ordK V k).set (k + 1) (srt l) = ordK V (k + 1) := by
  have hk := (List.getElem?_eq_some_iff.1 h).1
  apply List.ext_getElem?
  intro j
  have hd : (V.drop 1)[k]? = some l := by rw [List.getElem?_drop, Nat.add_comm]; exact h
  have hdl : k < (V.drop 1).length := (List.getElem?_eq_some_iff.1 hd).1
  have e1 : ordK V k = V.take 1 ++ (((V.drop 1).take k).map srt ++ (l :: (V.drop 1).drop (k + 1))) := by
    unfold ordK
    congr 2
    rw [List.drop_eq_getElem_cons hdl]
    congr 1
    exact (List.getElem?_eq_some_iff.1 hd).2
  have e2 : ordK V (k + 1) = V.take 1 ++ (((V.drop 1).take k).map srt ++ (srt l :: (V.drop 1).drop (k + 1))) := by
    unfold ordK
    rw [List.take_add_one (l := V.drop 1) (i := k), hd]
    simp
  rw [e1, e2, List.set_append_right _ _ (by simp; omega), List.set_append_right _ _ (by simp; omega)]
  have e3 : k + 1 - (V.take 1).length - (((V.drop 1).take k).map srt).length = 0 := by simp; omega
  rw [e3, List.set_cons_zero]
def OrIs (w0 : World) (db mb lb n c : Nat) (V : Lv) (e : Ending) (w' : World) : Prop :=
  if ((V.drop 1).map srt).any ovl = true then e = .returned (.int .i64 eOrder) ∧ RowKit.Below w0.heap.size w0 w' else e = .returned (.int .i64 0) ∧ ∃ T ns, DAt w0 T w' db mb (some ⟨lb, 0, none⟩, n, c) (ordered V) ns
set_option maxHeartbeats 2000000 in
theorem order_any {w0 : World} {T : Nat → Nat} {w : World} {db mb lb n c : Nat} {V : Lv} {ns : List Nat} (h : DAt w0 T w db mb (some ⟨lb, 0, none⟩, n, c) V ns) (hh : ∀ l ∈ V, Hull l) (hf : Fits V) (h1 : 2 ≤ n) (hnc : n ≤ c) :
    Calls Tryz.prog 92 #[.pointer (some ⟨db, 0, none⟩)] w fun e w' => OrIs w0 db mb lb n c V e w' := by
  have HN : Hid (n = V.length) := h.len
  have hn5 : n ≤ 5 := by rw [HN.out]; exact hf.1
  have HH : Hid ((∀ l ∈ V, Hull l) ∧ Fits V) := ⟨hh, hf⟩
  have HD : Hid (DAt w0 T w db mb (some ⟨lb, 0, none⟩, n, c) V ns) := h
  have c0 := h.box.2.1 0 _ rfl
  simp only [svV] at c0
  have q1 : (1 : Int) ≤ (n : Int) := by omega
  have q2 : (n : Int) ≤ (c : Int) := by omega
  have q3 : c ≠ 1 := by omega
  clear h hh hf
  go_enter Tryz.func92, Tryz.ntmps92
  go_wp2
  go_loopw [11] (fun i wr => ∃ k : Nat, k ≤ n - 1 ∧ i = .int .i64 (k : Int) ∧ Hid ((∃ ns, DAt w0 T wr db mb (some ⟨lb, 0, none⟩, n, c) (ordK V k) ns) ∧ ∀ (j : Nat) l, j < k → V[j + 1]? = some l → ovl (srt l) = false)) (fun i _ => n - (intOf i).toNat)
  case atStart => exact ⟨0, Nat.zero_le _, rfl, ⟨ns, by rw [ordK_zero]; exact HD.out⟩, fun j l hj => by omega⟩
  case round =>
    clear HD c0
    obtain ⟨k, hk, rfl, HX⟩ := hrel
    rename World => wr
    by_cases hlt : k < n - 1
    · have q4 : (k : Int) < ((n - 1 : Nat) : Int) := by omega
      have q5 : (k : Int) < (n : Int) - 1 := by omega
      have hkV : k + 1 < V.length := by rw [← HN.out]; omega
      obtain ⟨l, hl⟩ : ∃ l, V[k + 1]? = some l := ⟨_, List.getElem?_eq_getElem hkV⟩
      obtain ⟨ns1, hd1⟩ := HX.out.1
      have hko : k + 1 < (ordK V k).length := by rw [ordK_len]; exact hkV
      obtain ⟨⟨sa, sn, sc⟩, hc, hfr, hown⟩ := hd1.cell hko (by rw [ordK_get hkV]; exact hl)
      have hsn := (OwnK.sk hown).1
      change sn = l.length at hsn
      subst hsn
      have hc2 := hc
      simp only [svV] at hc2 hown
      rw [Nat.add_comm] at hc2
      have HC : Hid (Calls Tryz.prog 107 #[.slice sa l.length sc, .func (.func 108) #[] #[]] wr fun e w' => SoIs (10 + (k + 1)) T wr (sa, l.length, sc) l e w') := sortFunc_any _ T wr sa sc l hown (HH.out.2.2 l (List.mem_of_getElem? hl))
      have HD1 : Hid (DAt w0 T wr db mb (some ⟨lb, 0, none⟩, n, c) (ordK V k) ns1 ∧ wr.cell? ⟨lb, k + 1, none⟩ = some (svV (sa, l.length, sc)) ∧ V[k + 1]? = some l ∧ Hull l ∧ l.length ≤ 1000000) := ⟨hd1, hc, hl, HH.out.1 l (List.mem_of_getElem? hl), HH.out.2.2 l (List.mem_of_getElem? hl)⟩
      clear hc hown hd1 hl
      go_upto_region 5 with (go_at_call 107; go_loud (refine HC.out.mono ?_; rintro e w2 ⟨rfl, d, hp, hs, ho, hg⟩; have HS : Hid (l.Perm d ∧ Srt d ∧ OwnK kTb (10 + (k + 1)) T w2 (svV (sa, l.length, sc)) d ∧ Goes (· = 10 + (k + 1)) T wr T w2) := ⟨hp, hs, ho, hg⟩; clear hp hs ho hg))
      have HOV : Hid (Calls Tryz.prog 110 #[.slice sa l.length sc] w2 fun e w' => e = .returned (.bool (ovl d)) ∧ RowKit.Below w2.heap.size w2 w') := by
        have hdl := HS.out.1.length_eq
        have := overlapping_any sa sc d w2 (by rw [← hdl]; exact Ls.own HS.out.2.2.1) (by rw [← hdl]; exact HD1.out.2.2.2.2)
        rw [← hdl] at this
        exact this
      have HD2 : Hid (DAt w0 T w2 db mb (some ⟨lb, 0, none⟩, n, c) ((ordK V k).set (k + 1) d) ns1) := HD1.out.1.turn HD1.out.2.1 HS.out.2.2.2 HS.out.2.2.1 hko
      have HE : Hid (ovl d = ovl (srt l)) := sort_ovl HD1.out.2.2.2.1 HS.out.1 HS.out.2.1
      clear HC hc2
      cases hov : ovl d with
      | true =>
        rw [hov] at HOV
        go_wp2_with (go_at_call 110; go_loud (refine HOV.out.mono ?_; rintro e w3 ⟨rfl, hb3⟩; have HB3 : Hid (RowKit.Below w2.heap.size w2 w3) := hb3; clear hb3))
        go_ret
        unfold OrIs
        rw [if_pos]
        · exact ⟨rfl, HD2.out.old.below.trans (HB3.out.mono HD2.out.old.below.size)⟩
        · rw [List.any_eq_true]
          refine ⟨srt l, List.mem_map_of_mem (List.mem_of_getElem? (i := k) (by rw [List.getElem?_drop, Nat.add_comm]; exact HD1.out.2.2.1)), ?_⟩
          rw [← HE.out]; exact hov
      | false =>
        rw [hov] at HOV
        go_wp2_with (go_at_call 110; go_loud (refine HOV.out.mono ?_; rintro e w3 ⟨rfl, hb3⟩; have HB3 : Hid (RowKit.Below w2.heap.size w2 w3) := hb3; clear hb3))
        go_roundw
        case rel =>
          refine ⟨k + 1, by omega, by go_num, ⟨ns1, ?_⟩, fun j l' hj hl' => ?_⟩
          · have h3 := HD2.out.below HB3.out
            rw [sort_is HD1.out.2.2.2.1 HS.out.1 HS.out.2.1 hov, ordK_set HD1.out.2.2.1] at h3
            exact h3
          · by_cases e : j = k
            · subst e
              rw [HD1.out.2.2.1] at hl'
              cases hl'
              rw [← HE.out]; exact hov
            · exact HX.out.2 j l' (by omega) hl'
        case measure => simp [intOf]; omega
    · have q4 : ¬ (k : Int) < ((n - 1 : Nat) : Int) := by omega
      have q5 : ¬ (k : Int) < (n : Int) - 1 := by omega
      have HK : Hid (V.length ≤ k + 1) := by show V.length ≤ k + 1; rw [← HN.out]; omega
      go_wp2
      go_ret
      unfold OrIs
      rw [if_neg]
      · obtain ⟨ns1, hd1⟩ := HX.out.1
        rw [ordK_all HK.out] at hd1
        exact ⟨rfl, T, ns1, hd1⟩
      · rw [List.any_eq_true]
        rintro ⟨x, hx, ho⟩
        obtain ⟨l, hl, rfl⟩ := List.mem_map.1 hx
        obtain ⟨j, hj, rfl⟩ := List.getElem_of_mem hl
        have hj' : j < V.length - 1 := by simpa using hj
        have h3 := HX.out.2 j ((V.drop 1)[j]) (by have := HK.out; omega) (by rw [show V[j + 1]? = (V.drop 1)[j]? by rw [List.getElem?_drop, Nat.add_comm]]; exact List.getElem?_eq_getElem hj)
        rw [h3] at ho
        cases ho
end Vr
end Go.Proofs.YtaejjpbpnedblaaGreat
