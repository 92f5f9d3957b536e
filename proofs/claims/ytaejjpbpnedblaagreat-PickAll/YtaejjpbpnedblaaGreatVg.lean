import Derived.Test.YtaejjpbpnedblaaGreatVc
import Derived.Maps.OwnSet
import Derived.Maps.OwnOps
import Derived.Lib.MinMax
import Derived.Deep.OwnRows
import Derived.RegionTactic
import Derived.ChangeAlike
import Derived.BigRegion
namespace Go.Proofs.YtaejjpbpnedblaaGreat
namespace Vr
open Go.RowKit Laws Irw Crw
set_option linter.unusedVariables false
set_option linter.unusedSimpArgs false
set_option maxRecDepth 20000
theorem lev_out {V : Lv} {i : Int} (h : ¬ (0 ≤ i ∧ i < V.length)) : lev V i = [] := by
  unfold lev
  split
  · rename_i h0
    rw [List.getElem?_eq_none (by omega)]
    rfl
  · rfl
theorem lev_in {V : Lv} {i : Nat} {l : List Tb} (h : V[i]? = some l) : lev V (i : Int) = l := by
  unfold lev
  rw [if_pos (by omega), Int.toNat_natCast, h]
  rfl
theorem Fits.len {V : Lv} (h : Fits V) (i : Int) : (lev V i).length ≤ 1000000 := by
  unfold lev
  split
  · cases e : V[i.toNat]? with
    | none => simp
    | some l => exact h.2 l (List.mem_of_getElem? e)
  · simp
set_option maxHeartbeats 400000 in
theorem level_any (vb : Nat) (V : Lv) (i : Int) (w : World) (h : VAt w vb V) : Calls Tryz.prog 58 #[.pointer (some ⟨vb, 0, none⟩), .int .i64 i] w fun e w' => ∃ s : Sv, e = .returned (svV s) ∧ Ls kTb w s (lev V i) ∧ w' = w := by
  obtain ⟨hf, s, hz, hl⟩ := h
  have c0 := hz.2.1 0 _ rfl
  obtain ⟨sa, sn, sc⟩ := s
  have e := hl.1
  change sn = V.length at e
  subst e
  simp only [svV] at c0
  by_cases hin : 0 ≤ i ∧ i < V.length
  · obtain ⟨h1, vs, h2, h3, h4⟩ := hl
    obtain ⟨k, rfl⟩ : ∃ k : Nat, i = k := ⟨i.toNat, by omega⟩
    have hk : k < V.length := by omega
    obtain ⟨b, off, e, hr⟩ := h3.at_ (by omega)
    change sa = _ at e
    subst e
    have hv : vs[k]? = some (vs[k]'(by omega)) := List.getElem?_eq_getElem (by omega)
    have hc := hr.2 k _ hv 0 _ rfl
    have hL := h4 k _ _ hv (List.getElem?_eq_getElem hk)
    obtain ⟨⟨ka, kn, kc⟩, hx⟩ : ∃ x, vs[k]'(by omega) = x := ⟨_, rfl⟩
    rw [hx] at hc hL
    have he : off + k * kS.size + 0 = off + k := by show off + k * 1 + 0 = _; omega
    rw [he] at hc
    simp only at hc
    have hd : decide (0 ≤ (k : Int) ∧ (k : Int) < (V.length : Int)) = true := by simp; omega
    have HL : Hid (Ls kTb w (ka, kn, kc) (lev V (k : Int))) := by
      rw [lev_in (List.getElem?_eq_getElem hk)]; exact hL
    have q : (k : Int) < (V.length : Int) := by omega
    clear hv hL hx h4 h3 hr h2 h1 hz hf hin
    go_enter Tryz.func58, Tryz.ntmps58
    go_wp2_with (go_at_call 84; go_loud (refine (isLevel_any _ _ _ _ _).mono ?_; rintro e w' ⟨rfl, rfl⟩; rw [hd]))
    go_ret
    exact ⟨(ka, kn, kc), rfl, HL.out, rfl⟩
  · have hd : decide (0 ≤ i ∧ i < (V.length : Int)) = false := by simpa using hin
    have HL : Hid (lev V i = []) := lev_out hin
    clear hin hl hz hf
    go_enter Tryz.func58, Tryz.ntmps58
    go_wp2_with (go_at_call 84; go_loud (refine (isLevel_any _ _ _ _ _).mono ?_; rintro e w' ⟨rfl, rfl⟩; rw [hd]))
    go_ret
    exact ⟨nS, rfl, by rw [HL.out]; exact Ls.nil _, rfl⟩
/-- a list that was made anew -/
def NewL (w : World) (s : Sv) (l : List Tb) (w' : World) : Prop := ∃ G, s = (some ⟨G, 0, none⟩, l.length, l.length) ∧ w.heap.size ≤ G ∧ w'.ownsRow 0 76 6 (.slice (some ⟨G, 0, none⟩) l.length l.length) l.length (kTb.cells l)
/-- a new list is answered -/
def NewIs (w : World) (l : List Tb) (e : Ending) (w' : World) : Prop := ∃ s : Sv, e = .returned (svV s) ∧ NewL w s l w' ∧ Below w.heap.size w w'
set_option maxHeartbeats 400000 in
theorem tables_any (vb : Nat) (V : Lv) (i : Int) (w : World) (h : VAt w vb V) : Calls Tryz.prog 16 #[.pointer (some ⟨vb, 0, none⟩), .int .i64 i] w fun e w' => NewIs w (lev V i) e w' := by
  obtain ⟨iz, hi, hz0, hz1, hz2⟩ := info_parts infoTb
  have hlen := h.1.len i
  have HV := level_any vb V i w h
  obtain ⟨l, hl⟩ : ∃ l, lev V i = l := ⟨_, rfl⟩
  rw [hl] at HV hlen ⊢
  have HC : Hid (Calls Tryz.prog 58 #[.pointer (some ⟨vb, 0, none⟩), .int .i64 i] w fun e w' => ∃ s : Sv, e = .returned (svV s) ∧ Ls kTb w s l ∧ w' = w) := HV
  clear HV h hl
  go_enter Tryz.func16, Tryz.ntmps16
  go_wp2_with (first
    | (go_at_call 58; go_loud (refine HC.out.mono ?_; rintro e w1 ⟨⟨sa, sn, sc⟩, rfl, hs, hw⟩; have hw := hw.symm; subst hw; have HL : Hid (Ls kTb w (sa, sn, sc) l) := hs; have hsn := hs.2.1; change sn = l.length at hsn; subst hsn; clear hs; simp only [svV]))
    | (at_make; go_loud (refine wpList_make_full _ (by rfl) (.tmp 11) (.tmp 11) 58 (by rfl) 0 76 iz _ 6 Tryz.underlying58 hi hz0 hz1 .i64 .i64 _ _ l.length (by rfl) (by rfl) rfl rfl (by rw [hz2]; omega) (by unfold maxLen; omega) (Nat.zero_le _) ?_; intro w2 hown2 hgr2; have HM : Hid ((∃ cells, w2.ownsRow 0 76 6 (.slice (some ⟨w.heap.size, 0, none⟩) l.length l.length) l.length cells) ∧ Below w.heap.size w w2) := ⟨⟨_, hown2⟩, (Below.grown (Below.refl _ _) hgr2 (Nat.le_refl _) (by simp))⟩; clear hown2 hgr2))
    | ((obtain ⟨cells, hcs⟩ := HM.out.1; refine wpList_copyK kTb _ (by rfl) (.tmp 13) (.tmp 14) 58 58 (by rfl) Tryz.underlying58 (info_size infoTb) w.heap.size l.length sc sa l cells (by rfl) (by rfl) hcs (HL.out.1.below HM.out.2) rfl ?_; intro w3 hw3 hb3; have HN : Hid (w3.ownsRow 0 76 6 (.slice (some ⟨w.heap.size, 0, none⟩) l.length l.length) l.length (kTb.cells l) ∧ Below w.heap.size w w3) := ⟨hw3, hb3 _ _ HM.out.2 (Nat.le_refl _)⟩; clear hw3 hb3 hcs)))
  go_ret
  exact ⟨_, rfl, ⟨w.heap.size, rfl, Nat.le_refl _, HN.out.1⟩, HN.out.2⟩
end Vr
end Go.Proofs.YtaejjpbpnedblaaGreat
namespace Go.Proofs.YtaejjpbpnedblaaGreat
namespace Vr
open Go.RowKit Laws Irw Crw
set_option linter.unusedVariables false
set_option linter.unusedSimpArgs false
set_option maxRecDepth 20000
/-- the cells of a table -/
theorem Ls.tb {w : World} {a : Option Addr} {n c : Nat} {l : List Tb} (h : Ls kTb w (a, n, c) l) {i : Nat} (hi : i < l.length) : ∃ b off, a = some ⟨b, off, none⟩ ∧ b < w.heap.size ∧ ∃ t, l[i]? = some t ∧ w.cell? ⟨b, off + i * 6, none⟩ = some (.int .u64 (t.no : Int)) ∧ w.cell? ⟨b, off + i * 6 + 1, none⟩ = some (.int .i64 t.we) ∧ w.cell? ⟨b, off + i * 6 + 2, none⟩ = some (.int .i64 t.by_) ∧ w.cell? ⟨b, off + i * 6 + 3, none⟩ = some (.int .i64 t.en) ∧ w.cell? ⟨b, off + i * 6 + 4, none⟩ = some (.string t.le) ∧ w.cell? ⟨b, off + i * 6 + 5, none⟩ = some (.string t.gr) := by
  obtain ⟨b, off, e, hb, hc⟩ := h.cell (List.getElem?_eq_getElem hi)
  exact ⟨b, off, e, hb, _, List.getElem?_eq_getElem hi, hc 0 _ rfl, hc 1 _ rfl, hc 2 _ rfl, hc 3 _ rfl, hc 4 _ rfl, hc 5 _ rfl⟩
def sumW (l : List Tb) : Int := (l.map Tb.we).sum
/-- weights from 0 to 2^31 -/
def WeOk (l : List Tb) : Prop := ∀ t ∈ l, 0 ≤ t.we ∧ t.we ≤ 2147483648
theorem sumW_bound : ∀ {l : List Tb}, WeOk l → 0 ≤ sumW l ∧ sumW l ≤ 2147483648 * l.length
  | [], _ => by simp [sumW]
  | t :: r, h => by
    have h1 := h t (by simp)
    have h2 := sumW_bound (l := r) fun x hx => h x (by simp [hx])
    unfold sumW at *
    simp only [List.map_cons, List.sum_cons, List.length_cons]
    omega
theorem sumW_take {l : List Tb} {k : Nat} {t : Tb} (h : l[k]? = some t) : sumW (l.take (k + 1)) = sumW (l.take k) + t.we := by
  unfold sumW
  rw [List.take_add_one, h]
  simp
set_option maxHeartbeats 1000000 in
theorem weight_any (vb : Nat) (V : Lv) (i : Int) (w : World) (h : VAt w vb V) (hw : WeOk (lev V i)) : Calls Tryz.prog 82 #[.pointer (some ⟨vb, 0, none⟩), .int .i64 i] w fun e w' => e = .returned (.int .i64 (sumW (lev V i))) ∧ Below w.heap.size w w' := by
  have hlen := h.1.len i
  have HV := level_any vb V i w h
  obtain ⟨l, hl⟩ : ∃ l, lev V i = l := ⟨_, rfl⟩
  rw [hl] at HV hlen hw ⊢
  have HC : Hid (Calls Tryz.prog 58 #[.pointer (some ⟨vb, 0, none⟩), .int .i64 i] w fun e w' => ∃ s : Sv, e = .returned (svV s) ∧ Ls kTb w s l ∧ w' = w) := HV
  have HW : Hid (WeOk l) := hw
  clear HV h hl hw
  go_enter Tryz.func82, Tryz.ntmps82
  go_wp2_with (first
    | (go_at_call 58; go_loud (refine HC.out.mono ?_; rintro e w1 ⟨⟨sa, sn, sc⟩, rfl, hs, hw⟩; have hw := hw.symm; subst hw; have HL : Hid (Ls kTb w (sa, sn, sc) l) := hs; have hsn := hs.2.1; change sn = l.length at hsn; subst hsn; clear hs; simp only [svV])))
  clear HC
  go_loopw [5, 12] (fun b i wr => ∃ k : Nat, k ≤ l.length ∧ b = .int .i64 (sumW (l.take k)) ∧ i = .int .i64 (k : Int) ∧ Hid (Below w.heap.size w wr)) (fun _ i _ => l.length - (intOf i).toNat)
  case atStart => exact ⟨0, by omega, rfl, rfl, Below.refl _ _⟩
  case round =>
    obtain ⟨k, hk, rfl, rfl, HB⟩ := hrel
    rename World => wr
    by_cases hlt : k < l.length
    · obtain ⟨b, off, rfl, hb, t, ht, c0, c1, c2, c3, c4, c5⟩ := (HL.out.below HB.out).tb hlt
      have q1 : (k : Int) < (l.length : Int) := by omega
      have e1 := sumW_take ht
      have b1 := sumW_bound (l := l.take k) fun x hx => HW.out x (List.mem_of_mem_take hx)
      have b2 := HW.out t (List.mem_of_getElem? ht)
      have b3 : (l.take k).length ≤ 1000000 := by simp; omega
      have wr1 : IntKind.i64.wrap (sumW (l.take k) + t.we) = sumW (l.take k) + t.we := IntWalk.i64_in _ (by omega)
      go_wp2
      go_roundw
      case rel =>
        exact ⟨k + 1, by omega, by rw [e1], by go_num, HB.out.alloc HB.out.size _⟩
      case measure => simp [intOf]; omega
    · have q1 : ¬ (k : Int) < (l.length : Int) := by omega
      have HK : Hid (k = l.length) := show k = l.length by omega
      go_wp2
      go_ret
      exact ⟨by simp [HK.out], HB.out⟩
theorem eq_ltS (x y : ByteArray) : (x.toList == y.toList) = (!ltS x y && !ltS y x) := by
  rw [ByteArray.toList_eq, ByteArray.toList_eq]
  by_cases h : x.data.toList = y.data.toList
  · have := ba_ext h
    subst this
    simp [ltS_irrefl]
  · have e : (x.data.toList == y.data.toList) = false := by simpa using h
    rw [e]
    cases h1 : ltS x y with
    | true => rfl
    | false =>
      cases h2 : ltS y x with
      | true => rfl
      | false => exact absurd (congrArg (fun b => b.data.toList) (ltS_tri h1 h2)) h
theorem lt_ltS (x y : ByteArray) : Op.bytesLess x.toList y.toList = ltS x y := by rw [ByteArray.toList_eq, ByteArray.toList_eq]; rfl
theorem geqS (x y : ByteArray) (W : World) : Sem.run Tryz.prog (binOp BinOp.geq 9 (.string x) (.string y)) W = .ok (.bool (!ltS x y)) W := by
  simp [binOp, run_underlying Tryz.underlying9, Op.stringOp, lt_ltS]
theorem leqS (x y : ByteArray) (W : World) : Sem.run Tryz.prog (binOp BinOp.leq 9 (.string x) (.string y)) W = .ok (.bool (!ltS y x)) W := by
  have e : (ltS x y || (!ltS x y && !ltS y x)) = !ltS y x := by
    cases h1 : ltS x y with
    | true => rw [ltS_asymm h1]; rfl
    | false => rfl
  simp [binOp, run_underlying Tryz.underlying9, Op.stringOp, lt_ltS, eq_ltS, e]
theorem lssS (x y : ByteArray) (W : World) : Sem.run Tryz.prog (binOp BinOp.lss 9 (.string x) (.string y)) W = .ok (.bool (ltS x y)) W := by
  simp [binOp, run_underlying Tryz.underlying9, Op.stringOp, lt_ltS]
theorem gtrS (x y : ByteArray) (W : World) : Sem.run Tryz.prog (binOp BinOp.gtr 9 (.string x) (.string y)) W = .ok (.bool (ltS y x)) W := by
  simp [binOp, run_underlying Tryz.underlying9, Op.stringOp, lt_ltS, eq_ltS]
  cases h1 : ltS x y with
  | true => rw [ltS_asymm h1]; rfl
  | false => simp
/-- does a table overlap a hull? -/
def over (f t : ByteArray) (x : Tb) : Bool := !ltS x.gr f && !ltS t x.le
set_option maxHeartbeats 400000 in
theorem overlap1_any (fb tb : Nat) (f t : ByteArray) (x : Tb) (w : World) (h1 : w.cell? ⟨fb, 0, none⟩ = some (.string f)) (h2 : w.cell? ⟨tb, 0, none⟩ = some (.string t)) (k1 : fb < w.heap.size) (k2 : tb < w.heap.size) :
    Calls Tryz.prog 105 #[tbV x, .pointer (some ⟨fb, 0, none⟩), .pointer (some ⟨tb, 0, none⟩)] w fun e w' => e = .returned (.bool (over f t x)) ∧ Below w.heap.size w w' := by
  have g1 : (w.alloc (.cells #[.int .u64 (x.no : Int), .int .i64 x.we, .int .i64 x.by_, .int .i64 x.en, .string x.le, .string x.gr] 76)).cell? ⟨fb, 0, none⟩ = some (.string f) := by
    exact (((Below.refl w.heap.size w).alloc (Nat.le_refl _) _).cell (p := ⟨fb, 0, none⟩) k1).trans h1
  have g2 : (w.alloc (.cells #[.int .u64 (x.no : Int), .int .i64 x.we, .int .i64 x.by_, .int .i64 x.en, .string x.le, .string x.gr] 76)).cell? ⟨tb, 0, none⟩ = some (.string t) := by
    exact (((Below.refl w.heap.size w).alloc (Nat.le_refl _) _).cell (p := ⟨tb, 0, none⟩) k2).trans h2
  unfold tbV
  have l1 := geqS
  have l2 := leqS
  cases q1 : ltS x.gr f <;> cases q2 : ltS t x.le
  all_goals
    go_enter Tryz.func105, Tryz.ntmps105
    go_wp2
    go_ret
    exact ⟨by simp [over, q1, q2], (Below.refl _ _).alloc (Nat.le_refl _) _⟩
/-- a list of one's own is answered, or nil -/
def OwnIs (w : World) (l : List Tb) (e : Ending) (w' : World) : Prop := ∃ (s : Sv) (T : Nat → Nat), e = .returned (svV s) ∧ OwnK kTb 1 T w' (svV s) l ∧ Old w T w'
theorem isK_new (w : World) (t : Tb) : IsK kTb (w.alloc (.cells #[.int .u64 (t.no : Int), .int .i64 t.we, .int .i64 t.by_, .int .i64 t.en, .string t.le, .string t.gr] 76)) (some ⟨w.heap.size, 0, none⟩) [t] := by
  have h := Zb.new w #[.int .u64 (t.no : Int), .int .i64 t.we, .int .i64 t.by_, .int .i64 t.en, .string t.le, .string t.gr] 76
  refine IsK.of ⟨h.1, fun i e he j u hu => ?_⟩
  have hi : i = 0 := by
    have := (List.getElem?_eq_some_iff.1 he).1
    simp at this
    omega
  subst hi
  simp at he
  subst he
  rw [Nat.zero_mul, Nat.zero_add]
  exact h.2.1 j u (by simpa [kTb, tbC] using hu)
theorem filter_take {l : List Tb} {k : Nat} {t : Tb} (p : Tb → Bool) (h : l[k]? = some t) : (l.take (k + 1)).filter p = (l.take k).filter p ++ (if p t = true then [t] else []) := by
  rw [List.take_add_one, h]
  simp only [Option.toList_some, List.filter_append]
  congr 1
  by_cases e : p t = true
  · simp [e]
  · simp [e]
set_option maxHeartbeats 2000000 in
theorem chosen_any (sa : Option Addr) (sc : Nat) (l : List Tb) (u v : Value) (p : Tb → Bool) (w : World) (h : Ls kTb w (sa, l.length, sc) l) (hlen : l.length ≤ 1000000)
    (hp : ∀ (W : World) (t : Tb), Below w.heap.size w W → Calls Tryz.prog 105 #[tbV t, u, v] W fun e w' => e = .returned (.bool (p t)) ∧ Below W.heap.size W w') :
    Calls Tryz.prog 104 #[.slice sa l.length sc, .func (.func 105) #[] #[u, v]] w fun e w' => OwnIs w (l.filter p) e w' := by
  obtain ⟨iz, hi, hz0, hz1, hz2⟩ := info_parts infoTb
  have HL : Hid (Ls kTb w (sa, l.length, sc) l) := h
  have HP : Hid (∀ (W : World) (t : Tb), Below w.heap.size w W → Calls Tryz.prog 105 #[tbV t, u, v] W fun e w' => e = .returned (.bool (p t)) ∧ Below W.heap.size W w') := hp
  clear h hp
  go_enter Tryz.func104, Tryz.ntmps104
  go_wp2
  go_loopw [5, 10] (fun b i wr => ∃ (k : Nat) (s : Sv) (T : Nat → Nat), k ≤ l.length ∧ b = .slice s.1 s.2.1 s.2.2 ∧ i = .int .i64 (k : Int) ∧ Hid (Old w T wr ∧ OwnK kTb 1 T wr (svV s) ((l.take k).filter p))) (fun _ i _ => l.length - (intOf i).toNat)
  case atStart => exact ⟨0, nS, fun _ => 0, by omega, rfl, rfl, Old.first w, OwnK.empty _ _ _⟩
  case round =>
    obtain ⟨k, ⟨ra, rn, rc⟩, T, hk, rfl, rfl, HX⟩ := hrel
    simp only at *
    rename World => wr
    by_cases hlt : k < l.length
    · obtain ⟨b, off, rfl, hb, t, ht, c0, c1, c2, c3, c4, c5⟩ := (HL.out.below HX.out.1.below).tb hlt
      have q1 : (k : Int) < (l.length : Int) := by omega
      have hc := HP.out (wr.alloc (.cells #[.int .u64 (t.no : Int), .int .i64 t.we, .int .i64 t.by_, .int .i64 t.en, .string t.le, .string t.gr] 76)) t (HX.out.1.below.alloc HX.out.1.below.size _)
      have HF : Hid ((l.take (k + 1)).filter p = (l.take k).filter p ++ (if p t = true then [t] else [])) := filter_take p ht
      have hfl : ((l.take k).filter p).length ≤ 1000000 := Nat.le_trans (List.length_filter_le _ _) (by simp; omega)
      unfold tbV at hc
      cases hpt : p t with
      | true =>
        rw [hpt] at hc
        have HC : Hid (Calls Tryz.prog 105 #[.agg #[.int .u64 (t.no : Int), .int .i64 t.we, .int .i64 t.by_, .int .i64 t.en, .string t.le, .string t.gr], u, v] (wr.alloc (.cells #[.int .u64 (t.no : Int), .int .i64 t.we, .int .i64 t.by_, .int .i64 t.en, .string t.le, .string t.gr] 76)) fun e w' => e = .returned (.bool true) ∧ Below (wr.alloc (.cells #[.int .u64 (t.no : Int), .int .i64 t.we, .int .i64 t.by_, .int .i64 t.en, .string t.le, .string t.gr] 76)).heap.size (wr.alloc (.cells #[.int .u64 (t.no : Int), .int .i64 t.we, .int .i64 t.by_, .int .i64 t.en, .string t.le, .string t.gr] 76)) w') := hc
        clear hc
        go_wp2_with (first
          | (go_at_call 105; go_loud (refine HC.out.mono ?_; rintro e w2 ⟨rfl, hb2⟩; have HB2 : Hid (Below wr.heap.size wr w2 ∧ Zb w2 wr.heap.size (tbC t)) := ⟨((Below.refl _ _).alloc (Nat.le_refl _) _).trans (hb2.mono (by simp)), (Zb.new wr _ _).below hb2⟩; have z0 := HB2.out.2.2.1 0 _ rfl; have z1 := HB2.out.2.2.1 1 _ rfl; have z2 := HB2.out.2.2.1 2 _ rfl; have z3 := HB2.out.2.2.1 3 _ rfl; have z4 := HB2.out.2.2.1 4 _ rfl; have z5 := HB2.out.2.2.1 5 _ rfl; clear hb2))
          | (at_builtin; go_loud (refine wpList_appK kTb _ (by rfl) (.tmp 17) (.tmp 19) 58 (by rfl) iz Tryz.underlying58 hi hz0 hz1 hz2 1 T (.slice ra rn rc) ((l.take k).filter p) (by rfl) ((HX.out.2.below HB2.out.1).below ((Below.refl _ _).alloc (Nat.le_refl _) _)) (some ⟨w2.heap.size, 0, none⟩) 1 1 [t] (by rfl) rfl (by simp) (isK_new _ _) (by simp; omega) ?_; intro a' c' T' w3 ho3 hg3; have HY : Hid (OwnK kTb 1 T' w3 (.slice a' (((l.take k).filter p).length + 1) c') ((l.take k).filter p ++ [t]) ∧ Goes (· = 1) T wr T' w3) := ⟨ho3, (Goes.below (t := (· = 1)) (HB2.out.1.alloc HB2.out.1.size _)).trans hg3⟩; clear ho3 hg3; simp only [List.length_singleton])))
        go_roundw
        case rel =>
          refine ⟨k + 1, (a', ((l.take k).filter p).length + 1, c'), T', by omega, rfl, by go_num, HX.out.1.goes HY.out.2 (by decide), ?_⟩
          rw [HF.out, if_pos hpt]
          exact HY.out.1
        case measure => simp [intOf]; omega
      | false =>
        rw [hpt] at hc
        have HC : Hid (Calls Tryz.prog 105 #[.agg #[.int .u64 (t.no : Int), .int .i64 t.we, .int .i64 t.by_, .int .i64 t.en, .string t.le, .string t.gr], u, v] (wr.alloc (.cells #[.int .u64 (t.no : Int), .int .i64 t.we, .int .i64 t.by_, .int .i64 t.en, .string t.le, .string t.gr] 76)) fun e w' => e = .returned (.bool false) ∧ Below (wr.alloc (.cells #[.int .u64 (t.no : Int), .int .i64 t.we, .int .i64 t.by_, .int .i64 t.en, .string t.le, .string t.gr] 76)).heap.size (wr.alloc (.cells #[.int .u64 (t.no : Int), .int .i64 t.we, .int .i64 t.by_, .int .i64 t.en, .string t.le, .string t.gr] 76)) w') := hc
        clear hc
        go_wp2_with (first
          | (go_at_call 105; go_loud (refine HC.out.mono ?_; rintro e w2 ⟨rfl, hb2⟩; have HB2 : Hid (Below wr.heap.size wr w2) := ((Below.refl _ _).alloc (Nat.le_refl _) _).trans (hb2.mono (by simp)); clear hb2)))
        go_roundw
        case rel =>
          refine ⟨k + 1, (ra, rn, rc), T, by omega, rfl, by go_num, HX.out.1.goes (Goes.below (t := fun _ => False) HB2.out) (fun z => z), ?_⟩
          rw [HF.out, if_neg (by rw [hpt]; simp), List.append_nil]
          exact HX.out.2.below HB2.out
        case measure => simp [intOf]; omega
    · have q1 : ¬ (k : Int) < (l.length : Int) := by omega
      have HK : Hid (k = l.length) := show k = l.length by omega
      go_wp2
      go_ret
      have h2 := HX.out.2
      rw [HK.out, List.take_length] at h2
      exact ⟨(ra, rn, rc), T, rfl, h2, HX.out.1⟩
set_option maxHeartbeats 1000000 in
theorem overlap_any (vb : Nat) (V : Lv) (i : Int) (f t : ByteArray) (w : World) (h : VAt w vb V) : Calls Tryz.prog 86 #[.pointer (some ⟨vb, 0, none⟩), .int .i64 i, .string f, .string t] w fun e w' => OwnIs w ((lev V i).filter (over f t)) e w' := by
  have hlen := h.1.len i
  have HV : Hid (VAt w vb V) := h
  clear h
  go_enter Tryz.func86, Tryz.ntmps86
  go_wp2_with (first
    | (go_at_call 58; go_loud (obtain ⟨W, hW⟩ : ∃ W, (w.alloc (.cells #[.string f] 9)).alloc (.cells #[.string t] 9) = W := ⟨_, rfl⟩; rw [hW]; have HW : Hid (Below w.heap.size w W ∧ Zb W w.heap.size [.string f] ∧ Zb W (w.heap.size + 1) [.string t]) := (by subst hW; exact ⟨((Below.refl _ _).alloc (Nat.le_refl _) _).alloc (by simp) _, (Zb.new w #[.string f] 9).below ((Below.refl _ _).alloc (Nat.le_refl _) _), by simpa using Zb.new (w.alloc (.cells #[.string f] 9)) #[.string t] 9⟩); clear hW; refine (level_any vb V i W (HV.out.below HW.out.1)).mono ?_; rintro e w1 ⟨⟨sa, sn, sc⟩, rfl, hs, hw⟩; have hw := hw.symm; subst hw; have HL : Hid (Ls kTb W (sa, sn, sc) (lev V i)) := hs; have hsn := hs.2.1; change sn = (lev V i).length at hsn; subst hsn; clear hs; simp only [svV]))
    | (go_at_call 104; go_loud (refine (chosen_any sa sc (lev V i) (.pointer (some ⟨w.heap.size, 0, none⟩)) (.pointer (some ⟨w.heap.size + 1, 0, none⟩)) (over f t) W HL.out hlen (fun W' x hb => overlap1_any w.heap.size (w.heap.size + 1) f t x W' ((HW.out.2.1.below hb).2.1 0 _ rfl) ((HW.out.2.2.below hb).2.1 0 _ rfl) (HW.out.2.1.below hb).1 (HW.out.2.2.below hb).1)).mono ?_; rintro e w2 ⟨s, T, rfl, ho, hold⟩; have HO : Hid (OwnK kTb 1 T w2 (svV s) ((lev V i).filter (over f t)) ∧ Old W T w2) := ⟨ho, hold⟩; clear ho hold)))
  go_ret
  refine ⟨s, T, rfl, HO.out.1, HW.out.1.trans (HO.out.2.below.mono HW.out.1.size), fun b hb => HO.out.2.zero b ?_⟩
  rcases hb with hb | hb
  · exact .inl (Nat.lt_of_lt_of_le hb HW.out.1.size)
  · exact .inr hb
end Vr
end Go.Proofs.YtaejjpbpnedblaaGreat
namespace Go.Proofs.YtaejjpbpnedblaaGreat
namespace Vr
open Go.RowKit Go.Maps Laws Irw Crw
set_option linter.unusedVariables false
set_option linter.unusedSimpArgs false
set_option maxRecDepth 20000
/-- a version all of whose blocks have tag 0 -/
def LvT (T : Nat → Nat) (w : World) (s : Sv) (V : Lv) : Prop := s.2.1 = V.length ∧ ∃ vs : List Sv, vs.length = V.length ∧ Isk kS T w s vs ∧ ∀ (i : Nat) v l, vs[i]? = some v → V[i]? = some l → Isk kTb T w v l
/-- a plain block -/
def Blk (w : World) (b : Nat) : Prop := ∃ c t, w.heap[b]? = some (Obj.cells c t (0, 0))
def VT (T : Nat → Nat) (w : World) (vb : Nat) (V : Lv) : Prop := Fits V ∧ T vb = 0 ∧ Blk w vb ∧ ∃ s : Sv, Zb w vb [svV s] ∧ LvT T w s V
theorem Isk.ls {α : Type} {K : Knd α} {T : Nat → Nat} {w : World} {s : Sv} {l : List α} (h : Isk K T w s l) : Ls K w s l := ⟨h.1, h.2.1, h.2.2.1, h.2.2.2.1, h.2.2.2.2.1⟩
theorem Isk.re {α : Type} {K : Knd α} {T T' : Nat → Nat} {w : World} {s : Sv} {l : List α} (h : Isk K T w s l) (hT : ∀ b, b < w.heap.size → T b = 0 → T' b = 0) : Isk K T' w s l := by
  obtain ⟨h1, h2, h3, h4, h5, h6⟩ := h
  exact ⟨h1, h2, h3, h4, h5, fun b off e => ⟨hT b (h6 b off e).2 (h6 b off e).1, (h6 b off e).2⟩⟩
theorem VT.at_ {T : Nat → Nat} {w : World} {vb : Nat} {V : Lv} (h : VT T w vb V) : VAt w vb V := by
  obtain ⟨h1, h2, hk, s, h3, h4, vs, h5, h6, h7⟩ := h
  exact ⟨h1, s, h3, h4, vs, h5, h6.1, fun i v l hv hl => (h7 i v l hv hl).ls⟩
theorem VT.goes {t : Nat → Prop} {T T' : Nat → Nat} {w w' : World} {vb : Nat} {V : Lv} (h : VT T w vb V) (hg : Goes t T w T' w') (ht : ¬ t 0) : VT T' w' vb V := by
  obtain ⟨h1, h2, ⟨hc, hy, hk⟩, s, h3, h4, vs, h5, h6, h7⟩ := h
  exact ⟨h1, (hg.tag vb h3.1 (by rw [h2]; exact ht)).trans h2, ⟨hc, hy, (hg.block vb h3.1 (by rw [h2]; exact ht)).trans hk⟩, s, h3.goes hg (by rw [h2]; exact ht), h4, vs, h5, h6.goes hg ht, fun i v l hv hl => (h7 i v l hv hl).goes hg ht⟩
theorem VT.re {T T' : Nat → Nat} {w : World} {vb : Nat} {V : Lv} (h : VT T w vb V) (hT : ∀ b, b < w.heap.size → T b = 0 → T' b = 0) : VT T' w vb V := by
  obtain ⟨h1, h2, hk, s, h3, h4, vs, h5, h6, h7⟩ := h
  exact ⟨h1, hT vb h3.1 h2, hk, s, h3, h4, vs, h5, h6.re hT, fun i v l hv hl => (h7 i v l hv hl).re hT⟩
/-- blocks from h on -/
def lowT (h : Nat) : Nat → Nat := fun b => if b < h then 1 else 0
theorem lowT_ge {h b : Nat} (k : lowT h b = 0) : h ≤ b := by
  unfold lowT at k
  split at k
  · cases k
  · omega
theorem lowT_of {h b : Nat} (k : h ≤ b) : lowT h b = 0 := by unfold lowT; rw [if_neg (by omega)]
abbrev Dat := DataW (Option Addr)
/-- the set: its block has tag 1, its map tag 2 -/
structure SAt (T : Nat → Nat) (w : World) (sb vb mb : Nat) (V : Lv) : Prop where
  ts : T sb = 1
  tm : T mb = 2
  box : ∃ ps : Sv, Zb w sb [.pointer (some ⟨vb, 0, none⟩), .slice none 0 0, svV ps, .map (some mb)]
  ver : VT T w vb V
  map : ∃ (m : Nat) (D : Dat), w.ownsMap Tryz.prog 55 (plainElem Tryz.prog 3) mb m D
/-- cells of a block -/
theorem Zb.heap {w : World} {B : Nat} {vs : Array Value} {t : TypeId} (h : w.heap[B]? = Option.some (Obj.cells vs t)) : Zb w B vs.toList := by
  refine ⟨(Array.getElem?_eq_some_iff.1 h).1, fun j v hv => ?_, fun j => ?_⟩
  · have hv' : vs[j]? = Option.some v := by simpa using hv
    simp [World.cell?, h, hv']
  · simp [World.frozen?, h]
end Vr
end Go.Proofs.YtaejjpbpnedblaaGreat
namespace Go.Proofs.YtaejjpbpnedblaaGreat
namespace Vr
open Go.RowKit Go.Maps Go.ChangeMaps Go.MapKept Laws Irw Crw
set_option linter.unusedVariables false
set_option linter.unusedSimpArgs false
set_option maxRecDepth 20000
/-- the tags of a new set -/
def setT (sb mb : Nat) : Nat → Nat := upd (upd (fun _ => 0) mb 2) sb 1
theorem cells_nil (n : Nat) : kS.cells (List.replicate n nS) = List.replicate n (Value.slice none 0 0) := by
  induction n with
  | zero => rfl
  | succ n ih => rw [List.replicate_succ, Knd.cells, ih]; rfl
theorem new_done {w w' : World} (n sb vb lb pb mb : Nat) (h5 : n ≤ 5) (hs : w'.heap[sb]? = some (Obj.cells #[.pointer (some ⟨vb, 0, none⟩), .slice none 0 0, .slice (some ⟨pb, 0, none⟩) n n, .map (some mb)] 116)) (hv : w'.heap[vb]? = some (Obj.cells #[.slice (some ⟨lb, 0, none⟩) n n] 112))
    (hl : w'.heap[lb]? = some (Obj.cells (madeCells #[.slice none 0 0] n) 58)) (hm : w'.heap[mb]? = some (Obj.map #[] 0)) (hb : Below w.heap.size w w') (hg : w.heap.size ≤ sb ∧ w.heap.size ≤ mb) : SAt (setT sb mb) w' sb vb mb (List.replicate n []) ∧ Old w (setT sb mb) w' := by
  have e1 : vb ≠ sb := by rintro rfl; rw [hs] at hv; simp at hv
  have e2 : vb ≠ mb := by rintro rfl; rw [hm] at hv; simp at hv
  have e3 : lb ≠ sb := by rintro rfl; rw [hs] at hl; simp at hl
  have e4 : lb ≠ mb := by rintro rfl; rw [hm] at hl; simp at hl
  have e5 : mb ≠ sb := by rintro rfl; rw [hs] at hm; simp at hm
  have zs := Zb.heap hs
  have zv := Zb.heap hv
  have zl := Zb.heap hl
  rw [toList_madeCells_one] at zl
  have tl : setT sb mb lb = 0 := by unfold setT; rw [upd_other _ _ e3, upd_other _ _ e4]
  have tv : setT sb mb vb = 0 := by unfold setT; rw [upd_other _ _ e1, upd_other _ _ e2]
  have hsl := zs.1
  have hml := (Array.getElem?_eq_some_iff.1 hm).1
  refine ⟨⟨by unfold setT; rw [upd_same], by unfold setT; rw [upd_other _ _ e5, upd_same], ⟨(some ⟨pb, 0, none⟩, n, n), zs⟩, ⟨⟨by simpa using h5, fun l hl => ?_⟩, tv, ⟨_, _, hv⟩, (some ⟨lb, 0, none⟩, n, n), zv, by simp, List.replicate n nS, by simp, ⟨?_, by simp, by simp, by simp, .inr ⟨_, _, rfl⟩, fun b off e => ?_⟩, fun i v l hv hl => ?_⟩, 0, .map [], ?_⟩, ⟨hb, fun b hb => ?_⟩⟩
  · simp at hl
    rw [hl.2]; simp
  · refine IsK.of ⟨zl.1, fun i e he j u hu => ?_⟩
    have hin : i < n := by have := (List.getElem?_eq_some_iff.1 he).1; simpa using this
    rw [List.getElem?_replicate_of_lt hin] at he
    cases he
    have hj : j = 0 := by have := (List.getElem?_eq_some_iff.1 hu).1; simp [kS] at this; omega
    subst hj
    simp [kS, nS] at hu
    subst hu
    refine zl.2.1 _ _ ?_
    simp [kS, hin]
  · cases e
    exact ⟨tl, zl.1⟩
  · have hin : i < n := by have := (List.getElem?_eq_some_iff.1 hv).1; simpa using this
    rw [List.getElem?_replicate_of_lt hin] at hv hl
    cases hv
    cases hl
    exact ⟨IsK.nil _ _, rfl, fun _ => rfl, Nat.le_refl _, .inl rfl, fun b off e => by cases e⟩
  · exact ⟨#[], 0, hm, ⟨by simp, stamped_empty 0, by simp⟩, Nat.le_refl _, rfl⟩
  · unfold setT
    rw [upd_other _ _ (by omega), upd_other _ _ (by omega)]
/-- what New answers -/
def NwIs (w : World) (n : Nat) (e : Ending) (w' : World) : Prop := ∃ sb vb mb, e = .returned (.pointer (some ⟨sb, 0, none⟩)) ∧ SAt (setT sb mb) w' sb vb mb (List.replicate n []) ∧ Old w (setT sb mb) w'
set_option maxHeartbeats 4000000 in
theorem new_any (n : Nat) (w : World) (h1 : 1 ≤ n) (h5 : n ≤ 5) : Calls Tryz.prog 26 #[.int .i64 (n : Int)] w fun e w' => NwIs w n e w' := by
  have k1 := run_make_row' (P := Tryz.prog) 30 58 (.slice none 0 0) 24 Tryz.underlying30 infoS rfl .i64 .i64 n (by omega) (by omega)
  have k2 := run_make_row' (P := Tryz.prog) 25 9 (.string ⟨#[]⟩) 16 Tryz.underlying25 infoT rfl .i64 .i64 n (by omega) (by omega)
  have k3 := @run_makeMap Tryz.prog
  have al : ∀ (W : World) (o : Obj) (b : Nat), (W.alloc o).heap[b]? = if b = W.heap.size then some o else W.heap[b]? := fun W o b => (by show (W.heap.push o)[b]? = _; rw [Array.getElem?_push])
  have sz : ∀ (W : World) (o : Obj), (W.alloc o).heap.size = W.heap.size + 1 := fun W o => (by show (W.heap.push o).size = _; rw [Array.size_push])
  have dr : ∀ (W : World), W.drew.heap = W.heap := fun W => rfl
  have q1 : max (n : Int) 1 = n := by omega
  have q2 : min (n : Int) 5 = n := by omega
  go_enter Tryz.func26, Tryz.ntmps26
  go_wp2
  go_region
  all_goals go_wp2
  all_goals go_ret
  all_goals
    first
    | (refine ⟨_, w.heap.size + 1, w.heap.size + 1 + 1 + 1, rfl, new_done n (w.heap.size + 1 + 1 + 1 + 1) (w.heap.size + 1) (w.heap.size) (w.heap.size + 1 + 1) (w.heap.size + 1 + 1 + 1) h5 ?_ ?_ ?_ ?_ ?_ ?_⟩; (focus (rw [dr]; simp only [al, sz]; (repeat' split) <;> first | rfl | (exfalso; omega) | (exfalso; simp_all; done))); (focus (rw [dr]; simp only [al, sz]; (repeat' split) <;> first | rfl | (exfalso; omega) | (exfalso; simp_all; done))); (focus (rw [dr]; simp only [al, sz]; (repeat' split) <;> first | rfl | (exfalso; omega) | (exfalso; simp_all; done))); (focus (rw [dr]; simp only [al, sz]; (repeat' split) <;> first | rfl | (exfalso; omega) | (exfalso; simp_all; done))); (focus exact (((((((Below.refl _ _).alloc (Nat.le_refl _) _).alloc (by simp) _).alloc (by simp; omega) _).alloc (by simp; omega) _).alloc (by simp; omega) _).drew)); omega)
    | (refine ⟨_, w.heap.size + 1, w.heap.size + 1 + 1, rfl, new_done n (w.heap.size + 1 + 1 + 1 + 1) (w.heap.size + 1) (w.heap.size) (w.heap.size + 1 + 1 + 1) (w.heap.size + 1 + 1) h5 ?_ ?_ ?_ ?_ ?_ ?_⟩; (focus (rw [dr]; simp only [al, sz]; (repeat' split) <;> first | rfl | (exfalso; omega) | (exfalso; simp_all; done))); (focus (rw [dr]; simp only [al, sz]; (repeat' split) <;> first | rfl | (exfalso; omega) | (exfalso; simp_all; done))); (focus (rw [dr]; simp only [al, sz]; (repeat' split) <;> first | rfl | (exfalso; omega) | (exfalso; simp_all; done))); (focus (rw [dr]; simp only [al, sz]; (repeat' split) <;> first | rfl | (exfalso; omega) | (exfalso; simp_all; done))); (focus exact (((((((Below.refl _ _).alloc (Nat.le_refl _) _).alloc (by simp) _).alloc (by simp; omega) _).alloc (by simp; omega) _).alloc (by simp; omega) _).drew)); omega)
    | (refine ⟨_, w.heap.size + 1 + 1, w.heap.size + 1 + 1 + 1, rfl, new_done n (w.heap.size + 1 + 1 + 1 + 1) (w.heap.size + 1 + 1) (w.heap.size) (w.heap.size + 1) (w.heap.size + 1 + 1 + 1) h5 ?_ ?_ ?_ ?_ ?_ ?_⟩; (focus (rw [dr]; simp only [al, sz]; (repeat' split) <;> first | rfl | (exfalso; omega) | (exfalso; simp_all; done))); (focus (rw [dr]; simp only [al, sz]; (repeat' split) <;> first | rfl | (exfalso; omega) | (exfalso; simp_all; done))); (focus (rw [dr]; simp only [al, sz]; (repeat' split) <;> first | rfl | (exfalso; omega) | (exfalso; simp_all; done))); (focus (rw [dr]; simp only [al, sz]; (repeat' split) <;> first | rfl | (exfalso; omega) | (exfalso; simp_all; done))); (focus exact (((((((Below.refl _ _).alloc (Nat.le_refl _) _).alloc (by simp) _).alloc (by simp; omega) _).alloc (by simp; omega) _).alloc (by simp; omega) _).drew)); omega)
    | (refine ⟨_, w.heap.size + 1 + 1 + 1, w.heap.size + 1 + 1, rfl, new_done n (w.heap.size + 1 + 1 + 1 + 1) (w.heap.size + 1 + 1 + 1) (w.heap.size) (w.heap.size + 1) (w.heap.size + 1 + 1) h5 ?_ ?_ ?_ ?_ ?_ ?_⟩; (focus (rw [dr]; simp only [al, sz]; (repeat' split) <;> first | rfl | (exfalso; omega) | (exfalso; simp_all; done))); (focus (rw [dr]; simp only [al, sz]; (repeat' split) <;> first | rfl | (exfalso; omega) | (exfalso; simp_all; done))); (focus (rw [dr]; simp only [al, sz]; (repeat' split) <;> first | rfl | (exfalso; omega) | (exfalso; simp_all; done))); (focus (rw [dr]; simp only [al, sz]; (repeat' split) <;> first | rfl | (exfalso; omega) | (exfalso; simp_all; done))); (focus exact (((((((Below.refl _ _).alloc (Nat.le_refl _) _).alloc (by simp) _).alloc (by simp; omega) _).alloc (by simp; omega) _).alloc (by simp; omega) _).drew)); omega)
    | (refine ⟨_, w.heap.size + 1 + 1, w.heap.size + 1, rfl, new_done n (w.heap.size + 1 + 1 + 1 + 1) (w.heap.size + 1 + 1) (w.heap.size) (w.heap.size + 1 + 1 + 1) (w.heap.size + 1) h5 ?_ ?_ ?_ ?_ ?_ ?_⟩; (focus (rw [dr]; simp only [al, sz]; (repeat' split) <;> first | rfl | (exfalso; omega) | (exfalso; simp_all; done))); (focus (rw [dr]; simp only [al, sz]; (repeat' split) <;> first | rfl | (exfalso; omega) | (exfalso; simp_all; done))); (focus (rw [dr]; simp only [al, sz]; (repeat' split) <;> first | rfl | (exfalso; omega) | (exfalso; simp_all; done))); (focus (rw [dr]; simp only [al, sz]; (repeat' split) <;> first | rfl | (exfalso; omega) | (exfalso; simp_all; done))); (focus exact (((((((Below.refl _ _).alloc (Nat.le_refl _) _).alloc (by simp) _).alloc (by simp; omega) _).alloc (by simp; omega) _).alloc (by simp; omega) _).drew)); omega)
    | (refine ⟨_, w.heap.size + 1 + 1 + 1, w.heap.size + 1, rfl, new_done n (w.heap.size + 1 + 1 + 1 + 1) (w.heap.size + 1 + 1 + 1) (w.heap.size) (w.heap.size + 1 + 1) (w.heap.size + 1) h5 ?_ ?_ ?_ ?_ ?_ ?_⟩; (focus (rw [dr]; simp only [al, sz]; (repeat' split) <;> first | rfl | (exfalso; omega) | (exfalso; simp_all; done))); (focus (rw [dr]; simp only [al, sz]; (repeat' split) <;> first | rfl | (exfalso; omega) | (exfalso; simp_all; done))); (focus (rw [dr]; simp only [al, sz]; (repeat' split) <;> first | rfl | (exfalso; omega) | (exfalso; simp_all; done))); (focus (rw [dr]; simp only [al, sz]; (repeat' split) <;> first | rfl | (exfalso; omega) | (exfalso; simp_all; done))); (focus exact (((((((Below.refl _ _).alloc (Nat.le_refl _) _).alloc (by simp) _).alloc (by simp; omega) _).alloc (by simp; omega) _).alloc (by simp; omega) _).drew)); omega)
    | (refine ⟨_, w.heap.size + 1 + 1, w.heap.size + 1 + 1 + 1, rfl, new_done n (w.heap.size + 1 + 1 + 1 + 1) (w.heap.size + 1 + 1) (w.heap.size + 1) (w.heap.size) (w.heap.size + 1 + 1 + 1) h5 ?_ ?_ ?_ ?_ ?_ ?_⟩; (focus (rw [dr]; simp only [al, sz]; (repeat' split) <;> first | rfl | (exfalso; omega) | (exfalso; simp_all; done))); (focus (rw [dr]; simp only [al, sz]; (repeat' split) <;> first | rfl | (exfalso; omega) | (exfalso; simp_all; done))); (focus (rw [dr]; simp only [al, sz]; (repeat' split) <;> first | rfl | (exfalso; omega) | (exfalso; simp_all; done))); (focus (rw [dr]; simp only [al, sz]; (repeat' split) <;> first | rfl | (exfalso; omega) | (exfalso; simp_all; done))); (focus exact (((((((Below.refl _ _).alloc (Nat.le_refl _) _).alloc (by simp) _).alloc (by simp; omega) _).alloc (by simp; omega) _).alloc (by simp; omega) _).drew)); omega)
    | (refine ⟨_, w.heap.size + 1 + 1 + 1, w.heap.size + 1 + 1, rfl, new_done n (w.heap.size + 1 + 1 + 1 + 1) (w.heap.size + 1 + 1 + 1) (w.heap.size + 1) (w.heap.size) (w.heap.size + 1 + 1) h5 ?_ ?_ ?_ ?_ ?_ ?_⟩; (focus (rw [dr]; simp only [al, sz]; (repeat' split) <;> first | rfl | (exfalso; omega) | (exfalso; simp_all; done))); (focus (rw [dr]; simp only [al, sz]; (repeat' split) <;> first | rfl | (exfalso; omega) | (exfalso; simp_all; done))); (focus (rw [dr]; simp only [al, sz]; (repeat' split) <;> first | rfl | (exfalso; omega) | (exfalso; simp_all; done))); (focus (rw [dr]; simp only [al, sz]; (repeat' split) <;> first | rfl | (exfalso; omega) | (exfalso; simp_all; done))); (focus exact (((((((Below.refl _ _).alloc (Nat.le_refl _) _).alloc (by simp) _).alloc (by simp; omega) _).alloc (by simp; omega) _).alloc (by simp; omega) _).drew)); omega)
    | (refine ⟨_, w.heap.size + 1 + 1 + 1, w.heap.size + 1, rfl, new_done n (w.heap.size + 1 + 1 + 1 + 1) (w.heap.size + 1 + 1 + 1) (w.heap.size + 1 + 1) (w.heap.size) (w.heap.size + 1) h5 ?_ ?_ ?_ ?_ ?_ ?_⟩; (focus (rw [dr]; simp only [al, sz]; (repeat' split) <;> first | rfl | (exfalso; omega) | (exfalso; simp_all; done))); (focus (rw [dr]; simp only [al, sz]; (repeat' split) <;> first | rfl | (exfalso; omega) | (exfalso; simp_all; done))); (focus (rw [dr]; simp only [al, sz]; (repeat' split) <;> first | rfl | (exfalso; omega) | (exfalso; simp_all; done))); (focus (rw [dr]; simp only [al, sz]; (repeat' split) <;> first | rfl | (exfalso; omega) | (exfalso; simp_all; done))); (focus exact (((((((Below.refl _ _).alloc (Nat.le_refl _) _).alloc (by simp) _).alloc (by simp; omega) _).alloc (by simp; omega) _).alloc (by simp; omega) _).drew)); omega)
    | (refine ⟨_, w.heap.size + 1 + 1, w.heap.size, rfl, new_done n (w.heap.size + 1 + 1 + 1 + 1) (w.heap.size + 1 + 1) (w.heap.size + 1) (w.heap.size + 1 + 1 + 1) (w.heap.size) h5 ?_ ?_ ?_ ?_ ?_ ?_⟩; (focus (rw [dr]; simp only [al, sz]; (repeat' split) <;> first | rfl | (exfalso; omega) | (exfalso; simp_all; done))); (focus (rw [dr]; simp only [al, sz]; (repeat' split) <;> first | rfl | (exfalso; omega) | (exfalso; simp_all; done))); (focus (rw [dr]; simp only [al, sz]; (repeat' split) <;> first | rfl | (exfalso; omega) | (exfalso; simp_all; done))); (focus (rw [dr]; simp only [al, sz]; (repeat' split) <;> first | rfl | (exfalso; omega) | (exfalso; simp_all; done))); (focus exact (((((((Below.refl _ _).alloc (Nat.le_refl _) _).alloc (by simp) _).alloc (by simp; omega) _).alloc (by simp; omega) _).alloc (by simp; omega) _).drew)); omega)
    | (refine ⟨_, w.heap.size + 1 + 1 + 1, w.heap.size, rfl, new_done n (w.heap.size + 1 + 1 + 1 + 1) (w.heap.size + 1 + 1 + 1) (w.heap.size + 1) (w.heap.size + 1 + 1) (w.heap.size) h5 ?_ ?_ ?_ ?_ ?_ ?_⟩; (focus (rw [dr]; simp only [al, sz]; (repeat' split) <;> first | rfl | (exfalso; omega) | (exfalso; simp_all; done))); (focus (rw [dr]; simp only [al, sz]; (repeat' split) <;> first | rfl | (exfalso; omega) | (exfalso; simp_all; done))); (focus (rw [dr]; simp only [al, sz]; (repeat' split) <;> first | rfl | (exfalso; omega) | (exfalso; simp_all; done))); (focus (rw [dr]; simp only [al, sz]; (repeat' split) <;> first | rfl | (exfalso; omega) | (exfalso; simp_all; done))); (focus exact (((((((Below.refl _ _).alloc (Nat.le_refl _) _).alloc (by simp) _).alloc (by simp; omega) _).alloc (by simp; omega) _).alloc (by simp; omega) _).drew)); omega)
    | (refine ⟨_, w.heap.size + 1 + 1 + 1, w.heap.size, rfl, new_done n (w.heap.size + 1 + 1 + 1 + 1) (w.heap.size + 1 + 1 + 1) (w.heap.size + 1 + 1) (w.heap.size + 1) (w.heap.size) h5 ?_ ?_ ?_ ?_ ?_ ?_⟩; (focus (rw [dr]; simp only [al, sz]; (repeat' split) <;> first | rfl | (exfalso; omega) | (exfalso; simp_all; done))); (focus (rw [dr]; simp only [al, sz]; (repeat' split) <;> first | rfl | (exfalso; omega) | (exfalso; simp_all; done))); (focus (rw [dr]; simp only [al, sz]; (repeat' split) <;> first | rfl | (exfalso; omega) | (exfalso; simp_all; done))); (focus (rw [dr]; simp only [al, sz]; (repeat' split) <;> first | rfl | (exfalso; omega) | (exfalso; simp_all; done))); (focus exact (((((((Below.refl _ _).alloc (Nat.le_refl _) _).alloc (by simp) _).alloc (by simp; omega) _).alloc (by simp; omega) _).alloc (by simp; omega) _).drew)); omega)
end Vr
end Go.Proofs.YtaejjpbpnedblaaGreat
