import Derived.Test.YtecgecolghgjoaaVd
namespace Go.Proofs.Ytecgecolghgjoaa
namespace Vr
open Go.RowKit Laws Irw Crw
set_option linter.unusedVariables false
set_option linter.unusedSimpArgs false
set_option maxRecDepth 20000
/-- the cells of a table -/
theorem Ls.tb {w : World} {a : Option Addr} {n c : Nat} {l : List Tb} (h : Ls kTb w (a, n, c) l) {i : Nat} (hi : i < l.length) : ∃ b off, a = some ⟨b, off, none⟩ ∧ b < w.heap.size ∧ ∃ t, l[i]? = some t ∧ w.cell? ⟨b, off + i * 6, none⟩ = some (.int .u64 (t.no : Int)) ∧ w.cell? ⟨b, off + i * 6 + 1, none⟩ = some (.int .i64 t.we) ∧ w.cell? ⟨b, off + i * 6 + 2, none⟩ = some (.int .i64 t.by_) ∧ w.cell? ⟨b, off + i * 6 + 3, none⟩ = some (.int .i64 t.en) ∧ w.cell? ⟨b, off + i * 6 + 4, none⟩ = some (.string t.le) ∧ w.cell? ⟨b, off + i * 6 + 5, none⟩ = some (.string t.gr) := by
  obtain ⟨b, off, e, hb, hc⟩ := h.cell (List.getElem?_eq_getElem hi)
  exact ⟨b, off, e, hb, _, List.getElem?_eq_getElem hi, hc 0 _ rfl, hc 1 _ rfl, hc 2 _ rfl, hc 3 _ rfl, hc 4 _ rfl, hc 5 _ rfl⟩
def sumW (l : List Tb) : Int := (l.map Tb.we).sum
/-- weights from 0 to 2^31 -/
def WeOk (l : List Tb) : Prop := ∀ t ∈ l, 0 ≤ t.we ∧ t.we ≤ 2147483648
theorem sumW_bound : ∀ {l : List Tb}, WeOk l → 0 ≤ sumW l ∧ sumW l ≤ 2147483648 * l.length
  | [], _ => by simp [sumW]
  | t :: r, h => by
    have h1 := h t (by simp)
    have h2 := sumW_bound (l := r) fun x hx => h x (by simp [hx])
    unfold sumW at *
    simp only [List.map_cons, List.sum_cons, List.length_cons]
    omega
theorem sumW_take {l : List Tb} {k : Nat} {t : Tb} (h : l[k]? = some t) : sumW (l.take (k + 1)) = sumW (l.take k) + t.we := by
  unfold sumW
  rw [List.take_add_one, h]
  simp
set_option maxHeartbeats 3000000 in
theorem weight_any (vb : Nat) (V : Lv) (i : Int) (w : World) (h : VAt w vb V) (hw : WeOk (lev V i)) : Calls Try.prog 31 #[.pointer (some ⟨vb, 0, none⟩), .int .i64 i] w fun e w' => e = .returned (.int .i64 (sumW (lev V i))) ∧ Below w.heap.size w w' := by
  have hlen := h.1.len i
  have HV := level_any vb V i w h
  obtain ⟨l, hl⟩ : ∃ l, lev V i = l := ⟨_, rfl⟩
  rw [hl] at HV hlen hw ⊢
  have HC : Hid (Calls Try.prog 44 #[.pointer (some ⟨vb, 0, none⟩), .int .i64 i] w fun e w' => ∃ s : Sv, e = .returned (svV s) ∧ Ls kTb w s l ∧ w' = w) := HV
  have HW : Hid (WeOk l) := hw
  clear HV h hl hw
  go_enter Try.func31, Try.ntmps31
  go_wp2_with (first
    | (go_at_call 44; go_loud (refine HC.out.mono ?_; rintro e w1 ⟨⟨sa, sn, sc⟩, rfl, hs, hw⟩; have hw := hw.symm; subst hw; have HL : Hid (Ls kTb w (sa, sn, sc) l) := hs; have hsn := hs.2.1; change sn = l.length at hsn; subst hsn; clear hs; simp only [svV])))
  clear HC
  go_loopw [5, 12] (fun b i wr => ∃ k : Nat, k ≤ l.length ∧ b = .int .i64 (sumW (l.take k)) ∧ i = .int .i64 (k : Int) ∧ Hid (Below w.heap.size w wr)) (fun _ i _ => l.length - (intOf i).toNat)
  case atStart => exact ⟨0, by omega, rfl, rfl, Below.refl _ _⟩
  case round =>
    obtain ⟨k, hk, rfl, rfl, HB⟩ := hrel
    rename World => wr
    by_cases hlt : k < l.length
    · obtain ⟨b, off, rfl, hb, t, ht, c0, c1, c2, c3, c4, c5⟩ := (HL.out.below HB.out).tb hlt
      have q1 : (k : Int) < (l.length : Int) := by omega
      have e1 := sumW_take ht
      have b1 := sumW_bound (l := l.take k) fun x hx => HW.out x (List.mem_of_mem_take hx)
      have b2 := HW.out t (List.mem_of_getElem? ht)
      have b3 : (l.take k).length ≤ 3000000 := by simp; omega
      have wr1 : IntKind.i64.wrap (sumW (l.take k) + t.we) = sumW (l.take k) + t.we := IntWalk.i64_in _ (by omega)
      go_wp2
      go_roundw
      case rel =>
        exact ⟨k + 1, by omega, by rw [e1], by go_num, HB.out.alloc HB.out.size _⟩
      case measure => simp [intOf]; omega
    · have q1 : ¬ (k : Int) < (l.length : Int) := by omega
      have HK : Hid (k = l.length) := show k = l.length by omega
      go_wp2
      go_ret
      exact ⟨by simp [HK.out], HB.out⟩
theorem eq_ltS (x y : ByteArray) : (x.toList == y.toList) = (!ltS x y && !ltS y x) := by
  rw [ByteArray.toList_eq, ByteArray.toList_eq]
  by_cases h : x.data.toList = y.data.toList
  · have := ba_ext h
    subst this
    simp [ltS_irrefl]
  · have e : (x.data.toList == y.data.toList) = false := by simpa using h
    rw [e]
    cases h1 : ltS x y with
    | true => rfl
    | false =>
      cases h2 : ltS y x with
      | true => rfl
      | false => exact absurd (congrArg (fun b => b.data.toList) (ltS_tri h1 h2)) h
theorem lt_ltS (x y : ByteArray) : Op.bytesLess x.toList y.toList = ltS x y := by rw [ByteArray.toList_eq, ByteArray.toList_eq]; rfl
theorem geqS (x y : ByteArray) (W : World) : Sem.run Try.prog (binOp BinOp.geq 9 (.string x) (.string y)) W = .ok (.bool (!ltS x y)) W := by
  simp [binOp, run_underlying Try.underlying9, Op.stringOp, lt_ltS]
theorem leqS (x y : ByteArray) (W : World) : Sem.run Try.prog (binOp BinOp.leq 9 (.string x) (.string y)) W = .ok (.bool (!ltS y x)) W := by
  have e : (ltS x y || (!ltS x y && !ltS y x)) = !ltS y x := by
    cases h1 : ltS x y with
    | true => rw [ltS_asymm h1]; rfl
    | false => rfl
  simp [binOp, run_underlying Try.underlying9, Op.stringOp, lt_ltS, eq_ltS, e]
theorem lssS (x y : ByteArray) (W : World) : Sem.run Try.prog (binOp BinOp.lss 9 (.string x) (.string y)) W = .ok (.bool (ltS x y)) W := by
  simp [binOp, run_underlying Try.underlying9, Op.stringOp, lt_ltS]
theorem gtrS (x y : ByteArray) (W : World) : Sem.run Try.prog (binOp BinOp.gtr 9 (.string x) (.string y)) W = .ok (.bool (ltS y x)) W := by
  simp [binOp, run_underlying Try.underlying9, Op.stringOp, lt_ltS, eq_ltS]
  cases h1 : ltS x y with
  | true => rw [ltS_asymm h1]; rfl
  | false => simp
/-- does a table overlap a hull? -/
def over (f t : ByteArray) (x : Tb) : Bool := !ltS x.gr f && !ltS t x.le
set_option maxHeartbeats 400000 in
theorem overlap1_any (fb tb : Nat) (f t : ByteArray) (x : Tb) (w : World) (h1 : w.cell? ⟨fb, 0, none⟩ = some (.string f)) (h2 : w.cell? ⟨tb, 0, none⟩ = some (.string t)) (k1 : fb < w.heap.size) (k2 : tb < w.heap.size) :
    Calls Try.prog 46 #[tbV x, .pointer (some ⟨fb, 0, none⟩), .pointer (some ⟨tb, 0, none⟩)] w fun e w' => e = .returned (.bool (over f t x)) ∧ Below w.heap.size w w' := by
  have g1 : (w.alloc (.cells #[.int .u64 (x.no : Int), .int .i64 x.we, .int .i64 x.by_, .int .i64 x.en, .string x.le, .string x.gr] 47)).cell? ⟨fb, 0, none⟩ = some (.string f) := by
    exact (((Below.refl w.heap.size w).alloc (Nat.le_refl _) _).cell (p := ⟨fb, 0, none⟩) k1).trans h1
  have g2 : (w.alloc (.cells #[.int .u64 (x.no : Int), .int .i64 x.we, .int .i64 x.by_, .int .i64 x.en, .string x.le, .string x.gr] 47)).cell? ⟨tb, 0, none⟩ = some (.string t) := by
    exact (((Below.refl w.heap.size w).alloc (Nat.le_refl _) _).cell (p := ⟨tb, 0, none⟩) k2).trans h2
  unfold tbV
  have l1 := geqS
  have l2 := leqS
  cases q1 : ltS x.gr f <;> cases q2 : ltS t x.le
  all_goals
    go_enter Try.func46, Try.ntmps46
    go_wp2
    go_ret
    exact ⟨by simp [over, q1, q2], (Below.refl _ _).alloc (Nat.le_refl _) _⟩
/-- a list of one's own is answered, or nil -/
def OwnIs (w : World) (l : List Tb) (e : Ending) (w' : World) : Prop := ∃ (s : Sv) (T : Nat → Nat), e = .returned (svV s) ∧ OwnK kTb 1 T w' (svV s) l ∧ Old w T w'
theorem isK_new (w : World) (t : Tb) : IsK kTb (w.alloc (.cells #[.int .u64 (t.no : Int), .int .i64 t.we, .int .i64 t.by_, .int .i64 t.en, .string t.le, .string t.gr] 47)) (some ⟨w.heap.size, 0, none⟩) [t] := by
  have h := Zb.new w #[.int .u64 (t.no : Int), .int .i64 t.we, .int .i64 t.by_, .int .i64 t.en, .string t.le, .string t.gr] 47
  refine IsK.of ⟨h.1, fun i e he j u hu => ?_⟩
  have hi : i = 0 := by
    have := (List.getElem?_eq_some_iff.1 he).1
    simp at this
    omega
  subst hi
  simp at he
  subst he
  rw [Nat.zero_mul, Nat.zero_add]
  exact h.2.1 j u (by simpa [kTb, tbC] using hu)
theorem filter_take {l : List Tb} {k : Nat} {t : Tb} (p : Tb → Bool) (h : l[k]? = some t) : (l.take (k + 1)).filter p = (l.take k).filter p ++ (if p t = true then [t] else []) := by
  rw [List.take_add_one, h]
  simp only [Option.toList_some, List.filter_append]
  congr 1
  by_cases e : p t = true
  · simp [e]
  · simp [e]
set_option maxHeartbeats 2000000 in
theorem chosen_any (sa : Option Addr) (sc : Nat) (l : List Tb) (u v : Value) (p : Tb → Bool) (w : World) (h : Ls kTb w (sa, l.length, sc) l) (hlen : l.length ≤ 3000000)
    (hp : ∀ (W : World) (t : Tb), Below w.heap.size w W → Calls Try.prog 46 #[tbV t, u, v] W fun e w' => e = .returned (.bool (p t)) ∧ Below W.heap.size W w') :
    Calls Try.prog 45 #[.slice sa l.length sc, .func (.func 46) #[] #[u, v]] w fun e w' => OwnIs w (l.filter p) e w' := by
  obtain ⟨iz, hi, hz0, hz1, hz2⟩ := info_parts infoTb
  have HL : Hid (Ls kTb w (sa, l.length, sc) l) := h
  have HP : Hid (∀ (W : World) (t : Tb), Below w.heap.size w W → Calls Try.prog 46 #[tbV t, u, v] W fun e w' => e = .returned (.bool (p t)) ∧ Below W.heap.size W w') := hp
  clear h hp
  go_enter Try.func45, Try.ntmps45
  go_wp2
  go_loopw [5, 10] (fun b i wr => ∃ (k : Nat) (s : Sv) (T : Nat → Nat), k ≤ l.length ∧ b = .slice s.1 s.2.1 s.2.2 ∧ i = .int .i64 (k : Int) ∧ Hid (Old w T wr ∧ OwnK kTb 1 T wr (svV s) ((l.take k).filter p))) (fun _ i _ => l.length - (intOf i).toNat)
  case atStart => exact ⟨0, nS, fun _ => 0, by omega, rfl, rfl, Old.first w, OwnK.empty _ _ _⟩
  case round =>
    obtain ⟨k, ⟨ra, rn, rc⟩, T, hk, rfl, rfl, HX⟩ := hrel
    simp only at *
    rename World => wr
    by_cases hlt : k < l.length
    · obtain ⟨b, off, rfl, hb, t, ht, c0, c1, c2, c3, c4, c5⟩ := (HL.out.below HX.out.1.below).tb hlt
      have q1 : (k : Int) < (l.length : Int) := by omega
      have hc := HP.out (wr.alloc (.cells #[.int .u64 (t.no : Int), .int .i64 t.we, .int .i64 t.by_, .int .i64 t.en, .string t.le, .string t.gr] 47)) t (HX.out.1.below.alloc HX.out.1.below.size _)
      have HF : Hid ((l.take (k + 1)).filter p = (l.take k).filter p ++ (if p t = true then [t] else [])) := filter_take p ht
      have hfl : ((l.take k).filter p).length ≤ 3000000 := Nat.le_trans (List.length_filter_le _ _) (by simp; omega)
      unfold tbV at hc
      cases hpt : p t with
      | true =>
        rw [hpt] at hc
        have HC : Hid (Calls Try.prog 46 #[.agg #[.int .u64 (t.no : Int), .int .i64 t.we, .int .i64 t.by_, .int .i64 t.en, .string t.le, .string t.gr], u, v] (wr.alloc (.cells #[.int .u64 (t.no : Int), .int .i64 t.we, .int .i64 t.by_, .int .i64 t.en, .string t.le, .string t.gr] 47)) fun e w' => e = .returned (.bool true) ∧ Below (wr.alloc (.cells #[.int .u64 (t.no : Int), .int .i64 t.we, .int .i64 t.by_, .int .i64 t.en, .string t.le, .string t.gr] 47)).heap.size (wr.alloc (.cells #[.int .u64 (t.no : Int), .int .i64 t.we, .int .i64 t.by_, .int .i64 t.en, .string t.le, .string t.gr] 47)) w') := hc
        clear hc
        go_wp2_with (first
          | (go_at_call 46; go_loud (refine HC.out.mono ?_; rintro e w2 ⟨rfl, hb2⟩; have HB2 : Hid (Below wr.heap.size wr w2 ∧ Zb w2 wr.heap.size (tbC t)) := ⟨((Below.refl _ _).alloc (Nat.le_refl _) _).trans (hb2.mono (by simp)), (Zb.new wr _ _).below hb2⟩; have z0 := HB2.out.2.2.1 0 _ rfl; have z1 := HB2.out.2.2.1 1 _ rfl; have z2 := HB2.out.2.2.1 2 _ rfl; have z3 := HB2.out.2.2.1 3 _ rfl; have z4 := HB2.out.2.2.1 4 _ rfl; have z5 := HB2.out.2.2.1 5 _ rfl; clear hb2))
          | (at_builtin; go_loud (refine wpList_appK kTb _ (by rfl) (.tmp 17) (.tmp 19) 58 (by rfl) iz Try.underlying58 hi hz0 hz1 hz2 1 T (.slice ra rn rc) ((l.take k).filter p) (by rfl) ((HX.out.2.below HB2.out.1).below ((Below.refl _ _).alloc (Nat.le_refl _) _)) (some ⟨w2.heap.size, 0, none⟩) 1 1 [t] (by rfl) rfl (by simp) (isK_new _ _) (by simp; omega) ?_; intro a' c' T' w3 ho3 hg3; have HY : Hid (OwnK kTb 1 T' w3 (.slice a' (((l.take k).filter p).length + 1) c') ((l.take k).filter p ++ [t]) ∧ Goes (· = 1) T wr T' w3) := ⟨ho3, (Goes.below (t := (· = 1)) (HB2.out.1.alloc HB2.out.1.size _)).trans hg3⟩; clear ho3 hg3; simp only [List.length_singleton])))
        go_roundw
        case rel =>
          refine ⟨k + 1, (a', ((l.take k).filter p).length + 1, c'), T', by omega, rfl, by go_num, HX.out.1.goes HY.out.2 (by decide), ?_⟩
          rw [HF.out, if_pos hpt]
          exact HY.out.1
        case measure => simp [intOf]; omega
      | false =>
        rw [hpt] at hc
        have HC : Hid (Calls Try.prog 46 #[.agg #[.int .u64 (t.no : Int), .int .i64 t.we, .int .i64 t.by_, .int .i64 t.en, .string t.le, .string t.gr], u, v] (wr.alloc (.cells #[.int .u64 (t.no : Int), .int .i64 t.we, .int .i64 t.by_, .int .i64 t.en, .string t.le, .string t.gr] 47)) fun e w' => e = .returned (.bool false) ∧ Below (wr.alloc (.cells #[.int .u64 (t.no : Int), .int .i64 t.we, .int .i64 t.by_, .int .i64 t.en, .string t.le, .string t.gr] 47)).heap.size (wr.alloc (.cells #[.int .u64 (t.no : Int), .int .i64 t.we, .int .i64 t.by_, .int .i64 t.en, .string t.le, .string t.gr] 47)) w') := hc
        clear hc
        go_wp2_with (first
          | (go_at_call 46; go_loud (refine HC.out.mono ?_; rintro e w2 ⟨rfl, hb2⟩; have HB2 : Hid (Below wr.heap.size wr w2) := ((Below.refl _ _).alloc (Nat.le_refl _) _).trans (hb2.mono (by simp)); clear hb2)))
        go_roundw
        case rel =>
          refine ⟨k + 1, (ra, rn, rc), T, by omega, rfl, by go_num, HX.out.1.goes (Goes.below (t := fun _ => False) HB2.out) (fun z => z), ?_⟩
          rw [HF.out, if_neg (by rw [hpt]; simp), List.append_nil]
          exact HX.out.2.below HB2.out
        case measure => simp [intOf]; omega
    · have q1 : ¬ (k : Int) < (l.length : Int) := by omega
      have HK : Hid (k = l.length) := show k = l.length by omega
      go_wp2
      go_ret
      have h2 := HX.out.2
      rw [HK.out, List.take_length] at h2
      exact ⟨(ra, rn, rc), T, rfl, h2, HX.out.1⟩
set_option maxHeartbeats 3000000 in
theorem overlap_any (vb : Nat) (V : Lv) (i : Int) (f t : ByteArray) (w : World) (h : VAt w vb V) : Calls Try.prog 32 #[.pointer (some ⟨vb, 0, none⟩), .int .i64 i, .string f, .string t] w fun e w' => OwnIs w ((lev V i).filter (over f t)) e w' := by
  have hlen := h.1.len i
  have HV : Hid (VAt w vb V) := h
  clear h
  go_enter Try.func32, Try.ntmps32
  go_wp2_with (first
    | (go_at_call 44; go_loud (obtain ⟨W, hW⟩ : ∃ W, (w.alloc (.cells #[.string f] 9)).alloc (.cells #[.string t] 9) = W := ⟨_, rfl⟩; rw [hW]; have HW : Hid (Below w.heap.size w W ∧ Zb W w.heap.size [.string f] ∧ Zb W (w.heap.size + 1) [.string t]) := (by subst hW; exact ⟨((Below.refl _ _).alloc (Nat.le_refl _) _).alloc (by simp) _, (Zb.new w #[.string f] 9).below ((Below.refl _ _).alloc (Nat.le_refl _) _), by simpa using Zb.new (w.alloc (.cells #[.string f] 9)) #[.string t] 9⟩); clear hW; refine (level_any vb V i W (HV.out.below HW.out.1)).mono ?_; rintro e w1 ⟨⟨sa, sn, sc⟩, rfl, hs, hw⟩; have hw := hw.symm; subst hw; have HL : Hid (Ls kTb W (sa, sn, sc) (lev V i)) := hs; have hsn := hs.2.1; change sn = (lev V i).length at hsn; subst hsn; clear hs; simp only [svV]))
    | (go_at_call 45; go_loud (refine (chosen_any sa sc (lev V i) (.pointer (some ⟨w.heap.size, 0, none⟩)) (.pointer (some ⟨w.heap.size + 1, 0, none⟩)) (over f t) W HL.out hlen (fun W' x hb => overlap1_any w.heap.size (w.heap.size + 1) f t x W' ((HW.out.2.1.below hb).2.1 0 _ rfl) ((HW.out.2.2.below hb).2.1 0 _ rfl) (HW.out.2.1.below hb).1 (HW.out.2.2.below hb).1)).mono ?_; rintro e w2 ⟨s, T, rfl, ho, hold⟩; have HO : Hid (OwnK kTb 1 T w2 (svV s) ((lev V i).filter (over f t)) ∧ Old W T w2) := ⟨ho, hold⟩; clear ho hold)))
  go_ret
  refine ⟨s, T, rfl, HO.out.1, HW.out.1.trans (HO.out.2.below.mono HW.out.1.size), fun b hb => HO.out.2.zero b ?_⟩
  rcases hb with hb | hb
  · exact .inl (Nat.lt_of_lt_of_le hb HW.out.1.size)
  · exact .inr hb
end Vr
end Go.Proofs.Ytecgecolghgjoaa
