import Derived.Test.YtaejjpbpnedblaaGreatWc
namespace Go.Proofs.YtaejjpbpnedblaaGreat
namespace Vr
open Go.Shelf Go.RowKit Go.Lib Go.Sort Go.Maps Go.ChangeMaps Go.MapKept Laws Irw Crw
set_option linter.unusedVariables false
set_option linter.unusedSimpArgs false
set_option maxRecDepth 20000
def kI : Knd Int := ⟨3, 1, 8, .int .i64 0, fun x => [.int .i64 x], fun _ => rfl, fun x u hu => by simp at hu; subst hu; rfl, by omega, rfl, by omega⟩
theorem infoI : (Tryz.prog.info? 3).map (fun i => (i.zero, i.size, i.bytes)) = some (some kI.zero, 1, 8) := by kernel_rfl
/-- a list of one's own of any kind is answered -/
def OwIs {α : Type} (K : Knd α) (w : World) (l : List α) (e : Ending) (w' : World) : Prop := ∃ (s : Sv) (T : Nat → Nat), e = .returned (svV s) ∧ OwnK K 1 T w' (svV s) l ∧ Old w T w'
theorem isK_int (w : World) (x : Int) : IsK kI (w.alloc (.cells #[.int .i64 x] 3)) (some ⟨w.heap.size, 0, none⟩) [x] := by
  have h := Zb.new w #[.int .i64 x] 3
  refine IsK.of ⟨h.1, fun i e he j u hu => ?_⟩
  have hi : i = 0 := by
    have := (List.getElem?_eq_some_iff.1 he).1
    simp at this
    omega
  subst hi
  simp at he
  subst he
  rw [Nat.zero_mul, Nat.zero_add]
  exact h.2.1 j u (by simpa [kI] using hu)
theorem old_back {w W : World} {T : Nat → Nat} {w' : World} (hb : RowKit.Below w.heap.size w W) (h : Old W T w') : Old w T w' :=
  ⟨hb.trans (h.below.mono hb.size), fun b hb' => h.zero b (by
    rcases hb' with hb' | hb'
    · exact .inl (Nat.lt_of_lt_of_le hb' hb.size)
    · exact .inr hb')⟩
set_option maxHeartbeats 4000000 in
theorem scores_any (c : Cf) (vb : Nat) (V : Lv) (w : World) (h : VAt w vb V) (hw : WeV V) (hc : Cr c V.length) : Calls Tryz.prog 15 #[.agg (cfgA c), .pointer (some ⟨vb, 0, none⟩)] w fun e w' => OwIs kI w (scs c V) e w' := by
  obtain ⟨iz, hi, hz0, hz1, hz2⟩ := info_parts infoI
  have hn3 := hc.n3
  have hn5 := hc.n5
  have hL0 := lc_new w c 23
  have HB0 : Hid (RowKit.Below w.heap.size w (w.alloc (Obj.cells (cfgA c) 23)) ∧ Lc (w.alloc (Obj.cells (cfgA c) 23)) w.heap.size c) := ⟨(Below.refl _ _).alloc (Nat.le_refl _) _, hL0⟩
  have HV : Hid (VAt w vb V ∧ WeV V ∧ Cr c V.length) := ⟨h, hw, hc⟩
  clear h hw hc
  go_enter Tryz.func15, Tryz.ntmps15
  go_wp2_with (first
    | (refine wpList_cfg (by rfl) _ (by rfl) (by rfl) hL0 ?_)
    | (go_at_call 56; go_loud (refine (last_any c vb V _ (HV.out.1.below HB0.out.1) HV.out.2.2).mono ?_; rintro e w1 ⟨rfl, hb1⟩; have HB1 : Hid (RowKit.Below w.heap.size w w1 ∧ Lc w1 w.heap.size c ∧ w.heap.size < w1.heap.size) := ⟨HB0.out.1.trans (hb1.mono HB0.out.1.size), HB0.out.2.keep (by simp) hb1, by have := hb1.size; simp at this; omega⟩; clear hb1)))
  clear hL0
  go_loopw [5, 10] (fun o i wr => ∃ (k : Nat) (s : Sv) (T : Nat → Nat), k ≤ V.length - 1 ∧ o = .slice s.1 s.2.1 s.2.2 ∧ i = .int .i64 (k : Int) ∧ Hid (Old w1 T wr ∧ OwnK kI 1 T wr (svV s) ((scs c V).take k))) (fun _ i _ => V.length - (intOf i).toNat)
  case atStart => exact ⟨0, nS, fun _ => 0, by omega, rfl, rfl, Old.first w1, OwnK.empty _ _ _⟩
  case round =>
    obtain ⟨k, ⟨ra, rn, rc⟩, T, hk, rfl, rfl, HX⟩ := hrel
    simp only at *
    rename World => wr
    by_cases hlt : k < V.length - 1
    · have q1 : (k : Int) < (V.length : Int) - 1 := by omega
      have hL1 : Lc wr w.heap.size c := HB1.out.2.1.keep HB1.out.2.2 HX.out.1.below
      have hsl : ((scs c V).take k).length = k := by rw [List.length_take, scs_len]; omega
      have hget : (scs c V)[k]? = some (scr c V k) := by
        unfold scs
        rw [List.getElem?_map, List.getElem?_range (by omega)]
        rfl
      have HF : Hid ((scs c V).take (k + 1) = (scs c V).take k ++ [scr c V k]) := by
        show _ = _
        rw [List.take_add_one, hget]; rfl
      go_wp2_with (first
        | (refine wpList_cfg (by rfl) _ (by rfl) (by rfl) hL1 ?_)
        | (go_at_call 57; go_loud (refine (score_any c vb V k _ (HV.out.1.below (HB1.out.1.trans (HX.out.1.below.mono HB1.out.1.size))) HV.out.2.1 HV.out.2.2 hlt).mono ?_; rintro e w2 ⟨rfl, hb2⟩; have HB2 : Hid (RowKit.Below wr.heap.size wr w2) := hb2; clear hb2))
        | (at_builtin; go_loud (refine wpList_appK kI _ (by rfl) (.tmp 13) (.tmp 18) 35 (by rfl) iz Tryz.underlying35 hi hz0 hz1 hz2 1 T (.slice ra rn rc) ((scs c V).take k) (by rfl) ((HX.out.2.below HB2.out).below ((Below.refl _ _).alloc (Nat.le_refl _) _)) (some ⟨w2.heap.size, 0, none⟩) 1 1 [scr c V k] (by rfl) rfl (by simp) (isK_int _ _) (by simp; omega) ?_; intro a' c' T' w3 ho3 hg3; have HY : Hid (OwnK kI 1 T' w3 (.slice a' (((scs c V).take k).length + 1) c') ((scs c V).take k ++ [scr c V k]) ∧ Goes (· = 1) T wr T' w3) := ⟨ho3, (Goes.below (t := (· = 1)) (HB2.out.alloc HB2.out.size _)).trans hg3⟩; clear ho3 hg3; simp only [List.length_singleton])))
      go_roundw
      case rel =>
        refine ⟨k + 1, (a', k + 1, c'), T', by omega, rfl, by go_num, HX.out.1.goes HY.out.2 (by decide), ?_⟩
        have h3 := HY.out.1
        rw [hsl] at h3
        rw [HF.out]
        exact h3
      case measure => simp [intOf]; omega
    · have q1 : ¬ (k : Int) < (V.length : Int) - 1 := by omega
      have HK : Hid ((scs c V).take k = scs c V) := by show _ = _; exact List.take_of_length_le (by rw [scs_len]; omega)
      go_wp2
      go_ret
      have h2 := HX.out.2
      rw [HK.out] at h2
      exact ⟨(ra, rn, rc), T, rfl, h2, old_back HB1.out.1 HX.out.1⟩
end Vr
end Go.Proofs.YtaejjpbpnedblaaGreat
namespace Go.Proofs.YtaejjpbpnedblaaGreat
namespace Vr
open Go.Shelf Go.RowKit Go.Lib Go.Sort Go.Maps Go.ChangeMaps Go.MapKept Laws Irw Crw
set_option linter.unusedVariables false
set_option linter.unusedSimpArgs false
set_option maxRecDepth 20000
/-- the pointer of a level -/
def ptr (ps : List ByteArray) (i : Nat) : ByteArray := (ps[i]?).getD ⟨#[]⟩
set_option maxHeartbeats 400000 in
theorem pointer_any (pa : Option Addr) (pc : Nat) (ps : List ByteArray) (i : Nat) (w : World) (h : Ls kT w (pa, ps.length, pc) ps) (hl : ps.length ≤ 1000000000) (hi : i ≤ 5) : Calls Tryz.prog 62 #[.slice pa ps.length pc, .int .i64 (i : Int)] w fun e w' => e = .returned (.string (ptr ps i)) ∧ w' = w := by
  by_cases hlt : i < ps.length
  · obtain ⟨b, off, e, _, hc⟩ := h.cell (List.getElem?_eq_getElem hlt)
    change pa = _ at e
    subst e
    have c0 := hc 0 _ rfl
    rw [show off + i * kT.size + 0 = off + i by show off + i * 1 + 0 = _; omega] at c0
    have q1 : ¬ (ps.length : Int) ≤ (i : Int) := by omega
    have q2 : (i : Int) < (ps.length : Int) := by omega
    have HP : Hid (ptr ps i = ps[i]) := by
      show _ = _
      unfold ptr
      rw [List.getElem?_eq_getElem hlt]; rfl
    clear hc h
    go_enter Tryz.func62, Tryz.ntmps62
    go_wp2
    go_ret
    exact ⟨by rw [HP.out]; rfl, rfl⟩
  · have q1 : (ps.length : Int) ≤ (i : Int) := by omega
    have HP : Hid (ptr ps i = ⟨#[]⟩) := by
      show _ = _
      unfold ptr
      rw [List.getElem?_eq_none (by omega)]; rfl
    clear h
    go_enter Tryz.func62, Tryz.ntmps62
    go_wp2
    go_ret
    exact ⟨by rw [HP.out]; rfl, rfl⟩
theorem enters89 : ∀ args w, (callFunc 88 args).run Tryz.prog w = .ok (.enter 88 args) w := enters_of Tryz.func88 (by kernel_rfl) rfl
set_option maxHeartbeats 400000 in
theorem behind1_any {w : World} {pb : Nat} {p : ByteArray} (hz : Zb w pb [.string p]) (W : World) (t : Tb) (hb : RowKit.Below w.heap.size w W) : Calls Tryz.prog 88 #[tbV t, .pointer (some ⟨pb, 0, none⟩)] W fun e w' => e = .returned (.bool (ltS p t.le)) ∧ RowKit.Below w.heap.size w w' := by
  have hb1 : RowKit.Below w.heap.size w (W.alloc (Obj.cells #[.int .u64 (t.no : Int), .int .i64 t.we, .int .i64 t.by_, .int .i64 t.en, .string t.le, .string t.gr] 76)) := hb.alloc hb.size _
  have c0 := (hz.below hb1).2.1 0 _ rfl
  have l1 := gtrS
  unfold tbV
  go_enter Tryz.func88, Tryz.ntmps88
  go_wp2
  go_ret
  exact ⟨rfl, hb1⟩
theorem idx_beh (l : List Tb) (p : ByteArray) : max (idx (fun t => ltS p t.le) l) 0 = (beh l p : Int) := by
  unfold idx beh
  cases l.findIdx? fun t => ltS p t.le with
  | none => rfl
  | some i => simp
theorem res_tb {fn : Func} {p : Tmp} (h : fn.results = #[.cell p 76]) (tmps : Array Value) (w : World) (B : Nat) (t : Tb) (hp : tmps.getD p undef = .pointer (some ⟨B, 0, none⟩)) (hz : Zb w B (tbC t)) :
    (results fn tmps).run Tryz.prog w = .ok (tbV t) w := by
  have c0 := hz.2.1 0 _ rfl
  have c1 := hz.2.1 1 _ rfl
  have c2 := hz.2.1 2 _ rfl
  have c3 := hz.2.1 3 _ rfl
  have c4 := hz.2.1 4 _ rfl
  have c5 := hz.2.1 5 _ rfl
  simp only [results, h]
  have hp' : tmps[p]?.getD undef = .pointer (some ⟨B, 0, none⟩) := by simpa using hp
  simp [Sem.run_bind, Result.andThen, hp', go_sem, c0, c1, c2, c3, c4, c5, tbV]
set_option maxHeartbeats 1000000 in
theorem behind_any (a : Option Addr) (c : Nat) (l : List Tb) (p : ByteArray) (w : World) (h : Ls kTb w (a, l.length, c) l) (hno : ∀ t ∈ l, t.no < U64) (hlen : l.length ≤ 1000000) (hpos : 0 < l.length) {t : Tb} (ht : l[beh l p]? = some t) :
    Calls Tryz.prog 61 #[.slice a l.length c, .string p] w fun e w' => e = .returned (tbV t) ∧ RowKit.Below w.heap.size w w' := by
  obtain ⟨W, hW⟩ : ∃ W, (w.alloc (Obj.cells #[.string p] 9)).alloc (Obj.cells #[.int .u64 0, .int .i64 0, .int .i64 0, .int .i64 0, .string ⟨#[]⟩, .string ⟨#[]⟩] 76) = W := ⟨_, rfl⟩
  have HW : Hid (RowKit.Below w.heap.size w W ∧ Zb W w.heap.size [.string p] ∧ Zb W (w.heap.size + 1) [.int .u64 0, .int .i64 0, .int .i64 0, .int .i64 0, .string ⟨#[]⟩, .string ⟨#[]⟩]) := by
    subst hW
    exact ⟨((Below.refl _ _).alloc (Nat.le_refl _) _).alloc (by simp) _, (Zb.new w #[.string p] 9).below ((Below.refl _ _).alloc (Nat.le_refl _) _), by simpa using Zb.new (w.alloc (Obj.cells #[.string p] 9)) #[.int .u64 0, .int .i64 0, .int .i64 0, .int .i64 0, .string ⟨#[]⟩, .string ⟨#[]⟩] 76⟩
  have HC : Hid (Calls Tryz.prog 87 #[.slice a l.length c, .func (.func 88) #[] #[.pointer (some ⟨w.heap.size, 0, none⟩)]] W fun e w' => e = .returned (.int .i64 (idx (fun t => ltS p t.le) l)) ∧ RowKit.Below W.heap.size W w') :=
    indexFunc_any a c l 88 #[.pointer (some ⟨w.heap.size, 0, none⟩)] (fun t => ltS p t.le) W enters89 (h.below HW.out.1) hno hlen (fun W' t _ hb => behind1_any HW.out.2.1 W' t hb)
  have HL : Hid (Ls kTb w (a, l.length, c) l ∧ l[beh l p]? = some t) := ⟨h, ht⟩
  have q1 := idx_beh l p
  have hbl := beh_lt p hpos
  obtain ⟨k, hk⟩ : ∃ k, beh l p = k := ⟨_, rfl⟩
  rw [hk] at q1 hbl HL
  have q2 : (k : Int) < (l.length : Int) := by omega
  clear h ht hk hno
  go_enter Tryz.func61, Tryz.ntmps61
  go_upto_region 2 with (go_at_call 87; go_loud ((try rw [hW]); refine HC.out.mono ?_; rintro e w1 ⟨rfl, hb1⟩; have HB1 : Hid (RowKit.Below w.heap.size w w1 ∧ Zb w1 (w.heap.size + 1) [.int .u64 0, .int .i64 0, .int .i64 0, .int .i64 0, .string ⟨#[]⟩, .string ⟨#[]⟩]) := ⟨HW.out.1.trans (hb1.mono HW.out.1.size), HW.out.2.2.below hb1⟩; clear hb1))
  clear hW HC
  obtain ⟨b, off, rfl, hb, t', ht', y0, y1, y2, y3, y4, y5⟩ := (HL.out.1.below HB1.out.1).tb hbl
  have ett : t' = t := by rw [HL.out.2] at ht'; cases ht'; rfl
  subst ett
  have z0 := HB1.out.2.2.1 0 _ rfl
  have z1 := HB1.out.2.2.1 1 _ rfl
  have z2 := HB1.out.2.2.1 2 _ rfl
  have z3 := HB1.out.2.2.1 3 _ rfl
  have z4 := HB1.out.2.2.1 4 _ rfl
  have z5 := HB1.out.2.2.1 5 _ rfl
  have f0 := HB1.out.2.2.2
  clear ht'
  have HZZ : Hid (Zb (sets w1 (w.heap.size + 1) 0 (tbC t')) (w.heap.size + 1) (tbC t') ∧ RowKit.Below w.heap.size w (sets w1 (w.heap.size + 1) 0 (tbC t'))) := ⟨HB1.out.2.sets (by simp [tbC]), sets_below (w0 := w) (w := w1) (w.heap.size + 1) (by omega) (tbC t') 0 HB1.out.1⟩
  go_wp2
  exact bodyPost_ret (res_tb rfl _ _ (w.heap.size + 1) t' rfl HZZ.out.1) rfl ⟨rfl, HZZ.out.2⟩
end Vr
end Go.Proofs.YtaejjpbpnedblaaGreat
namespace Go.Proofs.YtaejjpbpnedblaaGreat
namespace Vr
open Go.Shelf Go.RowKit Go.Lib Go.Sort Go.Maps Go.ChangeMaps Go.MapKept Laws Irw Crw
set_option linter.unusedVariables false
set_option linter.unusedSimpArgs false
set_option maxRecDepth 20000
/-- a job -/
structure Jb where
  lv : Int
  up : List Tb
  lo : List Tb
  cut : ByteArray
  mv : Bool
def noJ : Jb := ⟨0, [], [], ⟨#[]⟩, false⟩
def jbC (lv : Int) (us ls : Sv) (cut : ByteArray) (mv : Bool) : List Value := [.int .i64 lv, .slice us.1 us.2.1 us.2.2, .slice ls.1 ls.2.1 ls.2.2, .string cut, .bool mv]
def jbV (lv : Int) (us ls : Sv) (cut : ByteArray) (mv : Bool) : Value := .agg #[.int .i64 lv, .slice us.1 us.2.1 us.2.2, .slice ls.1 ls.2.1 ls.2.2, .string cut, .bool mv]
/-- a job as it lies -/
def JAt (w : World) (us ls : Sv) (j : Jb) : Prop := Ls kTb w us j.up ∧ Ls kTb w ls j.lo
theorem JAt.below {w w' : World} {us ls : Sv} {j : Jb} (h : JAt w us ls j) (hb : RowKit.Below w.heap.size w w') : JAt w' us ls j := ⟨h.1.below hb, h.2.below hb⟩
def JbIs (w : World) (j : Jb) (e : Ending) (w' : World) : Prop := ∃ us ls : Sv, e = .returned (jbV j.lv us ls j.cut j.mv) ∧ JAt w' us ls j ∧ RowKit.Below w.heap.size w w'
/-- .. of new memory -/
def DnIs (w : World) (j : Jb) (e : Ending) (w' : World) : Prop := ∃ us ls : Sv, e = .returned (jbV j.lv us ls j.cut j.mv) ∧ JAt w' us ls j ∧ RowKit.Below w.heap.size w w' ∧ (∀ b off, us.1 = some ⟨b, off, none⟩ → w.heap.size ≤ b ∧ b < w'.heap.size) ∧ ∀ b off, ls.1 = some ⟨b, off, none⟩ → w.heap.size ≤ b ∧ b < w'.heap.size
theorem res_jb {fn : Func} {p : Tmp} (h : fn.results = #[.cell p 62]) (tmps : Array Value) (w : World) (B : Nat) (lv : Int) (us ls : Sv) (cut : ByteArray) (mv : Bool) (hp : tmps.getD p undef = .pointer (some ⟨B, 0, none⟩)) (hz : Zb w B (jbC lv us ls cut mv)) :
    (results fn tmps).run Tryz.prog w = .ok (jbV lv us ls cut mv) w := by
  have c0 := hz.2.1 0 _ rfl
  have c1 := hz.2.1 1 _ rfl
  have c2 := hz.2.1 2 _ rfl
  have c3 := hz.2.1 3 _ rfl
  have c4 := hz.2.1 4 _ rfl
  simp only [results, h]
  have hp' : tmps[p]?.getD undef = .pointer (some ⟨B, 0, none⟩) := by simpa using hp
  simp [Sem.run_bind, Result.andThen, hp', go_sem, c0, c1, c2, c3, c4, jbV]
/-- what a table's job is -/
def dn (f : Nat) (V : Lv) (i : Nat) (t : Tb) : Jb :=
  let lo := (lev V ((i : Int) + 1)).filter (over t.le t.gr)
  ⟨(i : Int), [t], lo.take f, if f < lo.length then (lo.getD f noT).le else ⟨#[]⟩, false⟩
theorem ls_one (w : World) (t : Tb) : Ls kTb (w.alloc (.cells #[.int .u64 (t.no : Int), .int .i64 t.we, .int .i64 t.by_, .int .i64 t.en, .string t.le, .string t.gr] 76)) (some ⟨w.heap.size, 0, none⟩, 1, 1) [t] := ⟨isK_new w t, rfl, by simp, Nat.le_refl _, .inr ⟨_, _, rfl⟩⟩
theorem Ls.take {w : World} {g n c m : Nat} {l : List Tb} (h : Ls kTb w (some ⟨g, 0, none⟩, n, c) l) (hm : m ≤ l.length) : Ls kTb w (some ⟨g, 0, none⟩, m, m) (l.take m) := by
  refine ⟨fun hne => ?_, by show m = _; rw [List.length_take, Nat.min_eq_left hm], by simp, by show _ ≤ m; rw [List.length_take]; exact Nat.min_le_left _ _, .inr ⟨_, _, rfl⟩⟩
  obtain ⟨b, off, e, hr⟩ := h.1 (by rintro rfl; simp at hne)
  refine ⟨b, off, e, hr.1, fun i x hx j u hu => hr.2 i x ?_ j u hu⟩
  rw [List.getElem?_take] at hx
  split at hx
  · exact hx
  · cases hx
theorem Ls.keep {α : Type} {K : Knd α} {w w' : World} {s : Sv} {l : List α} (h : Ls K w s l) (hk : ∀ b off, s.1 = some ⟨b, off, none⟩ → b < w.heap.size → w'.heap[b]? = w.heap[b]?) (hs : w.heap.size ≤ w'.heap.size) : Ls K w' s l :=
  ⟨h.1.keep (fun b hb ⟨off, e⟩ => hk b off e hb) hs, h.2⟩
/-- the blocks of down -/
structure Dw (w W : World) (c : Cf) (t : Tb) (i : Nat) : Prop where
  b : RowKit.Below w.heap.size w W
  lc : Lc W w.heap.size c
  tb : Zb W (w.heap.size + 1) (tbC t)
  r : Zb W (w.heap.size + 1 + 1) (jbC 0 nS nS ⟨#[]⟩ false)
  u : Ls kTb W (some ⟨w.heap.size + 1 + 1 + 1, 0, none⟩, 1, 1) [t]
  j : Zb W (w.heap.size + 1 + 1 + 1 + 1) (jbC (i : Int) (some ⟨w.heap.size + 1 + 1 + 1, 0, none⟩, 1, 1) nS ⟨#[]⟩ false)
  s : W.heap.size = w.heap.size + 1 + 1 + 1 + 1 + 1
theorem dw_new (w : World) (c : Cf) (t : Tb) (i : Nat) : Dw w (((((w.alloc (Obj.cells (cfgA c) 23)).alloc (Obj.cells #[.int .u64 (t.no : Int), .int .i64 t.we, .int .i64 t.by_, .int .i64 t.en, .string t.le, .string t.gr] 76)).alloc (Obj.cells #[.int .i64 0, .slice none 0 0, .slice none 0 0, .string ⟨#[]⟩, .bool false] 62)).alloc (Obj.cells #[.int .u64 (t.no : Int), .int .i64 t.we, .int .i64 t.by_, .int .i64 t.en, .string t.le, .string t.gr] 76)).alloc (Obj.cells #[.int .i64 (i : Int), .slice (some ⟨w.heap.size + 1 + 1 + 1, 0, none⟩) 1 1, .slice none 0 0, .string ⟨#[]⟩, .bool false] 62)) c t i := by
  have st : ∀ (W : World) (o : Obj), RowKit.Below W.heap.size W (W.alloc o) := fun W o => (Below.refl _ _).alloc (Nat.le_refl _) _
  have sz : ∀ (W : World) (o : Obj), (W.alloc o).heap.size = W.heap.size + 1 := fun W o => (by show (W.heap.push o).size = _; rw [Array.size_push])
  have h1 := lc_new w c 23
  have g1 := st w (Obj.cells (cfgA c) 23)
  have z1 : w.heap.size < (w.alloc (Obj.cells (cfgA c) 23)).heap.size := by rw [sz]; omega
  have e1 := sz w (Obj.cells (cfgA c) 23)
  generalize w.alloc (Obj.cells (cfgA c) 23) = W1 at *
  have h2 := Zb.new W1 #[.int .u64 (t.no : Int), .int .i64 t.we, .int .i64 t.by_, .int .i64 t.en, .string t.le, .string t.gr] 76
  have g2 := st W1 (Obj.cells #[.int .u64 (t.no : Int), .int .i64 t.we, .int .i64 t.by_, .int .i64 t.en, .string t.le, .string t.gr] 76)
  have e2 := sz W1 (Obj.cells #[.int .u64 (t.no : Int), .int .i64 t.we, .int .i64 t.by_, .int .i64 t.en, .string t.le, .string t.gr] 76)
  generalize W1.alloc (Obj.cells #[.int .u64 (t.no : Int), .int .i64 t.we, .int .i64 t.by_, .int .i64 t.en, .string t.le, .string t.gr] 76) = W2 at *
  have h3 := Zb.new W2 #[.int .i64 0, .slice none 0 0, .slice none 0 0, .string ⟨#[]⟩, .bool false] 62
  have g3 := st W2 (Obj.cells #[.int .i64 0, .slice none 0 0, .slice none 0 0, .string ⟨#[]⟩, .bool false] 62)
  have e3 := sz W2 (Obj.cells #[.int .i64 0, .slice none 0 0, .slice none 0 0, .string ⟨#[]⟩, .bool false] 62)
  generalize W2.alloc (Obj.cells #[.int .i64 0, .slice none 0 0, .slice none 0 0, .string ⟨#[]⟩, .bool false] 62) = W3 at *
  have h4 := ls_one W3 t
  have g4 := st W3 (Obj.cells #[.int .u64 (t.no : Int), .int .i64 t.we, .int .i64 t.by_, .int .i64 t.en, .string t.le, .string t.gr] 76)
  have e4 := sz W3 (Obj.cells #[.int .u64 (t.no : Int), .int .i64 t.we, .int .i64 t.by_, .int .i64 t.en, .string t.le, .string t.gr] 76)
  generalize W3.alloc (Obj.cells #[.int .u64 (t.no : Int), .int .i64 t.we, .int .i64 t.by_, .int .i64 t.en, .string t.le, .string t.gr] 76) = W4 at *
  have h5 := Zb.new W4 #[.int .i64 (i : Int), .slice (some ⟨w.heap.size + 1 + 1 + 1, 0, none⟩) 1 1, .slice none 0 0, .string ⟨#[]⟩, .bool false] 62
  have g5 := st W4 (Obj.cells #[.int .i64 (i : Int), .slice (some ⟨w.heap.size + 1 + 1 + 1, 0, none⟩) 1 1, .slice none 0 0, .string ⟨#[]⟩, .bool false] 62)
  have e5 := sz W4 (Obj.cells #[.int .i64 (i : Int), .slice (some ⟨w.heap.size + 1 + 1 + 1, 0, none⟩) 1 1, .slice none 0 0, .string ⟨#[]⟩, .bool false] 62)
  generalize W4.alloc (Obj.cells #[.int .i64 (i : Int), .slice (some ⟨w.heap.size + 1 + 1 + 1, 0, none⟩) 1 1, .slice none 0 0, .string ⟨#[]⟩, .bool false] 62) = W5 at *
  have k45 := g5
  have k35 := g4.trans (g5.mono g4.size)
  have k25 := g3.trans (k35.mono g3.size)
  have k15 := g2.trans (k25.mono g2.size)
  have k05 := g1.trans (k15.mono g1.size)
  rw [e1] at h2
  rw [show W2.heap.size = w.heap.size + 1 + 1 by omega] at h3
  rw [show W3.heap.size = w.heap.size + 1 + 1 + 1 by omega] at h4
  rw [show W4.heap.size = w.heap.size + 1 + 1 + 1 + 1 by omega] at h5
  exact ⟨k05, h1.keep z1 k15, h2.below k25, h3.below k35, h4.below k45, h5, by omega⟩
theorem Dw.below {w W W' : World} {c : Cf} {t : Tb} {i : Nat} (h : Dw w W c t i) (hb : RowKit.Below W.heap.size W W') : RowKit.Below w.heap.size w W' ∧ Lc W' w.heap.size c ∧ Zb W' (w.heap.size + 1 + 1) (jbC 0 nS nS ⟨#[]⟩ false) ∧ Ls kTb W' (some ⟨w.heap.size + 1 + 1 + 1, 0, none⟩, 1, 1) [t] ∧ Zb W' (w.heap.size + 1 + 1 + 1 + 1) (jbC (i : Int) (some ⟨w.heap.size + 1 + 1 + 1, 0, none⟩, 1, 1) nS ⟨#[]⟩ false) :=
  ⟨h.b.trans (hb.mono h.b.size), h.lc.keep (by rw [h.s]; omega) hb, h.r.below hb, h.u.below hb, h.j.below hb⟩
/-- the end of down -/
theorem down_end {w W w6 w7 : World} {c : Cf} {t : Tb} {i : Nat} {ls : Sv} {lo : List Tb} {cut : ByteArray} (h : Dw w W c t i) (hb : RowKit.Below W.heap.size W w6) (hlo : Ls kTb w6 ls lo) (hge : ∀ b off, ls.1 = some ⟨b, off, none⟩ → W.heap.size ≤ b) (h7 : Zb w7 (w.heap.size + 1 + 1 + 1 + 1) (jbC (i : Int) (some ⟨w.heap.size + 1 + 1 + 1, 0, none⟩, 1, 1) ls cut false)) (hk : ∀ b, b ≠ w.heap.size + 1 + 1 + 1 + 1 → w7.heap[b]? = w6.heap[b]?) (hs : w7.heap.size = w6.heap.size) (hb7 : RowKit.Below w.heap.size w w7) :
    Zb (sets w7 (w.heap.size + 1 + 1) 0 (jbC (i : Int) (some ⟨w.heap.size + 1 + 1 + 1, 0, none⟩, 1, 1) ls cut false)) (w.heap.size + 1 + 1) (jbC (i : Int) (some ⟨w.heap.size + 1 + 1 + 1, 0, none⟩, 1, 1) ls cut false) ∧
    JAt (sets w7 (w.heap.size + 1 + 1) 0 (jbC (i : Int) (some ⟨w.heap.size + 1 + 1 + 1, 0, none⟩, 1, 1) ls cut false)) (some ⟨w.heap.size + 1 + 1 + 1, 0, none⟩, 1, 1) ls ⟨(i : Int), [t], lo, cut, false⟩ ∧
    RowKit.Below w.heap.size w (sets w7 (w.heap.size + 1 + 1) 0 (jbC (i : Int) (some ⟨w.heap.size + 1 + 1 + 1, 0, none⟩, 1, 1) ls cut false)) := by
  obtain ⟨d1, d2, d3, d4, d5⟩ := h.below hb
  have hz2 : Zb w7 (w.heap.size + 1 + 1) (jbC 0 nS nS ⟨#[]⟩ false) := d3.keep (hk _ (by omega)) (by omega)
  have hblk : ∀ b, b ≠ w.heap.size + 1 + 1 + 1 + 1 → b ≠ w.heap.size + 1 + 1 → (sets w7 (w.heap.size + 1 + 1) 0 (jbC (i : Int) (some ⟨w.heap.size + 1 + 1 + 1, 0, none⟩, 1, 1) ls cut false)).heap[b]? = w6.heap[b]? := fun b h1 h2 => (sets_block w7 _ b h2 _ 0).trans (hk b h1)
  have hsz : w6.heap.size ≤ (sets w7 (w.heap.size + 1 + 1) 0 (jbC (i : Int) (some ⟨w.heap.size + 1 + 1 + 1, 0, none⟩, 1, 1) ls cut false)).heap.size := by rw [sets_size]; omega
  refine ⟨hz2.sets (by simp [jbC]), ⟨d4.keep (fun b off e _ => ?_) hsz, hlo.keep (fun b off e _ => ?_) hsz⟩, sets_below _ (by omega) _ 0 hb7⟩
  · simp only [Option.some.injEq, Addr.mk.injEq] at e
    exact hblk b (by omega) (by omega)
  · have := hge b off e
    have h5 := h.s
    exact hblk b (by omega) (by omega)
set_option maxHeartbeats 4000000 in
theorem down_any (c : Cf) (vb : Nat) (V : Lv) (t : Tb) (i f : Nat) (w : World) (h : VAt w vb V) (hf : c 12 = f) (hf1 : 1 ≤ f ∧ f ≤ 16) (hi : i ≤ 5) : Calls Tryz.prog 60 #[.agg (cfgA c), .pointer (some ⟨vb, 0, none⟩), tbV t, .int .i64 (i : Int)] w fun e w' => DnIs w (dn f V i t) e w' := by
  have hlen := h.1.len ((i : Int) + 1)
  have hb0 : RowKit.Below w.heap.size w (w.alloc (Obj.cells (cfgA c) 23)) := (Below.refl _ _).alloc (Nat.le_refl _) _
  have hL0 : (cfgA c).toList[12]? = some (.int .i64 (f : Int)) := by rw [← hf]; rfl
  have q1 : IntKind.i64.wrap ((i : Int) + 1) = (i : Int) + 1 := IntWalk.i64_in _ (by omega)
  have q2 : max (0 : Int) (f : Int) = (f : Int) := by omega
  have HV : Hid (VAt w vb V) := h
  have HLC : Hid (Lc (w.alloc (Obj.cells (cfgA c) 23)) w.heap.size c ∧ RowKit.Below w.heap.size w (w.alloc (Obj.cells (cfgA c) 23)) ∧ (cfgA c).toList[12]? = some (.int .i64 (f : Int))) := ⟨lc_new w c 23, hb0, hL0⟩
  clear h hb0 hL0 hf
  unfold tbV
  go_enter Tryz.func60, Tryz.ntmps60
  go_upto_region 2 with (fail)
  obtain ⟨W, hW⟩ : ∃ X, ((((w.alloc (Obj.cells (cfgA c) 23)).alloc (Obj.cells #[.int .u64 (t.no : Int), .int .i64 t.we, .int .i64 t.by_, .int .i64 t.en, .string t.le, .string t.gr] 76)).alloc (Obj.cells #[.int .i64 0, .slice none 0 0, .slice none 0 0, .string ⟨#[]⟩, .bool false] 62)).alloc (Obj.cells #[.int .u64 (t.no : Int), .int .i64 t.we, .int .i64 t.by_, .int .i64 t.en, .string t.le, .string t.gr] 76)).alloc (Obj.cells #[.int .i64 (i : Int), .slice (some ⟨w.heap.size + 1 + 1 + 1, 0, none⟩) 1 1, .slice none 0 0, .string ⟨#[]⟩, .bool false] 62) = X := ⟨_, rfl⟩
  have HD : Hid (Dw w W c t i) := by rw [← hW]; exact dw_new w c t i
  rw [hW]
  clear hW
  have y4 := HD.out.tb.2.1 4 _ rfl
  have y5 := HD.out.tb.2.1 5 _ rfl
  obtain ⟨lo, hlo⟩ : ∃ x, (lev V ((i : Int) + 1)).filter (over t.le t.gr) = x := ⟨_, rfl⟩
  have hll : lo.length ≤ 1000000 := by rw [← hlo]; exact Nat.le_trans (List.length_filter_le _ _) hlen
  have HOV : Hid (Calls Tryz.prog 86 #[.pointer (some ⟨vb, 0, none⟩), .int .i64 ((i : Int) + 1), .string t.le, .string t.gr] W fun e w' => OwnIs W lo e w') := by
    have := overlap_any vb V ((i : Int) + 1) t.le t.gr W (HV.out.below HD.out.b)
    rw [hlo] at this
    exact this
  have HDN : Hid (dn f V i t = ⟨(i : Int), [t], lo.take f, if f < lo.length then (lo.getD f noT).le else ⟨#[]⟩, false⟩) := by
    show _ = _
    unfold dn
    rw [hlo]
  clear hlo
  go_upto_region 3 with (go_at_call 86; go_loud (refine HOV.out.mono ?_; rintro e w6 ⟨⟨sa, sn, sc⟩, T, rfl, ho, hold⟩; have HO : Hid (OwnK kTb 1 T w6 (.slice sa sn sc) lo ∧ Old W T w6) := ⟨ho, hold⟩; have hsn := (OwnK.sk ho).1; change sn = lo.length at hsn; subst hsn; clear ho hold; simp only [svV]))
  clear HOV y4 y5
  have HX : Hid _ := HD.out.below HO.out.2.below
  have f12 := HX.out.2.1.cell 12 HLC.out.2.2
  have hge : Hid (∀ b off, sa = some ⟨b, off, none⟩ → W.heap.size ≤ b) := fun b off e => by
    obtain ⟨_, _, _, _, _, h6⟩ := OwnK.sk (s := (sa, lo.length, sc)) HO.out.1
    have := (h6 b off e).1
    rcases Nat.lt_or_ge b W.heap.size with hb | hb
    · have := HO.out.2.zero b (.inl hb); omega
    · exact hb
  have z0 := HX.out.2.2.2.2.2.1 0 _ rfl
  have z1 := HX.out.2.2.2.2.2.1 1 _ rfl
  have z2 := HX.out.2.2.2.2.2.1 2 _ rfl
  have z3 := HX.out.2.2.2.2.2.1 3 _ rfl
  have z4 := HX.out.2.2.2.2.2.1 4 _ rfl
  have g0 := HX.out.2.2.2.2.2.2
  have r0 := HX.out.2.2.1.2.1 0 _ rfl
  have r1 := HX.out.2.2.1.2.1 1 _ rfl
  have r2 := HX.out.2.2.1.2.1 2 _ rfl
  have r3 := HX.out.2.2.1.2.1 3 _ rfl
  have r4 := HX.out.2.2.1.2.1 4 _ rfl
  have s0 := HX.out.2.2.1.2.2
  by_cases hcut : f < lo.length
  · have q3 : (f : Int) < (lo.length : Int) := by omega
    obtain ⟨g, off, e, hb, x, hx, y0, y1, y2, y3, y4, y5⟩ := (Ls.own (s := (sa, lo.length, sc)) HO.out.1).tb hcut
    subst e
    have hoff : off = 0 := by
      rcases HO.out.1.1.2 with ⟨h1, _⟩ | ⟨g', cap, cur, hv, _⟩
      · cases h1
      · cases hv; rfl
    subst hoff
    rw [Nat.zero_add] at y0 y1 y2 y3 y4 y5
    have q4 : (f : Int) ≤ (sc : Int) := by
      have := (OwnK.sk (s := (some ⟨g, 0, none⟩, lo.length, sc)) HO.out.1).2.2.1
      change lo.length ≤ sc at this
      omega
    have q5 : (0 : Int) ≤ (f : Int) := by omega
    have HE : Hid (Zb ((w6.setCell ⟨w.heap.size + 1 + 1 + 1 + 1, 3, none⟩ (.string x.le)).setCell ⟨w.heap.size + 1 + 1 + 1 + 1, 2, none⟩ (.slice (some ⟨g, 0, none⟩) f f)) (w.heap.size + 1 + 1 + 1 + 1) (jbC (i : Int) (some ⟨w.heap.size + 1 + 1 + 1, 0, none⟩, 1, 1) (some ⟨g, 0, none⟩, f, f) x.le false)) := (HX.out.2.2.2.2.set 3 (.string x.le)).set 2 _
    have HEND : Hid _ := down_end HD.out HO.out.2.below (Ls.take (Ls.own (s := (some ⟨g, 0, none⟩, lo.length, sc)) HO.out.1) (show f ≤ lo.length by omega)) (fun b off e => hge.out b off (by simpa using e)) HE.out (fun b hb => (Below.heap_setCell _ _ _ b (fun e => hb e)).trans (Below.heap_setCell w6 _ _ b (fun e => hb e))) (by simp) ((HX.out.1.setCell (p := ⟨w.heap.size + 1 + 1 + 1 + 1, 3, none⟩) (show w.heap.size ≤ w.heap.size + 1 + 1 + 1 + 1 by omega) _).setCell (p := ⟨w.heap.size + 1 + 1 + 1 + 1, 2, none⟩) (show w.heap.size ≤ w.heap.size + 1 + 1 + 1 + 1 by omega) _)
    go_wp2
    refine bodyPost_ret (res_jb rfl _ _ (w.heap.size + 1 + 1) (i : Int) (some ⟨w.heap.size + 1 + 1 + 1, 0, none⟩, 1, 1) (some ⟨g, 0, none⟩, f, f) x.le false rfl HEND.out.1) rfl ?_
    rw [HDN.out, if_pos hcut, show lo.getD f noT = x by rw [List.getD, hx]; rfl]
    refine ⟨_, _, rfl, HEND.out.2.1, HEND.out.2.2, fun b off e => ?_, fun b off e => ?_⟩
    · simp only [Option.some.injEq, Addr.mk.injEq] at e
      have h5 := HD.out.s
      have h6 := HO.out.2.below.size
      simp
      omega
    · have h9 := hge.out b off (by simpa using e)
      have h5 := HD.out.s
      have h7 := ((OwnK.sk (s := (some ⟨g, 0, none⟩, lo.length, sc)) HO.out.1).2.2.2.2.2 b off (by simpa using e)).2
      simp
      omega
  · have q3 : ¬ (f : Int) < (lo.length : Int) := by omega
    have HE : Hid (Zb (w6.setCell ⟨w.heap.size + 1 + 1 + 1 + 1, 2, none⟩ (.slice sa lo.length sc)) (w.heap.size + 1 + 1 + 1 + 1) (jbC (i : Int) (some ⟨w.heap.size + 1 + 1 + 1, 0, none⟩, 1, 1) (sa, lo.length, sc) ⟨#[]⟩ false)) := HX.out.2.2.2.2.set 2 _
    have HEND : Hid _ := down_end HD.out HO.out.2.below (Ls.own (s := (sa, lo.length, sc)) HO.out.1) hge.out HE.out (fun b hb => Below.heap_setCell w6 _ _ b (fun e => hb e)) (by simp) (HX.out.1.setCell (p := ⟨w.heap.size + 1 + 1 + 1 + 1, 2, none⟩) (show w.heap.size ≤ w.heap.size + 1 + 1 + 1 + 1 by omega) _)
    go_wp2
    refine bodyPost_ret (res_jb rfl _ _ (w.heap.size + 1 + 1) (i : Int) (some ⟨w.heap.size + 1 + 1 + 1, 0, none⟩, 1, 1) (sa, lo.length, sc) ⟨#[]⟩ false rfl HEND.out.1) rfl ?_
    rw [HDN.out, if_neg hcut, List.take_of_length_le (by omega)]
    refine ⟨_, _, rfl, HEND.out.2.1, HEND.out.2.2, fun b off e => ?_, fun b off e => ?_⟩
    · simp only [Option.some.injEq, Addr.mk.injEq] at e
      have h5 := HD.out.s
      have h6 := HO.out.2.below.size
      simp
      omega
    · have h9 := hge.out b off (by simpa using e)
      have h5 := HD.out.s
      have h7 := ((OwnK.sk (s := (sa, lo.length, sc)) HO.out.1).2.2.2.2.2 b off (by simpa using e)).2
      simp
      omega
end Vr
end Go.Proofs.YtaejjpbpnedblaaGreat
