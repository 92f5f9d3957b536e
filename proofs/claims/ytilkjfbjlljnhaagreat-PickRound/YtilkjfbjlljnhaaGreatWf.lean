import Derived.Test.YtilkjfbjlljnhaaGreatWe
namespace Go.Proofs.YtilkjfbjlljnhaaGreat
namespace Vr
open Go.Shelf Go.RowKit Go.Lib Go.Sort Go.Maps Go.ChangeMaps Go.MapKept Laws Irw Crw
set_option linter.unusedVariables false
set_option linter.unusedSimpArgs false
set_option maxRecDepth 20000
/-- a job -/
structure Jb where
  lv : Int
  up : List Tb
  lo : List Tb
  cut : ByteArray
  mv : Bool
def noJ : Jb := ⟨0, [], [], ⟨#[]⟩, false⟩
def jbC (lv : Int) (us ls : Sv) (cut : ByteArray) (mv : Bool) : List Value := [.int .i64 lv, .slice us.1 us.2.1 us.2.2, .slice ls.1 ls.2.1 ls.2.2, .string cut, .bool mv]
def jbV (lv : Int) (us ls : Sv) (cut : ByteArray) (mv : Bool) : Value := .agg #[.int .i64 lv, .slice us.1 us.2.1 us.2.2, .slice ls.1 ls.2.1 ls.2.2, .string cut, .bool mv]
/-- a job as it lies -/
def JAt (w : World) (us ls : Sv) (j : Jb) : Prop := Ls kTb w us j.up ∧ Ls kTb w ls j.lo
theorem JAt.below {w w' : World} {us ls : Sv} {j : Jb} (h : JAt w us ls j) (hb : RowKit.Below w.heap.size w w') : JAt w' us ls j := ⟨h.1.below hb, h.2.below hb⟩
def JbIs (w : World) (j : Jb) (e : Ending) (w' : World) : Prop := ∃ us ls : Sv, e = .returned (jbV j.lv us ls j.cut j.mv) ∧ JAt w' us ls j ∧ RowKit.Below w.heap.size w w'
/-- .. of new memory -/
def DnIs (w : World) (j : Jb) (e : Ending) (w' : World) : Prop := ∃ us ls : Sv, e = .returned (jbV j.lv us ls j.cut j.mv) ∧ JAt w' us ls j ∧ RowKit.Below w.heap.size w w' ∧ (∀ b off, us.1 = some ⟨b, off, none⟩ → w.heap.size ≤ b ∧ b < w'.heap.size) ∧ ∀ b off, ls.1 = some ⟨b, off, none⟩ → w.heap.size ≤ b ∧ b < w'.heap.size
theorem res_jb {fn : Func} {p : Tmp} (h : fn.results = #[.cell p 37]) (tmps : Array Value) (w : World) (B : Nat) (lv : Int) (us ls : Sv) (cut : ByteArray) (mv : Bool) (hp : tmps.getD p undef = .pointer (some ⟨B, 0, none⟩)) (hz : Zb w B (jbC lv us ls cut mv)) :
    (results fn tmps).run Tryz.prog w = .ok (jbV lv us ls cut mv) w := by
  have c0 := hz.2.1 0 _ rfl
  have c1 := hz.2.1 1 _ rfl
  have c2 := hz.2.1 2 _ rfl
  have c3 := hz.2.1 3 _ rfl
  have c4 := hz.2.1 4 _ rfl
  simp only [results, h]
  have hp' : tmps[p]?.getD undef = .pointer (some ⟨B, 0, none⟩) := by simpa using hp
  simp [Sem.run_bind, Result.andThen, hp', go_sem, c0, c1, c2, c3, c4, jbV]
/-- what a table's job is -/
def dn (f : Nat) (V : Lv) (i : Nat) (t : Tb) : Jb :=
  let lo := (lev V ((i : Int) + 1)).filter (over t.le t.gr)
  ⟨(i : Int), [t], lo.take f, if f < lo.length then (lo.getD f noT).le else ⟨#[]⟩, false⟩
theorem ls_one (w : World) (t : Tb) : Ls kTb (w.alloc (.cells #[.int .u64 (t.no : Int), .int .i64 t.we, .int .i64 t.by_, .int .i64 t.en, .string t.le, .string t.gr] 43)) (some ⟨w.heap.size, 0, none⟩, 1, 1) [t] := ⟨isK_new w t, rfl, by simp, Nat.le_refl _, .inr ⟨_, _, rfl⟩⟩
theorem Ls.take {w : World} {g n c m : Nat} {l : List Tb} (h : Ls kTb w (some ⟨g, 0, none⟩, n, c) l) (hm : m ≤ l.length) : Ls kTb w (some ⟨g, 0, none⟩, m, m) (l.take m) := by
  refine ⟨fun hne => ?_, by show m = _; rw [List.length_take, Nat.min_eq_left hm], by simp, by show _ ≤ m; rw [List.length_take]; exact Nat.min_le_left _ _, .inr ⟨_, _, rfl⟩⟩
  obtain ⟨b, off, e, hr⟩ := h.1 (by rintro rfl; simp at hne)
  refine ⟨b, off, e, hr.1, fun i x hx j u hu => hr.2 i x ?_ j u hu⟩
  rw [List.getElem?_take] at hx
  split at hx
  · exact hx
  · cases hx
theorem Ls.keep {α : Type} {K : Knd α} {w w' : World} {s : Sv} {l : List α} (h : Ls K w s l) (hk : ∀ b off, s.1 = some ⟨b, off, none⟩ → b < w.heap.size → w'.heap[b]? = w.heap[b]?) (hs : w.heap.size ≤ w'.heap.size) : Ls K w' s l :=
  ⟨h.1.keep (fun b hb ⟨off, e⟩ => hk b off e hb) hs, h.2⟩
/-- the blocks of down -/
structure Dw (w W : World) (c : Cf) (t : Tb) (i : Nat) : Prop where
  b : RowKit.Below w.heap.size w W
  lc : Lc W w.heap.size c
  tb : Zb W (w.heap.size + 1) (tbC t)
  r : Zb W (w.heap.size + 1 + 1) (jbC 0 nS nS ⟨#[]⟩ false)
  u : Ls kTb W (some ⟨w.heap.size + 1 + 1 + 1, 0, none⟩, 1, 1) [t]
  j : Zb W (w.heap.size + 1 + 1 + 1 + 1) (jbC (i : Int) (some ⟨w.heap.size + 1 + 1 + 1, 0, none⟩, 1, 1) nS ⟨#[]⟩ false)
  s : W.heap.size = w.heap.size + 1 + 1 + 1 + 1 + 1
theorem dw_new (w : World) (c : Cf) (t : Tb) (i : Nat) : Dw w (((((w.alloc (Obj.cells (cfgA c) 23)).alloc (Obj.cells #[.int .u64 (t.no : Int), .int .i64 t.we, .int .i64 t.by_, .int .i64 t.en, .string t.le, .string t.gr] 43)).alloc (Obj.cells #[.int .i64 0, .slice none 0 0, .slice none 0 0, .string ⟨#[]⟩, .bool false] 37)).alloc (Obj.cells #[.int .u64 (t.no : Int), .int .i64 t.we, .int .i64 t.by_, .int .i64 t.en, .string t.le, .string t.gr] 43)).alloc (Obj.cells #[.int .i64 (i : Int), .slice (some ⟨w.heap.size + 1 + 1 + 1, 0, none⟩) 1 1, .slice none 0 0, .string ⟨#[]⟩, .bool false] 37)) c t i := by
  have st : ∀ (W : World) (o : Obj), RowKit.Below W.heap.size W (W.alloc o) := fun W o => (Below.refl _ _).alloc (Nat.le_refl _) _
  have sz : ∀ (W : World) (o : Obj), (W.alloc o).heap.size = W.heap.size + 1 := fun W o => (by show (W.heap.push o).size = _; rw [Array.size_push])
  have h1 := lc_new w c 23
  have g1 := st w (Obj.cells (cfgA c) 23)
  have z1 : w.heap.size < (w.alloc (Obj.cells (cfgA c) 23)).heap.size := by rw [sz]; omega
  have e1 := sz w (Obj.cells (cfgA c) 23)
  generalize w.alloc (Obj.cells (cfgA c) 23) = W1 at *
  have h2 := Zb.new W1 #[.int .u64 (t.no : Int), .int .i64 t.we, .int .i64 t.by_, .int .i64 t.en, .string t.le, .string t.gr] 43
  have g2 := st W1 (Obj.cells #[.int .u64 (t.no : Int), .int .i64 t.we, .int .i64 t.by_, .int .i64 t.en, .string t.le, .string t.gr] 43)
  have e2 := sz W1 (Obj.cells #[.int .u64 (t.no : Int), .int .i64 t.we, .int .i64 t.by_, .int .i64 t.en, .string t.le, .string t.gr] 43)
  generalize W1.alloc (Obj.cells #[.int .u64 (t.no : Int), .int .i64 t.we, .int .i64 t.by_, .int .i64 t.en, .string t.le, .string t.gr] 43) = W2 at *
  have h3 := Zb.new W2 #[.int .i64 0, .slice none 0 0, .slice none 0 0, .string ⟨#[]⟩, .bool false] 37
  have g3 := st W2 (Obj.cells #[.int .i64 0, .slice none 0 0, .slice none 0 0, .string ⟨#[]⟩, .bool false] 37)
  have e3 := sz W2 (Obj.cells #[.int .i64 0, .slice none 0 0, .slice none 0 0, .string ⟨#[]⟩, .bool false] 37)
  generalize W2.alloc (Obj.cells #[.int .i64 0, .slice none 0 0, .slice none 0 0, .string ⟨#[]⟩, .bool false] 37) = W3 at *
  have h4 := ls_one W3 t
  have g4 := st W3 (Obj.cells #[.int .u64 (t.no : Int), .int .i64 t.we, .int .i64 t.by_, .int .i64 t.en, .string t.le, .string t.gr] 43)
  have e4 := sz W3 (Obj.cells #[.int .u64 (t.no : Int), .int .i64 t.we, .int .i64 t.by_, .int .i64 t.en, .string t.le, .string t.gr] 43)
  generalize W3.alloc (Obj.cells #[.int .u64 (t.no : Int), .int .i64 t.we, .int .i64 t.by_, .int .i64 t.en, .string t.le, .string t.gr] 43) = W4 at *
  have h5 := Zb.new W4 #[.int .i64 (i : Int), .slice (some ⟨w.heap.size + 1 + 1 + 1, 0, none⟩) 1 1, .slice none 0 0, .string ⟨#[]⟩, .bool false] 37
  have g5 := st W4 (Obj.cells #[.int .i64 (i : Int), .slice (some ⟨w.heap.size + 1 + 1 + 1, 0, none⟩) 1 1, .slice none 0 0, .string ⟨#[]⟩, .bool false] 37)
  have e5 := sz W4 (Obj.cells #[.int .i64 (i : Int), .slice (some ⟨w.heap.size + 1 + 1 + 1, 0, none⟩) 1 1, .slice none 0 0, .string ⟨#[]⟩, .bool false] 37)
  generalize W4.alloc (Obj.cells #[.int .i64 (i : Int), .slice (some ⟨w.heap.size + 1 + 1 + 1, 0, none⟩) 1 1, .slice none 0 0, .string ⟨#[]⟩, .bool false] 37) = W5 at *
  have k45 := g5
  have k35 := g4.trans (g5.mono g4.size)
  have k25 := g3.trans (k35.mono g3.size)
  have k15 := g2.trans (k25.mono g2.size)
  have k05 := g1.trans (k15.mono g1.size)
  rw [e1] at h2
  rw [show W2.heap.size = w.heap.size + 1 + 1 by omega] at h3
  rw [show W3.heap.size = w.heap.size + 1 + 1 + 1 by omega] at h4
  rw [show W4.heap.size = w.heap.size + 1 + 1 + 1 + 1 by omega] at h5
  exact ⟨k05, h1.keep z1 k15, h2.below k25, h3.below k35, h4.below k45, h5, by omega⟩
theorem Dw.below {w W W' : World} {c : Cf} {t : Tb} {i : Nat} (h : Dw w W c t i) (hb : RowKit.Below W.heap.size W W') : RowKit.Below w.heap.size w W' ∧ Lc W' w.heap.size c ∧ Zb W' (w.heap.size + 1 + 1) (jbC 0 nS nS ⟨#[]⟩ false) ∧ Ls kTb W' (some ⟨w.heap.size + 1 + 1 + 1, 0, none⟩, 1, 1) [t] ∧ Zb W' (w.heap.size + 1 + 1 + 1 + 1) (jbC (i : Int) (some ⟨w.heap.size + 1 + 1 + 1, 0, none⟩, 1, 1) nS ⟨#[]⟩ false) :=
  ⟨h.b.trans (hb.mono h.b.size), h.lc.keep (by rw [h.s]; omega) hb, h.r.below hb, h.u.below hb, h.j.below hb⟩
/-- the end of down -/
theorem down_end {w W w6 w7 : World} {c : Cf} {t : Tb} {i : Nat} {ls : Sv} {lo : List Tb} {cut : ByteArray} (h : Dw w W c t i) (hb : RowKit.Below W.heap.size W w6) (hlo : Ls kTb w6 ls lo) (hge : ∀ b off, ls.1 = some ⟨b, off, none⟩ → W.heap.size ≤ b) (h7 : Zb w7 (w.heap.size + 1 + 1 + 1 + 1) (jbC (i : Int) (some ⟨w.heap.size + 1 + 1 + 1, 0, none⟩, 1, 1) ls cut false)) (hk : ∀ b, b ≠ w.heap.size + 1 + 1 + 1 + 1 → w7.heap[b]? = w6.heap[b]?) (hs : w7.heap.size = w6.heap.size) (hb7 : RowKit.Below w.heap.size w w7) :
    Zb (sets w7 (w.heap.size + 1 + 1) 0 (jbC (i : Int) (some ⟨w.heap.size + 1 + 1 + 1, 0, none⟩, 1, 1) ls cut false)) (w.heap.size + 1 + 1) (jbC (i : Int) (some ⟨w.heap.size + 1 + 1 + 1, 0, none⟩, 1, 1) ls cut false) ∧
    JAt (sets w7 (w.heap.size + 1 + 1) 0 (jbC (i : Int) (some ⟨w.heap.size + 1 + 1 + 1, 0, none⟩, 1, 1) ls cut false)) (some ⟨w.heap.size + 1 + 1 + 1, 0, none⟩, 1, 1) ls ⟨(i : Int), [t], lo, cut, false⟩ ∧
    RowKit.Below w.heap.size w (sets w7 (w.heap.size + 1 + 1) 0 (jbC (i : Int) (some ⟨w.heap.size + 1 + 1 + 1, 0, none⟩, 1, 1) ls cut false)) := by
  obtain ⟨d1, d2, d3, d4, d5⟩ := h.below hb
  have hz2 : Zb w7 (w.heap.size + 1 + 1) (jbC 0 nS nS ⟨#[]⟩ false) := d3.keep (hk _ (by omega)) (by omega)
  have hblk : ∀ b, b ≠ w.heap.size + 1 + 1 + 1 + 1 → b ≠ w.heap.size + 1 + 1 → (sets w7 (w.heap.size + 1 + 1) 0 (jbC (i : Int) (some ⟨w.heap.size + 1 + 1 + 1, 0, none⟩, 1, 1) ls cut false)).heap[b]? = w6.heap[b]? := fun b h1 h2 => (sets_block w7 _ b h2 _ 0).trans (hk b h1)
  have hsz : w6.heap.size ≤ (sets w7 (w.heap.size + 1 + 1) 0 (jbC (i : Int) (some ⟨w.heap.size + 1 + 1 + 1, 0, none⟩, 1, 1) ls cut false)).heap.size := by rw [sets_size]; omega
  refine ⟨hz2.sets (by simp [jbC]), ⟨d4.keep (fun b off e _ => ?_) hsz, hlo.keep (fun b off e _ => ?_) hsz⟩, sets_below _ (by omega) _ 0 hb7⟩
  · simp only [Option.some.injEq, Addr.mk.injEq] at e
    exact hblk b (by omega) (by omega)
  · have := hge b off e
    have h5 := h.s
    exact hblk b (by omega) (by omega)
set_option maxHeartbeats 4000000 in
theorem down_any (c : Cf) (vb : Nat) (V : Lv) (t : Tb) (i f : Nat) (w : World) (h : VAt w vb V) (hf : c 12 = f) (hf1 : 1 ≤ f ∧ f ≤ 16) (hi : i ≤ 5) : Calls Tryz.prog 28 #[.agg (cfgA c), .pointer (some ⟨vb, 0, none⟩), tbV t, .int .i64 (i : Int)] w fun e w' => DnIs w (dn f V i t) e w' := by
  have hlen := h.1.len ((i : Int) + 1)
  have hb0 : RowKit.Below w.heap.size w (w.alloc (Obj.cells (cfgA c) 23)) := (Below.refl _ _).alloc (Nat.le_refl _) _
  have hL0 : (cfgA c).toList[12]? = some (.int .i64 (f : Int)) := by rw [← hf]; rfl
  have q1 : IntKind.i64.wrap ((i : Int) + 1) = (i : Int) + 1 := IntWalk.i64_in _ (by omega)
  have q2 : max (0 : Int) (f : Int) = (f : Int) := by omega
  have HV : Hid (VAt w vb V) := h
  have HLC : Hid (Lc (w.alloc (Obj.cells (cfgA c) 23)) w.heap.size c ∧ RowKit.Below w.heap.size w (w.alloc (Obj.cells (cfgA c) 23)) ∧ (cfgA c).toList[12]? = some (.int .i64 (f : Int))) := ⟨lc_new w c 23, hb0, hL0⟩
  clear h hb0 hL0 hf
  unfold tbV
  go_enter Tryz.func28, Tryz.ntmps28
  go_upto_region 2 with (fail)
  obtain ⟨W, hW⟩ : ∃ X, ((((w.alloc (Obj.cells (cfgA c) 23)).alloc (Obj.cells #[.int .u64 (t.no : Int), .int .i64 t.we, .int .i64 t.by_, .int .i64 t.en, .string t.le, .string t.gr] 43)).alloc (Obj.cells #[.int .i64 0, .slice none 0 0, .slice none 0 0, .string ⟨#[]⟩, .bool false] 37)).alloc (Obj.cells #[.int .u64 (t.no : Int), .int .i64 t.we, .int .i64 t.by_, .int .i64 t.en, .string t.le, .string t.gr] 43)).alloc (Obj.cells #[.int .i64 (i : Int), .slice (some ⟨w.heap.size + 1 + 1 + 1, 0, none⟩) 1 1, .slice none 0 0, .string ⟨#[]⟩, .bool false] 37) = X := ⟨_, rfl⟩
  have HD : Hid (Dw w W c t i) := by rw [← hW]; exact dw_new w c t i
  rw [hW]
  clear hW
  have y4 := HD.out.tb.2.1 4 _ rfl
  have y5 := HD.out.tb.2.1 5 _ rfl
  obtain ⟨lo, hlo⟩ : ∃ x, (lev V ((i : Int) + 1)).filter (over t.le t.gr) = x := ⟨_, rfl⟩
  have hll : lo.length ≤ 1000000 := by rw [← hlo]; exact Nat.le_trans (List.length_filter_le _ _) hlen
  have HOV : Hid (Calls Tryz.prog 43 #[.pointer (some ⟨vb, 0, none⟩), .int .i64 ((i : Int) + 1), .string t.le, .string t.gr] W fun e w' => OwnIs W lo e w') := by
    have := overlap_any vb V ((i : Int) + 1) t.le t.gr W (HV.out.below HD.out.b)
    rw [hlo] at this
    exact this
  have HDN : Hid (dn f V i t = ⟨(i : Int), [t], lo.take f, if f < lo.length then (lo.getD f noT).le else ⟨#[]⟩, false⟩) := by
    show _ = _
    unfold dn
    rw [hlo]
  clear hlo
  go_upto_region 3 with (go_at_call 43; go_loud (refine HOV.out.mono ?_; rintro e w6 ⟨⟨sa, sn, sc⟩, T, rfl, ho, hold⟩; have HO : Hid (OwnK kTb 1 T w6 (.slice sa sn sc) lo ∧ Old W T w6) := ⟨ho, hold⟩; have hsn := (OwnK.sk ho).1; change sn = lo.length at hsn; subst hsn; clear ho hold; simp only [svV]))
  clear HOV y4 y5
  have HX : Hid _ := HD.out.below HO.out.2.below
  have f12 := HX.out.2.1.cell 12 HLC.out.2.2
  have hge : Hid (∀ b off, sa = some ⟨b, off, none⟩ → W.heap.size ≤ b) := fun b off e => by
    obtain ⟨_, _, _, _, _, h6⟩ := OwnK.sk (s := (sa, lo.length, sc)) HO.out.1
    have := (h6 b off e).1
    rcases Nat.lt_or_ge b W.heap.size with hb | hb
    · have := HO.out.2.zero b (.inl hb); omega
    · exact hb
  have z0 := HX.out.2.2.2.2.2.1 0 _ rfl
  have z1 := HX.out.2.2.2.2.2.1 1 _ rfl
  have z2 := HX.out.2.2.2.2.2.1 2 _ rfl
  have z3 := HX.out.2.2.2.2.2.1 3 _ rfl
  have z4 := HX.out.2.2.2.2.2.1 4 _ rfl
  have g0 := HX.out.2.2.2.2.2.2
  have r0 := HX.out.2.2.1.2.1 0 _ rfl
  have r1 := HX.out.2.2.1.2.1 1 _ rfl
  have r2 := HX.out.2.2.1.2.1 2 _ rfl
  have r3 := HX.out.2.2.1.2.1 3 _ rfl
  have r4 := HX.out.2.2.1.2.1 4 _ rfl
  have s0 := HX.out.2.2.1.2.2
  by_cases hcut : f < lo.length
  · have q3 : (f : Int) < (lo.length : Int) := by omega
    obtain ⟨g, off, e, hb, x, hx, y0, y1, y2, y3, y4, y5⟩ := (Ls.own (s := (sa, lo.length, sc)) HO.out.1).tb hcut
    subst e
    have hoff : off = 0 := by
      rcases HO.out.1.1.2 with ⟨h1, _⟩ | ⟨g', cap, cur, hv, _⟩
      · cases h1
      · cases hv; rfl
    subst hoff
    rw [Nat.zero_add] at y0 y1 y2 y3 y4 y5
    have q4 : (f : Int) ≤ (sc : Int) := by
      have := (OwnK.sk (s := (some ⟨g, 0, none⟩, lo.length, sc)) HO.out.1).2.2.1
      change lo.length ≤ sc at this
      omega
    have q5 : (0 : Int) ≤ (f : Int) := by omega
    have HE : Hid (Zb ((w6.setCell ⟨w.heap.size + 1 + 1 + 1 + 1, 3, none⟩ (.string x.le)).setCell ⟨w.heap.size + 1 + 1 + 1 + 1, 2, none⟩ (.slice (some ⟨g, 0, none⟩) f f)) (w.heap.size + 1 + 1 + 1 + 1) (jbC (i : Int) (some ⟨w.heap.size + 1 + 1 + 1, 0, none⟩, 1, 1) (some ⟨g, 0, none⟩, f, f) x.le false)) := (HX.out.2.2.2.2.set 3 (.string x.le)).set 2 _
    have HEND : Hid _ := down_end HD.out HO.out.2.below (Ls.take (Ls.own (s := (some ⟨g, 0, none⟩, lo.length, sc)) HO.out.1) (show f ≤ lo.length by omega)) (fun b off e => hge.out b off (by simpa using e)) HE.out (fun b hb => (Below.heap_setCell _ _ _ b (fun e => hb e)).trans (Below.heap_setCell w6 _ _ b (fun e => hb e))) (by simp) ((HX.out.1.setCell (p := ⟨w.heap.size + 1 + 1 + 1 + 1, 3, none⟩) (show w.heap.size ≤ w.heap.size + 1 + 1 + 1 + 1 by omega) _).setCell (p := ⟨w.heap.size + 1 + 1 + 1 + 1, 2, none⟩) (show w.heap.size ≤ w.heap.size + 1 + 1 + 1 + 1 by omega) _)
    go_wp2
    refine bodyPost_ret (res_jb rfl _ _ (w.heap.size + 1 + 1) (i : Int) (some ⟨w.heap.size + 1 + 1 + 1, 0, none⟩, 1, 1) (some ⟨g, 0, none⟩, f, f) x.le false rfl HEND.out.1) rfl ?_
    rw [HDN.out, if_pos hcut, show lo.getD f noT = x by rw [List.getD, hx]; rfl]
    refine ⟨_, _, rfl, HEND.out.2.1, HEND.out.2.2, fun b off e => ?_, fun b off e => ?_⟩
    · simp only [Option.some.injEq, Addr.mk.injEq] at e
      have h5 := HD.out.s
      have h6 := HO.out.2.below.size
      simp
      omega
    · have h9 := hge.out b off (by simpa using e)
      have h5 := HD.out.s
      have h7 := ((OwnK.sk (s := (some ⟨g, 0, none⟩, lo.length, sc)) HO.out.1).2.2.2.2.2 b off (by simpa using e)).2
      simp
      omega
  · have q3 : ¬ (f : Int) < (lo.length : Int) := by omega
    have HE : Hid (Zb (w6.setCell ⟨w.heap.size + 1 + 1 + 1 + 1, 2, none⟩ (.slice sa lo.length sc)) (w.heap.size + 1 + 1 + 1 + 1) (jbC (i : Int) (some ⟨w.heap.size + 1 + 1 + 1, 0, none⟩, 1, 1) (sa, lo.length, sc) ⟨#[]⟩ false)) := HX.out.2.2.2.2.set 2 _
    have HEND : Hid _ := down_end HD.out HO.out.2.below (Ls.own (s := (sa, lo.length, sc)) HO.out.1) hge.out HE.out (fun b hb => Below.heap_setCell w6 _ _ b (fun e => hb e)) (by simp) (HX.out.1.setCell (p := ⟨w.heap.size + 1 + 1 + 1 + 1, 2, none⟩) (show w.heap.size ≤ w.heap.size + 1 + 1 + 1 + 1 by omega) _)
    go_wp2
    refine bodyPost_ret (res_jb rfl _ _ (w.heap.size + 1 + 1) (i : Int) (some ⟨w.heap.size + 1 + 1 + 1, 0, none⟩, 1, 1) (sa, lo.length, sc) ⟨#[]⟩ false rfl HEND.out.1) rfl ?_
    rw [HDN.out, if_neg hcut, List.take_of_length_le (by omega)]
    refine ⟨_, _, rfl, HEND.out.2.1, HEND.out.2.2, fun b off e => ?_, fun b off e => ?_⟩
    · simp only [Option.some.injEq, Addr.mk.injEq] at e
      have h5 := HD.out.s
      have h6 := HO.out.2.below.size
      simp
      omega
    · have h9 := hge.out b off (by simpa using e)
      have h5 := HD.out.s
      have h7 := ((OwnK.sk (s := (sa, lo.length, sc)) HO.out.1).2.2.2.2.2 b off (by simpa using e)).2
      simp
      omega
end Vr
end Go.Proofs.YtilkjfbjlljnhaaGreat
