import Derived.Test.YtffgngekhdceaaaDoorMr1
namespace Go.Proofs.YtffgngekhdceaaaDoor
namespace Mnf
open Go.RowKit CMath Byt Cod Crw Irw Laws
set_option linter.unusedVariables false
set_option linter.unusedSimpArgs false
set_option maxRecDepth 20000

/-! Cells of a block of one's own. -/
def Zb (w : World) (B : Nat) (vs : List Value) : Prop := B < w.heap.size ∧ (∀ j v, vs[j]? = some v → w.cell? ⟨B, j, none⟩ = some v) ∧ ∀ j, w.frozen? ⟨B, j, none⟩ = false
theorem Zb.below {w w' : World} {B : Nat} {vs : List Value} (h : Zb w B vs) (hb : Below w.heap.size w w') : Zb w' B vs :=
  ⟨Nat.lt_of_lt_of_le h.1 hb.size, fun j v hv => (hb.cell (p := ⟨B, j, none⟩) h.1).trans (h.2.1 j v hv), fun j => (hb.frozen (p := ⟨B, j, none⟩) h.1).trans (h.2.2 j)⟩
theorem Zb.keep {w w' : World} {B : Nat} {vs : List Value} (h : Zb w B vs) (hb : w'.heap[B]? = w.heap[B]?) (hs : w.heap.size ≤ w'.heap.size) : Zb w' B vs :=
  ⟨Nat.lt_of_lt_of_le h.1 hs, fun j v hv => (World.cell?_of_block (a := ⟨B, j, none⟩) hb).trans (h.2.1 j v hv), fun j => (World.frozen?_of_block (a := ⟨B, j, none⟩) hb).trans (h.2.2 j)⟩
def sets (w : World) (B : Nat) : Nat → List Value → World
  | _, [] => w
  | j, v :: vs => sets (w.setCell ⟨B, j, none⟩ v) B (j + 1) vs
theorem sets_size (w : World) (B : Nat) (vs : List Value) : ∀ j, (sets w B j vs).heap.size = w.heap.size := by
  induction vs generalizing w with
  | nil => intro j; rfl
  | cons v vs ih => intro j; show (sets _ B (j + 1) vs).heap.size = _; rw [ih]; simp
theorem sets_below {base : Nat} {w0 w : World} (B : Nat) (hB : base ≤ B) (vs : List Value) : ∀ j, Below base w0 w → Below base w0 (sets w B j vs) := by
  induction vs generalizing w with
  | nil => intro j h; exact h
  | cons v vs ih => intro j h; exact ih (j + 1) (h.setCell (p := ⟨B, j, none⟩) hB _)
theorem sets_block (w : World) (B b : Nat) (hb : b ≠ B) (vs : List Value) : ∀ j, (sets w B j vs).heap[b]? = w.heap[b]? := by
  induction vs generalizing w with
  | nil => intro j; rfl
  | cons v vs ih => intro j; show (sets _ B (j + 1) vs).heap[b]? = _; rw [ih]; exact Below.heap_setCell w _ v b (fun e => hb e)
theorem sets_frozen (w : World) (B : Nat) (p : Addr) (vs : List Value) : ∀ j, (sets w B j vs).frozen? p = w.frozen? p := by
  induction vs generalizing w with
  | nil => intro j; rfl
  | cons v vs ih => intro j; show (sets _ B (j + 1) vs).frozen? p = _; rw [ih]; rw [World.frozen?_setCell]
theorem sets_low (w : World) (B : Nat) (vs : List Value) : ∀ j i, i < j → (sets w B j vs).cell? ⟨B, i, none⟩ = w.cell? ⟨B, i, none⟩ := by
  induction vs generalizing w with
  | nil => intro j i _; rfl
  | cons v vs ih =>
    intro j i h
    show (sets _ B (j + 1) vs).cell? ⟨B, i, none⟩ = _
    rw [ih _ _ _ (by omega), World.cell?_setCell_other _ _ _ _ (by simp; try omega)]
theorem sets_at (w : World) (B : Nat) (vs : List Value) : ∀ j, (∀ i, i < vs.length → ∃ u, w.cell? ⟨B, j + i, none⟩ = some u) → ∀ i v, vs[i]? = some v → (sets w B j vs).cell? ⟨B, j + i, none⟩ = some v := by
  induction vs generalizing w with
  | nil => intro j _ i v h; simp at h
  | cons x vs ih =>
    intro j hex i v h
    show (sets _ B (j + 1) vs).cell? ⟨B, j + i, none⟩ = _
    cases i with
    | zero =>
      simp at h
      subst h
      rw [Nat.add_zero, sets_low _ _ _ _ _ (by omega)]
      obtain ⟨u, hu⟩ := hex 0 (by simp)
      rw [Nat.add_zero] at hu
      exact World.cell?_setCell_same _ _ _ hu
    | succ i =>
      rw [show j + (i + 1) = j + 1 + i by omega]
      refine ih _ (j + 1) (fun k hk => ?_) i v (by simpa using h)
      obtain ⟨u, hu⟩ := hex (k + 1) (by simp; omega)
      refine ⟨u, ?_⟩
      rw [World.cell?_setCell_other _ _ _ _ (by simp; try omega), ← hu]
      congr 2
      omega
theorem Zb.sets {w : World} {B : Nat} {us vs : List Value} (h : Zb w B us) (hl : vs.length ≤ us.length) : Zb (sets w B 0 vs) B vs := by
  refine ⟨by rw [sets_size]; exact h.1, fun j v hv => ?_, fun j => by rw [sets_frozen]; exact h.2.2 j⟩
  have := sets_at w B vs 0 (fun i hi => ⟨_, by rw [Nat.zero_add]; exact h.2.1 i _ (List.getElem?_eq_getElem (by omega))⟩) j v hv
  rwa [Nat.zero_add] at this
theorem Zb.new (w : World) (vs : Array Value) (t : TypeId) : Zb (w.alloc (.cells vs t)) w.heap.size vs.toList := by
  refine ⟨by simp, fun j v hv => ?_, fun j => World.frozen?_alloc_at _ _ _ _ rfl⟩
  rw [World.cell?_alloc_at _ _ _ _ rfl]
  simpa using hv

def plV (p : Pl) : Value := .agg #[.int .i64 p.1, .int .u64 p.2]
def tbV (p : Pd) : Value := .agg #[.int .u64 p.no, .int .i64 p.we, .int .i64 p.by_, .int .i64 p.en, .string p.le, .string p.gr]
def pdV (p : Pd) : Value := .agg #[.int .i64 p.lv, .int .u64 p.no, .int .i64 p.we, .int .i64 p.by_, .int .i64 p.en, .string p.le, .string p.gr]
def noPd : Pd := ⟨0, 0, 0, 0, 0, ⟨#[]⟩, ⟨#[]⟩⟩
theorem res_pl {fn : Func} {p u v : Tmp} (h : fn.results = #[.cell p 45, .tmp u, .tmp v]) (tmps : Array Value) (w : World) (B : Nat) (x : Pl) (hp : tmps.getD p undef = .pointer (some ⟨B, 0, none⟩)) (hz : Zb w B [.int .i64 x.1, .int .u64 x.2]) :
    (results fn tmps).run Tryd.prog w = .ok (.tuple #[plV x, tmps.getD u undef, tmps.getD v undef]) w := by
  have c0 := hz.2.1 0 _ rfl
  have c1 := hz.2.1 1 _ rfl
  simp only [results, h]
  have hp' : tmps[p]?.getD undef = .pointer (some ⟨B, 0, none⟩) := by simpa using hp
  simp [Sem.run_bind, Result.andThen, hp', go_sem, c0, c1, plV]

set_option maxHeartbeats 2000000 in
theorem readPlace_ok (a : Option Addr) (L : Nat) (l : List Nat) (x : Pl) (r : List Nat) (w : World) (h : IsB w a l) (hL : l.length = L) (hm : L ≤ 9223372036854775807) (hr : rdPl l = some (x, r)) :
    Calls Tryd.prog 40 #[.slice a L L] w fun e w' => RdOk a l (plV x) r w e w' := by
  unfold rdPl rd2 at hr
  cases h1 : rdI 4 l with
  | none => rw [h1] at hr; cases hr
  | some y =>
    obtain ⟨y1, y2⟩ := y
    rw [h1] at hr
    simp only [Option.bind_some] at hr
    cases h2 : rdN M64 y2 with
    | none => rw [h2] at hr; cases hr
    | some z =>
      obtain ⟨z1, z2⟩ := z
      rw [h2] at hr
      simp only [Option.map_some, Option.some.injEq, Prod.mk.injEq] at hr
      obtain ⟨rfl, rfl⟩ := hr
      have HI : Hid (IsB w a l) := h
      have H1 : Hid (rdI 4 l = some (y1, y2)) := h1
      have H2 : Hid (rdN M64 y2 = some (z1, z2)) := h2
      have HL : Hid (l.length = L) := hL
      have hy2 : y2.length ≤ L := by
        have := ((rdI_is 4 (by decide)).form l y1 y2 h.2 h1).1
        rw [← hL, this]
        simp
      clear h h1 h2 hL
      have hle4 : (4 : Nat) ≤ M63 := by decide
      go_enter Tryd.func40, Tryd.ntmps40
      go_wp2_with (first
        | (go_at_call 58; go_loud (refine (readInt_ok a L l 4 y1 _ y2 _ (HI.out.below ((Below.refl _ _).alloc (Nat.le_refl _) _)) HL.out hm (by decide) rfl H1.out).mono ?_; rintro e w1 ⟨a1, rfl, hi1, hb1⟩; have HW : Hid (Zb w1 w.heap.size [.int .i64 0, .int .u64 0] ∧ Sub a l a1 y2 ∧ Below w.heap.size w w1) := ⟨(Zb.new w #[.int .i64 0, .int .u64 0] _).below hb1, hi1, ((Below.refl _ _).alloc (Nat.le_refl _) _).trans (hb1.mono (by simp))⟩; clear hi1 hb1))
        | (go_at_call 57; go_loud (refine (readNumber_ok a1 y2.length y2 M64 z1 z2 _ ((HW.out.2.1.isB HI.out).below HW.out.2.2) rfl (by omega) (Nat.le_refl _) H2.out).mono ?_; rintro e w2 ⟨a2, rfl, hi2, hb2⟩; have HX : Hid (Zb w2 w.heap.size [.int .i64 0, .int .u64 0] ∧ Sub a l a2 z2 ∧ Below w.heap.size w w2) := ⟨HW.out.1.below hb2, HW.out.2.1.trans hi2, HW.out.2.2.trans (hb2.mono HW.out.2.2.size)⟩; have d0 := HX.out.1.2.1 0 _ rfl; have d1 := HX.out.1.2.1 1 _ rfl; have f0 := HX.out.1.2.2 0; have f1 := HX.out.1.2.2 1; clear hi2 hb2)))
      have hz := HX.out.1.sets (vs := [.int .i64 y1, .int .u64 z1]) (by simp)
      refine bodyPost_ret (res_pl rfl _ _ w.heap.size (y1, z1) (by rfl) hz) rfl ?_
      exact ⟨a2, rfl, HX.out.2.1, sets_below w.heap.size (Nat.le_refl _) [.int .i64 y1, .int .u64 z1] 0 HX.out.2.2⟩

set_option maxHeartbeats 2000000 in
theorem readPlace_no (a : Option Addr) (L : Nat) (l : List Nat) (w : World) (h : IsB w a l) (hL : l.length = L) (hm : L ≤ 9223372036854775807) (hr : rdPl l = none) :
    Calls Tryd.prog 40 #[.slice a L L] w fun e w' => RdNo (plV (0, 0)) w e w' := by
  unfold rdPl rd2 at hr
  have HI : Hid (IsB w a l) := h
  have HL : Hid (l.length = L) := hL
  cases h1 : rdI 4 l with
  | none =>
    have H1 : Hid (rdI 4 l = none) := h1
    clear h h1 hL hr
    go_enter Tryd.func40, Tryd.ntmps40
    go_wp2_with (first
      | (go_at_call 58; go_loud (refine (readInt_no a L l 4 _ _ (HI.out.below ((Below.refl _ _).alloc (Nat.le_refl _) _)) HL.out hm (by decide) rfl H1.out).mono ?_; rintro e w1 ⟨rfl, hb1⟩; have HX : Hid (Zb w1 w.heap.size [.int .i64 0, .int .u64 0] ∧ Below w.heap.size w w1) := ⟨(Zb.new w #[.int .i64 0, .int .u64 0] _).below hb1, ((Below.refl _ _).alloc (Nat.le_refl _) _).trans (hb1.mono (by simp))⟩; have d0 := HX.out.1.2.1 0 _ rfl; have d1 := HX.out.1.2.1 1 _ rfl; have f0 := HX.out.1.2.2 0; have f1 := HX.out.1.2.2 1; clear hb1)))
    have hz := HX.out.1.sets (vs := [.int .i64 0, .int .u64 0]) (by simp)
    refine bodyPost_ret (res_pl rfl _ _ w.heap.size (0, 0) (by rfl) hz) rfl ?_
    exact ⟨rfl, sets_below w.heap.size (Nat.le_refl _) [.int .i64 0, .int .u64 0] 0 HX.out.2⟩
  | some y =>
    obtain ⟨y1, y2⟩ := y
    rw [h1] at hr
    simp only [Option.bind_some] at hr
    cases h2 : rdN M64 y2 with
    | some z => rw [h2] at hr; cases hr
    | none =>
      have H1 : Hid (rdI 4 l = some (y1, y2)) := h1
      have H2 : Hid (rdN M64 y2 = none) := h2
      have hy2 : y2.length ≤ L := by
        have := ((rdI_is 4 (by decide)).form l y1 y2 h.2 h1).1
        rw [← hL, this]
        simp
      clear h h1 h2 hL hr
      go_enter Tryd.func40, Tryd.ntmps40
      go_wp2_with (first
        | (go_at_call 58; go_loud (refine (readInt_ok a L l 4 y1 _ y2 _ (HI.out.below ((Below.refl _ _).alloc (Nat.le_refl _) _)) HL.out hm (by decide) rfl H1.out).mono ?_; rintro e w1 ⟨a1, rfl, hi1, hb1⟩; have HW : Hid (Zb w1 w.heap.size [.int .i64 0, .int .u64 0] ∧ Sub a l a1 y2 ∧ Below w.heap.size w w1) := ⟨(Zb.new w #[.int .i64 0, .int .u64 0] _).below hb1, hi1, ((Below.refl _ _).alloc (Nat.le_refl _) _).trans (hb1.mono (by simp))⟩; clear hi1 hb1))
        | (go_at_call 57; go_loud (refine (readNumber_no a1 y2.length y2 M64 _ ((HW.out.2.1.isB HI.out).below HW.out.2.2) rfl (by omega) (Nat.le_refl _) H2.out).mono ?_; rintro e w2 ⟨rfl, hb2⟩; have HX : Hid (Zb w2 w.heap.size [.int .i64 0, .int .u64 0] ∧ Below w.heap.size w w2) := ⟨HW.out.1.below hb2, HW.out.2.2.trans (hb2.mono HW.out.2.2.size)⟩; have d0 := HX.out.1.2.1 0 _ rfl; have d1 := HX.out.1.2.1 1 _ rfl; have f0 := HX.out.1.2.2 0; have f1 := HX.out.1.2.2 1; clear hb2)))
      have hz := HX.out.1.sets (vs := [.int .i64 0, .int .u64 0]) (by simp)
      refine bodyPost_ret (res_pl rfl _ _ w.heap.size (0, 0) (by rfl) hz) rfl ?_
      exact ⟨rfl, sets_below w.heap.size (Nat.le_refl _) [.int .i64 0, .int .u64 0] 0 HX.out.2⟩

/-! A reading of n things, k of which are read. -/
def Rk {α : Type} (o : List Nat → Option (α × List Nat)) (n : Nat) (l : List Nat) (k : Nat) (xs : List α) (r : List Nat) : Prop := xs.length = k ∧ k ≤ n ∧ rdL o n l = (rdL o (n - k) r).map fun y => (xs ++ y.1, y.2)
variable {α : Type} {o : List Nat → Option (α × List Nat)} {n k : Nat} {l r r' : List Nat} {xs : List α} {x : α}
theorem Rk.start (o : List Nat → Option (α × List Nat)) (n : Nat) (l : List Nat) : Rk o n l 0 [] l := ⟨rfl, Nat.zero_le _, by simp⟩
theorem Rk.step (h : Rk o n l k xs r) (hk : k < n) (hx : o r = some (x, r')) : Rk o n l (k + 1) (xs ++ [x]) r' := by
  obtain ⟨h1, h2, h3⟩ := h
  refine ⟨by simp [h1], hk, ?_⟩
  rw [h3, show n - k = (n - (k + 1)) + 1 by omega]
  show ((o r).bind fun x => (rdL o (n - (k + 1)) x.2).map fun y => (x.1 :: y.1, y.2)).map _ = _
  rw [hx]
  simp [Option.map_map, Function.comp_def]
theorem Rk.no (h : Rk o n l k xs r) (hk : k < n) (hx : o r = none) : rdL o n l = none := by
  obtain ⟨h1, h2, h3⟩ := h
  rw [h3, show n - k = (n - (k + 1)) + 1 by omega]
  show ((o r).bind fun x => (rdL o (n - (k + 1)) x.2).map fun y => (x.1 :: y.1, y.2)).map _ = _
  rw [hx]
  rfl
theorem Rk.done (h : Rk o n l n xs r) : rdL o n l = some (xs, r) := by
  obtain ⟨h1, h2, h3⟩ := h
  rw [h3, Nat.sub_self]
  simp [rdL]
theorem Zb.set {w : World} {B : Nat} {vs : List Value} (h : Zb w B vs) (k : Nat) (v : Value) : Zb (w.setCell ⟨B, k, none⟩ v) B (vs.set k v) := by
  refine ⟨by simpa using h.1, fun j u hu => ?_, fun j => by rw [World.frozen?_setCell]; exact h.2.2 j⟩
  by_cases hj : k = j
  · subst hj
    have hk : k < vs.length := by
      have := (List.getElem?_eq_some_iff.1 hu).1
      simpa using this
    rw [List.getElem?_set_self hk] at hu
    cases hu
    exact World.cell?_setCell_same _ _ _ (h.2.1 k _ (List.getElem?_eq_getElem hk))
  · rw [List.getElem?_set_ne hj] at hu
    rw [World.cell?_setCell_other _ _ _ _ (by simp; try omega)]
    exact h.2.1 j u hu
theorem take_set {vs xs : List Value} {k : Nat} {v : Value} (h : vs.take k = xs) (hk : k < vs.length) : (vs.set k v).take (k + 1) = xs ++ [v] := by
  subst h
  have hl : (vs.take k).length = k := by simp; omega
  rw [List.take_set, List.take_add_one, List.getElem?_eq_getElem hk, List.set_append_right _ _ (by omega), hl, Nat.sub_self]
  rfl
theorem rdRo_L (l : List Nat) : rdRo l = (rdL (rdN M64) 3 l).bind fun y => match y.1 with
    | [a, b, c] => some ((a, b, c), y.2)
    | _ => none := by
  unfold rdRo rd2 rdL
  cases rdN M64 l with
  | none => rfl
  | some x =>
    obtain ⟨x1, x2⟩ := x
    simp only [Option.bind_some]
    unfold rdL
    cases rdN M64 x2 with
    | none => rfl
    | some y =>
      obtain ⟨y1, y2⟩ := y
      simp only [Option.bind_some]
      unfold rdL
      cases rdN M64 y2 with
      | none => rfl
      | some z => rfl
/-- what a reader answers -/
def RdIs {α : Type} (a : Option Addr) (l : List Nat) (V : α → Value) (z : Value) (o : Option (α × List Nat)) (w : World) (e : Ending) (w' : World) : Prop := (∃ x r, o = some (x, r) ∧ RdOk a l (V x) r w e w') ∨ (o = none ∧ RdNo z w e w')
/-- three numbers as they are read -/
def roV (x : Nat × (Nat × Nat)) : Value := .agg #[.int .u64 x.1, .int .u64 x.2.1, .int .u64 x.2.2, .slice none 0 0, .slice none 0 0, .slice none 0 0]
def zE : List Value := [.int .u64 0, .int .u64 0, .int .u64 0, .slice none 0 0, .slice none 0 0, .slice none 0 0]
theorem res_ro {fn : Func} {p u v : Tmp} (h : fn.results = #[.cell p 34, .tmp u, .tmp v]) (tmps : Array Value) (w : World) (B : Nat) (x : Nat × (Nat × Nat)) (hp : tmps.getD p undef = .pointer (some ⟨B, 0, none⟩)) (hz : Zb w B [.int .u64 x.1, .int .u64 x.2.1, .int .u64 x.2.2, .slice none 0 0, .slice none 0 0, .slice none 0 0]) :
    (results fn tmps).run Tryd.prog w = .ok (.tuple #[roV x, tmps.getD u undef, tmps.getD v undef]) w := by
  have c0 := hz.2.1 0 _ rfl
  have c1 := hz.2.1 1 _ rfl
  have c2 := hz.2.1 2 _ rfl
  have c3 := hz.2.1 3 _ rfl
  have c4 := hz.2.1 4 _ rfl
  have c5 := hz.2.1 5 _ rfl
  simp only [results, h]
  have hp' : tmps[p]?.getD undef = .pointer (some ⟨B, 0, none⟩) := by simpa using hp
  simp [Sem.run_bind, Result.andThen, hp', go_sem, c0, c1, c2, c3, c4, c5, roV]
def u64s (ns : List Nat) : List Value := ns.map fun (n : Nat) => Value.int .u64 (n : Int)
end Mnf
end Go.Proofs.YtffgngekhdceaaaDoor
