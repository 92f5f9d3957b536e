import Derived.Test.YtaejjpbpnedblaaGreatXk
import Derived.Deep.WholeRow
import Derived.Laws.Tables
namespace Go.Proofs.YtaejjpbpnedblaaGreat
namespace Vr
open Go.Shelf Go.RowKit Go.Lib Go.Sort Go.Maps Go.ChangeMaps Go.MapKept Laws Irw Crw
set_option linter.unusedVariables false
set_option linter.unusedSimpArgs false
set_option maxRecDepth 20000
/-- A step of a region by its own run. -/
theorem wpList_valueR {P : Program} {ops : Array Oper} {rest : List Oper} {o : Oper} {a : Act} {Q : Exit → Act → World → Prop} {w w' : World} (v : Value) (hgd : o.guard = none) (hr : (execOp a.eval o).run P w = .ok (.value v) w') (h : wpList P ops Q rest (a.put o.dst v) w') : wpList P ops Q (o :: rest) a w :=
  wpList_plain hgd fun _ hK => by
    unfold Oper.wp
    rw [hr]
    exact hK _ _ h
theorem wpList_skipR {P : Program} {ops : Array Oper} {rest : List Oper} {o : Oper} {a : Act} {Q : Exit → Act → World → Prop} {w w' : World} (hgd : o.guard = none) (hr : (execOp a.eval o).run P w = .ok .skip w') (h : wpList P ops Q rest (a.put o.dst undef) w') : wpList P ops Q (o :: rest) a w :=
  wpList_plain hgd fun _ hK => by
    unfold Oper.wp
    rw [hr]
    exact hK _ _ h
theorem run_valueR {P : Program} {s : Sem Value} {v : Value} {w w' : World} (h : s.run P w = .ok v w') : (do pure (Next.value (← s)) : Sem Next).run P w = .ok (.value v) w' := by
  rw [Sem.run_bind, h]
  rfl
theorem run_skipR {P : Program} {s : Sem Unit} {w w' : World} (h : s.run P w = .ok () w') : (do s; pure Next.skip : Sem Next).run P w = .ok .skip w' := by
  rw [Sem.run_bind, h]
  rfl
theorem run_buildR {P : Program} {ρ : Operand → Value} {o : Oper} {t : TypeId} {parts : Array (Nat × Operand)} {vals : Array (Nat × Value)} {V : Array Value} {w : World} (ho : o.op = .build t parts) (hp : parts.map (fun x => (x.1, ρ x.2)) = vals) (h : (Instr.build t vals).run P w = .ok (.agg V) w) : (execOp ρ o).run P w = .ok (.value (.agg V)) w := by
  unfold execOp
  rw [ho]
  show (do pure (Next.value (← Instr.build t (parts.map (fun x => (x.1, ρ x.2))))) : Sem Next).run P w = _
  rw [hp]
  exact run_valueR h
theorem infoCfg : (Tryz.prog.info? 23).map (·.size) = some 27 := by kernel_rfl
theorem bltEx : Tryz.prog.built 23 [(5, .int .i64 2), (7, .int .i64 4), (8, .int .i64 4), (9, .int .i64 4096), (10, .int .i64 2), (12, .int .i64 2)] = some #[.int .i64 0, .int .i64 0, .int .i64 0, .int .i64 0, .int .i64 0, .int .i64 2, .int .i64 0, .int .i64 4, .int .i64 4, .int .i64 4096, .int .i64 2, .int .i64 0, .int .i64 2, .int .i64 0, .int .i64 0, .int .i64 0, .int .i64 0, .int .i64 0, .int .i64 0, .int .i64 0, .int .i64 0, .int .i64 0, .int .i64 0, .int .i64 0, .int .i64 0, .int .i64 0, .int .i64 0] := by kernel_rfl
theorem exA : cfgA exC = #[.int .i64 0, .int .i64 0, .int .i64 0, .int .i64 0, .int .i64 0, .int .i64 2, .int .i64 0, .int .i64 4, .int .i64 4, .int .i64 4096, .int .i64 2, .int .i64 0, .int .i64 2, .int .i64 0, .int .i64 0, .int .i64 0, .int .i64 0, .int .i64 0, .int .i64 0, .int .i64 0, .int .i64 0, .int .i64 0, .int .i64 0, .int .i64 0, .int .i64 0, .int .i64 0, .int .i64 0] := rfl
theorem run_alloc_cfg (W : World) : (Instr.alloc 23 true (.tuple #[])).run Tryz.prog W = .ok (.pointer (some ⟨W.heap.size, 0, none⟩)) (W.alloc (.cells #[.int .i64 0, .int .i64 0, .int .i64 0, .int .i64 0, .int .i64 0, .int .i64 0, .int .i64 0, .int .i64 0, .int .i64 0, .int .i64 0, .int .i64 0, .int .i64 0, .int .i64 0, .int .i64 0, .int .i64 0, .int .i64 0, .int .i64 0, .int .i64 0, .int .i64 0, .int .i64 0, .int .i64 0, .int .i64 0, .int .i64 0, .int .i64 0, .int .i64 0, .int .i64 0, .int .i64 0] 23)) := by
  simp [go_sem]
theorem SAt.below {T : Nat → Nat} {w w' : World} {sb vb mb : Nat} {V : Lv} (h : SAt T w sb vb mb V) (hb : RowKit.Below w.heap.size w w') : SAt T w' sb vb mb V := by
  obtain ⟨ps, hz⟩ := h.box
  obtain ⟨m, D, hm⟩ := h.map
  exact ⟨h.ts, h.tm, ⟨ps, hz.below hb⟩, h.ver.goes (Goes.below (t := fun _ => False) hb) (fun z => z), ⟨m, D, OwnM.block hm (hb.block mb hm.lt)⟩⟩
theorem num_nil (n : Nat) : NumOk (List.replicate n []) := fun l hl t ht => by
  rw [List.eq_of_mem_replicate hl] at ht
  cases ht
theorem half_nil (n : Nat) : Half (List.replicate n []) := by
  have e : (List.replicate n ([] : List Tb)).flatten = [] := by simp
  refine ⟨by unfold nums; rw [e]; exact List.Pairwise.nil, fun l hl => ?_⟩
  rw [List.eq_of_mem_replicate hl]
  intro t ht
  cases ht
def NoVer (v : Value) : Prop := (∀ a n c, v ≠ .slice a n c) ∧ ∀ n, v ≠ .int .u64 n
/-- a block that holds nothing of a version may turn -/
theorem VAt.apart {w w' : World} {A vb : Nat} {V : Lv} (h : VAt w vb V) (hA : ∀ off v, w.cell? ⟨A, off, none⟩ = some v → NoVer v) (hk : ∀ b, b ≠ A → w'.heap[b]? = w.heap[b]?) (hs : w.heap.size ≤ w'.heap.size) : VAt w' vb V := by
  obtain ⟨hf, s, hz, h1, vs, h2, h3, h4⟩ := h
  refine ⟨hf, s, hz.keep (hk vb ?_) hs, h1, vs, h2, fun hne => ?_, fun i v l hv hl => ?_⟩
  · rintro rfl
    exact (hA 0 _ (hz.2.1 0 _ rfl)).1 _ _ _ rfl
  · obtain ⟨b, off, e, hr⟩ := h3 hne
    refine ⟨b, off, e, hr.keep (hk b ?_) hs⟩
    rintro rfl
    obtain ⟨x, hx⟩ : ∃ x, vs[0]? = some x := by
      cases vs with
      | nil => exact absurd rfl hne
      | cons x r => exact ⟨x, rfl⟩
    exact (hA _ _ (hr.2 0 x hx 0 _ rfl)).1 _ _ _ rfl
  · have hL := h4 i v l hv hl
    refine ⟨fun hne => ?_, hL.2⟩
    obtain ⟨b, off, e, hr⟩ := hL.1 hne
    refine ⟨b, off, e, hr.keep (hk b ?_) hs⟩
    rintro rfl
    obtain ⟨x, hx⟩ : ∃ x, l[0]? = some x := by
      cases l with
      | nil => exact absurd rfl hne
      | cons x r => exact ⟨x, rfl⟩
    exact (hA _ _ (hr.2 0 x hx 0 _ rfl)).2 _ rfl
theorem res_cf2 {fn : Func} {p q : Tmp} (h : fn.results = #[.cell p 23, .tmp q]) (tmps : Array Value) (w : World) (B : Nat) (c : Cf) (hp : tmps.getD p undef = .pointer (some ⟨B, 0, none⟩)) (hz : Zb w B (cfgA c).toList) :
    (results fn tmps).run Tryz.prog w = .ok (.tuple #[.agg (cfgA c), tmps.getD q undef]) w := by
  simp only [results, h]
  have hp' : tmps[p]?.getD undef = .pointer (some ⟨B, 0, none⟩) := by simpa using hp
  have hl := run_loadVar_mid (P := Tryz.prog) w B 0 23 (cfgA c).toList _ (fun j v hv => by rw [Nat.zero_add]; exact hz.2.1 j v hv) Tryz.underlying23 rfl (Lc.info c)
  rw [toC] at hl
  simp [Sem.run_bind, Result.andThen, hp', asAddr, hl]
theorem exIn_ok : PiOk exIn := by
  intro p hp
  simp only [exIn, List.mem_cons, List.not_mem_nil, or_false] at hp
  rcases hp with rfl | rfl | rfl | rfl | rfl | rfl | rfl | rfl | rfl | rfl
  all_goals (simp only [exT, U64]; omega)
def ExIs (w : World) (e : Ending) (w' : World) : Prop := ∃ vb, e = .returned (.tuple #[.agg (cfgA exC), .pointer (some ⟨vb, 0, none⟩)]) ∧ VAt w' vb exV ∧ RowKit.Below w.heap.size w w'
set_option maxHeartbeats 4000000 in
theorem example_any (w : World) : Calls Tryz.prog 54 #[] w fun e w' => ExIs w e w' := by
  obtain ⟨Z, hZ⟩ : ∃ Z : Array Value, Z = #[.int .i64 0, .int .i64 0, .int .i64 0, .int .i64 0, .int .i64 0, .int .i64 0, .int .i64 0, .int .i64 0, .int .i64 0, .int .i64 0, .int .i64 0, .int .i64 0, .int .i64 0, .int .i64 0, .int .i64 0, .int .i64 0, .int .i64 0, .int .i64 0, .int .i64 0, .int .i64 0, .int .i64 0, .int .i64 0, .int .i64 0, .int .i64 0, .int .i64 0, .int .i64 0, .int .i64 0] := ⟨_, rfl⟩
  have hal : ∀ W : World, (Instr.alloc 23 true (.tuple #[])).run Tryz.prog W = .ok (.pointer (some ⟨W.heap.size, 0, none⟩)) (W.alloc (.cells Z 23)) := fun W => by rw [hZ]; exact run_alloc_cfg W
  have hst : ∀ W : World, (Instr.storeAt 23 (.pointer (some ⟨W.heap.size, 0, none⟩)) (.agg (cfgA exC))).run Tryz.prog (W.alloc (.cells Z 23)) = .ok () (W.alloc (.cells (cfgA exC) 23)) := fun W => run_storeAt_new W 23 Z (cfgA exC) (by exact infoCfg) (by rw [hZ]; rfl) (by simp [cfgA, Value.oneCell'])
  have hbd : ∀ W, (Instr.build 23 #[(5, .int .i64 2), (7, .int .i64 4), (8, .int .i64 4), (9, .int .i64 4096), (10, .int .i64 2), (12, .int .i64 2)]).run Tryz.prog W = .ok (.agg (cfgA exC)) W := fun W => by rw [exA]; exact run_build W _ _ _ bltEx
  go_enter Tryz.func54, Tryz.ntmps54
  go_upto_region 1 with (fail)
  rw [← hZ]
  have hZ27 : Z.size = 27 := by rw [hZ]; rfl
  have HZ0 : Hid (∀ v ∈ Z, v = .int .i64 0) := by
    show ∀ v ∈ Z, v = .int .i64 0
    rw [hZ]
    intro v hv
    simpa using hv
  clear hZ
  refine wp_region_lit ?_
  refine wpList_valueR (.agg (cfgA exC)) rfl (run_buildR rfl (by simp [Act.eval]) (hbd _)) ?_
  refine wpList_valueR (.pointer (some ⟨(w.alloc (.cells Z 23)).heap.size, 0, none⟩)) rfl (run_valueR (s := Instr.alloc 23 true (.tuple #[])) (hal _)) ?_
  refine wpList_skipR rfl (run_skipR (s := Instr.storeAt 23 (.pointer (some ⟨(w.alloc (.cells Z 23)).heap.size, 0, none⟩)) (.agg (cfgA exC))) (hst _)) ?_
  refine wpList_nil ?_
  clear hst hbd hal
  simp only [Act.put, Exit.then]
  simp only [List.setIfInBounds_toArray, List.set_cons_zero, List.set_cons_succ, World.size_alloc]
  obtain ⟨W1, hW1⟩ : ∃ X, (w.alloc (Obj.cells Z 23)).alloc (Obj.cells (cfgA exC) 23) = X := ⟨_, rfl⟩
  have H1 : Hid (RowKit.Below w.heap.size w W1 ∧ Zb W1 w.heap.size Z.toList ∧ Zb W1 (w.heap.size + 1) (cfgA exC).toList) := by
    subst hW1
    exact ⟨((Below.refl _ _).alloc (Nat.le_refl _) _).alloc (by simp) _, (Zb.new w Z _).below ((Below.refl _ _).alloc (Nat.le_refl _) _), Zb.new2 w _ _ _⟩
  have HO1 : Hid (W1.heap[w.heap.size]? = some (Obj.cells Z 23)) := by
    subst hW1
    exact (Below.heap_alloc _ _ _ (by simp)).trans (World.alloc_heap_new w _)
  rw [hW1]
  clear hW1
  have HZ27 := hidV hZ27
  clear hZ27
  have HNW : Hid (Calls Tryz.prog 26 #[.int .i64 4] W1 fun e w' => ∃ (sb vb mb : Nat) (T : Nat → Nat), e = .returned (.pointer (some ⟨sb, 0, none⟩)) ∧ SAt T w' sb vb mb (List.replicate 4 []) ∧ Old W1 T w') := (new_any 4 W1 (by omega) (by omega)).mono fun e w' ⟨sb, vb, mb, he, hs, ho⟩ => ⟨sb, vb, mb, _, he, hs, ho⟩
  apply_assumption
  go_upto_region 5 with (go_at_call 26; go_loud (refine HNW.out.mono ?_; rintro e w2 ⟨sb, vb, mb, T, rfl, hs2, ho2⟩; have H2 := hidV (And.intro hs2 ho2); clear hs2 ho2))
  have HB : Hid (RowKit.Below w2.heap.size w2 w2) := Below.refl _ _
  go_upto_region 6 with (go_at_call 76; refine (tableI _ _ _ _ _).mono ?_; rintro e wt ⟨rfl, hbt⟩; replace HB := hidV (HB.out.trans (hbt.mono HB.out.size)); clear hbt)
  obtain ⟨W4, hW4⟩ : ∃ X, wt.alloc (Obj.cells #[.int .i64 0, .int .u64 9, .int .i64 500, .int .i64 0, .int .i64 0, .string ⟨#[98]⟩, .string ⟨#[100]⟩, .int .i64 0, .int .u64 12, .int .i64 500, .int .i64 0, .int .i64 0, .string ⟨#[99]⟩, .string ⟨#[107]⟩, .int .i64 1, .int .u64 3, .int .i64 2000, .int .i64 0, .int .i64 0, .string ⟨#[97]⟩, .string ⟨#[99]⟩, .int .i64 1, .int .u64 4, .int .i64 2000, .int .i64 0, .int .i64 0, .string ⟨#[101]⟩, .string ⟨#[112]⟩, .int .i64 1, .int .u64 5, .int .i64 1000, .int .i64 0, .int .i64 0, .string ⟨#[113]⟩, .string ⟨#[122]⟩, .int .i64 2, .int .u64 6, .int .i64 3000, .int .i64 0, .int .i64 0, .string ⟨#[100]⟩, .string ⟨#[102]⟩, .int .i64 2, .int .u64 7, .int .i64 3000, .int .i64 0, .int .i64 0, .string ⟨#[103]⟩, .string ⟨#[105]⟩, .int .i64 2, .int .u64 8, .int .i64 2000, .int .i64 0, .int .i64 0, .string ⟨#[107]⟩, .string ⟨#[108]⟩, .int .i64 2, .int .u64 10, .int .i64 1000, .int .i64 0, .int .i64 0, .string ⟨#[120]⟩, .string ⟨#[122]⟩, .int .i64 3, .int .u64 11, .int .i64 90000, .int .i64 0, .int .i64 0, .string ⟨#[97]⟩, .string ⟨#[122]⟩] 78) = X := ⟨_, rfl⟩
  have H4 : Hid (RowKit.Below w2.heap.size w2 W4 ∧ Zb W4 wt.heap.size (kPi.cells exIn)) := by
    subst hW4
    exact ⟨HB.out.alloc HB.out.size _, Zb.new wt _ _⟩
  rw [hW4]
  clear hW4
  obtain ⟨bi, hbi⟩ : ∃ b, wt.heap.size = b := ⟨_, rfl⟩
  rw [hbi] at H4
  simp only [hbi]
  clear hbi HB
  obtain ⟨W5, hW5⟩ : ∃ X, W4.alloc (Obj.cells #[.string ⟨#[]⟩, .string ⟨#[]⟩, .string ⟨#[]⟩, .string ⟨#[]⟩] 9) = X := ⟨_, rfl⟩
  have H5 : Hid (RowKit.Below W4.heap.size W4 W5 ∧ Zb W5 W4.heap.size (kT.cells [⟨#[]⟩, ⟨#[]⟩, ⟨#[]⟩, ⟨#[]⟩])) := by
    subst hW5
    exact ⟨(Below.refl _ _).alloc (Nat.le_refl _) _, Zb.new W4 _ _⟩
  have HB5 : Hid (RowKit.Below w2.heap.size w2 W5) := H4.out.1.trans (H5.out.1.mono H4.out.1.size)
  have HAp : Hid (Calls Tryz.prog 27 #[.pointer (some ⟨sb, 0, none⟩), .agg #[.int .u64 0, .int .u64 0, .int .u64 0, .slice none 0 0, .slice (some ⟨bi, 0, none⟩) 10 10, .slice (some ⟨W4.heap.size, 0, none⟩) 4 4]] W5 fun e w' => ∃ nb, e = .returned (.tuple #[.slice none 0 0, .int .i64 0]) ∧ SAt T w' sb nb mb exV ∧ Goes (fun t => t = 1 ∨ t = 2) T W5 T w') := by
    have hT : ∀ b, w2.heap.size ≤ b → T b = 0 := fun b hb => H2.out.2.zero b (.inr hb)
    have h := apply_any 0 0 0 (some ⟨bi, 0, none⟩) 10 (some ⟨W4.heap.size, 0, none⟩) 4 exIn [⟨#[]⟩, ⟨#[]⟩, ⟨#[]⟩, ⟨#[]⟩] (H2.out.1.below HB5.out) (fun b hb => hT b (Nat.le_trans HB5.out.size hb)) (num_nil 4) (half_nil 4) (by decide) (by decide)
      ⟨(isK_zb H4.out.2).below H5.out.1, rfl, by simp, Nat.le_refl _, .inr ⟨_, _, rfl⟩⟩ exIn_ok
      ⟨isK_zb H5.out.2, rfl, by simp, Nat.le_refl _, .inr ⟨_, _, rfl⟩, fun b off e => by cases e; exact ⟨hT _ H4.out.1.size, H5.out.2.1⟩⟩
    refine h.mono ?_
    intro e w' hp
    unfold ApIs at hp
    rw [edit_ex] at hp
    obtain ⟨h1, ⟨nb, h2⟩, h3⟩ := hp
    exact ⟨nb, h1, h2, h3⟩
  go_upto_region 7 with (go_at_call 27; go_loud ((try rw [hW5]); refine HAp.out.mono ?_; rintro e w6 ⟨nb, rfl, hs6, hg6⟩; have H6 := hidV (And.intro hs6 hg6); clear hs6 hg6))
  clear hW5 HAp
  have H7 : Hid (Zb w6 w.heap.size Z.toList ∧ Zb w6 (w.heap.size + 1) (cfgA exC).toList ∧ RowKit.Below w.heap.size w w6) := by
    have hb1 := H2.out.2.below
    have hb2 := hb1.trans (HB5.out.mono hb1.size)
    have hg := H6.out.2
    have hk : ∀ b, b < W1.heap.size → w6.heap[b]? = W5.heap[b]? := fun b hb => hg.block b (Nat.lt_of_lt_of_le hb hb2.size) (by rw [H2.out.2.zero b (.inl hb)]; decide)
    have h16 : RowKit.Below W1.heap.size W1 w6 := ⟨hg.os.trans hb2.os, hg.tape.trans hb2.tape, hg.output.trans hb2.output, Nat.le_trans hb2.size hg.size, fun b hb => (hk b hb).trans (hb2.block b hb)⟩
    exact ⟨H1.out.2.1.below h16, H1.out.2.2.below h16, H1.out.1.trans (h16.mono H1.out.1.size)⟩
  have H8 : Hid (w6.heap[w.heap.size]? = some (Obj.cells Z 23)) := by
    have hb1 := H2.out.2.below
    have hb2 := hb1.trans (HB5.out.mono hb1.size)
    have hlt := H1.out.2.1.1
    exact ((H6.out.2.block _ (Nat.lt_of_lt_of_le hlt hb2.size) (by rw [H2.out.2.zero _ (.inl hlt)]; decide)).trans (hb2.block _ hlt)).trans HO1.out
  have HAZ : Hid (∀ off v, w6.drew.cell? ⟨w.heap.size, off, none⟩ = some v → NoVer v) := fun off v hv => by
    have e1 : w6.drew.cell? ⟨w.heap.size, off, none⟩ = Z[off]? := by
      have e2 : w6.drew.heap[w.heap.size]? = some (Obj.cells Z 23) := H8.out
      simp [World.cell?, e2]
    rw [e1] at hv
    have := HZ0.out v (Array.mem_of_getElem? hv)
    subst this
    exact ⟨fun _ _ _ h => (by cases h), fun _ h => (by cases h)⟩
  have hlc : Lc w6 (w.heap.size + 1) exC := fun j v hv => by rw [Nat.zero_add]; exact H7.out.2.1.2.1 j v hv
  have hth : w6.there w.heap.size 0 (cfgA exC).size := fun j hj => by
    have hj' : j < Z.toList.length := by rw [Array.length_toList, HZ27.out]; exact hj
    rw [Nat.zero_add]
    obtain ⟨u, hu⟩ := H7.out.1.some hj'
    exact ⟨by rw [hu]; rfl, H7.out.1.2.2 j⟩
  have HTh := hidV hth
  have HLc := hidV hlc
  have HCu : Hid (Calls Tryz.prog 28 #[.pointer (some ⟨sb, 0, none⟩)] w6.drew fun e w' => e = .returned (.pointer (some ⟨nb, 0, none⟩)) ∧ w' = w6.drew) := current_any (H6.out.1.below (bl_dn (Below.refl _ _) 1))
  clear hth hlc
  go_upto_region 9 with (fail)
  refine wp_region_held_drew (S := (fun X => Lc X (w.heap.size + 1) exC)) (by kernel_rfl) ?_ (fun hHeld => ?_)
  · exact HLc.out.keep H7.out.2.1.1 (bl_dn (Below.refl _ _) 1)
  refine wpAnyH_take (i := 0) (oi := { dst := some 44, op := Go.Op.load 23 (Go.Operand.tmp 2), type := 23, pos := "outright.go:29", after := #[], guard := none }) rfl (by kernel_rfl) (by kernel_rfl) (by kernel_rfl) (fun _ _ _ h => h) (yl_cfg (by rfl) _ (by rfl) (by rfl) (fun V h => h)) hHeld ?_
  try simp only [Act.put, List.setIfInBounds_toArray, List.set_cons_zero, List.set_cons_succ]
  refine wpAnyH_take (i := 1) (oi := { dst := some 45, op := Go.Op.move (Go.Operand.tmp 3), type := 73, pos := "outright.go:29", after := #[], guard := none }) (v := ?_) rfl (by kernel_rfl) (by kernel_rfl) (by kernel_rfl) (fun _ _ _ h => h) (Or.inl ⟨by rfl, ?_⟩) hHeld ?_
  rotate_left
  · (intro wq hSw; (try dsimp only at hSw); go_simp; try (with_reducible rfl))
  try simp only [Act.put, List.setIfInBounds_toArray, List.set_cons_zero, List.set_cons_succ]
  refine wpAnyH_ready (rs := [2]) (by kernel_rfl) (by simp) ?_
  refine AllReadyH.cons (o := { dst := some 46, op := Go.Op.call { callee := Go.Callee.value (Go.Operand.func 28), args := #[Go.Operand.tmp 45], argTypes := #[73] }, type := 29, pos := "outright.go:29", after := #[{ on := 1, ground := Go.Ground.data }], guard := none }) rfl (fun K hK => ?_) AllReadyH.nil
  go_simp
  refine HCu.out.mono ?_
  rintro e w9 ⟨rfl, hw9⟩
  have hw8 := hw9.symm
  clear hw9
  subst hw8
  try dsimp only
  refine hK.out _ _ ?_ (fun hHeld => ?_)
  · exact hHeld
  clear hK K
  try simp only [Act.put, List.setIfInBounds_toArray, List.set_cons_zero, List.set_cons_succ]
  refine wpAnyH_ready (rs := [3]) (by kernel_rfl) (by simp) ?_
  refine AllReadyH.cons (o := { dst := none, op := Go.Op.store 23 (Go.Operand.tmp 0) (Go.Operand.tmp 44), type := 0, pos := "outright.go:29", after := #[{ on := 0, ground := Go.Ground.data }, { on := 2, ground := Go.Ground.chain }, { on := 0, ground := Go.Ground.phase }, { on := 1, ground := Go.Ground.textOnly Go.Departure.lateStores }, { on := 2, ground := Go.Ground.textOnly Go.Departure.lateStoresUnsure }], guard := none }) rfl (fun K hK => ?_) AllReadyH.nil
  rw [if_pos (by rfl)]
  refine wp_store_mid 23 _ _ (by rfl) w.heap.size 0 (cfgA exC) (by rfl) (by rfl) (fun j hj => by have := HTh.out j hj; simpa using this) (by rw [← Array.length_toList]; exact Lc.info exC) (by simp [cfgA, Value.oneCell']) ?_
  refine hK.out _ _ ?_ (fun hHeld => ?_)
  · exact World.rangeAt_setCells_apart hHeld _ _ _ (.inl (by omega))
  clear hK K
  try simp only [Act.put, List.setIfInBounds_toArray, List.set_cons_zero, List.set_cons_succ]
  refine wpAnyH_ready (rs := [4]) (by kernel_rfl) (by simp) ?_
  refine AllReadyH.cons (o := { dst := some 1, op := Go.Op.assign (Go.Operand.tmp 46), type := 29, pos := "outright.go:29", after := #[{ on := 2, ground := Go.Ground.data }, { on := 3, ground := Go.Ground.chain }, { on := 0, ground := Go.Ground.phase }, { on := 1, ground := Go.Ground.phase }, { on := 2, ground := Go.Ground.phase }, { on := 3, ground := Go.Ground.phase }], guard := none }) rfl (fun K hK => ?_) AllReadyH.nil
  go_simp
  refine hK.out _ _ ?_ (fun hHeld => ?_)
  · exact hHeld
  clear hK K
  try simp only [Act.put, List.setIfInBounds_toArray, List.set_cons_zero, List.set_cons_succ]
  refine wpAnyH_done (by kernel_rfl) ?_ _
  simp only [Exit.then]
  apply_assumption
  go_wp2
  have hzA : Zb (w6.drew.setCells w.heap.size 0 (cfgA exC).toList) w.heap.size (cfgA exC).toList := by
    rw [setCells_sets]
    exact (H7.out.1.below (bl_dn (Below.refl _ _) 1)).sets (by rw [cfgA_len, Array.length_toList, HZ27.out]; exact Nat.le_refl _)
  refine bodyPost_ret (res_cf2 rfl _ _ w.heap.size exC rfl hzA) rfl ⟨nb, rfl, ?_, ?_⟩
  · refine (H6.out.1.ver.at_.below (bl_dn (Below.refl _ _) 1)).apart (A := w.heap.size) (fun off v hv => HAZ.out off v hv) (fun b hb => ?_) ?_
    · rw [setCells_sets]
      exact sets_block _ _ b hb _ 0
    · rw [setCells_sets, sets_size]
      exact Nat.le_refl _
  · rw [setCells_sets]
    exact below_sets (Nat.le_refl _) _ _ _ (bl_dn H7.out.2.2 1)
end Vr
end Go.Proofs.YtaejjpbpnedblaaGreat
