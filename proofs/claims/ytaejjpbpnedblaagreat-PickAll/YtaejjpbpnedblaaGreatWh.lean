import Derived.Test.YtaejjpbpnedblaaGreatWg
namespace Go.Proofs.YtaejjpbpnedblaaGreat
namespace Vr
open Go.Shelf Go.RowKit Go.Lib Go.Sort Go.Maps Go.ChangeMaps Go.MapKept Laws Irw Crw
set_option linter.unusedVariables false
set_option linter.unusedSimpArgs false
set_option maxRecDepth 20000
/-- the job of a level from 1 on -/
def inp (f n : Nat) (V : Lv) (i : Nat) (t : Tb) : Jb := { dn f V i t with mv := (dn f V i t).lo.isEmpty && decide (i + 1 < n - 1) }
def JnIs (w : World) (j : Jb) (ok : Bool) (e : Ending) (w' : World) : Prop := ∃ us ls : Sv, e = .returned (.tuple #[jbV j.lv us ls j.cut j.mv, .bool ok]) ∧ JAt w' us ls j ∧ RowKit.Below w.heap.size w w' ∧ (∀ b off, us.1 = some ⟨b, off, none⟩ → w.heap.size ≤ b) ∧ ∀ b off, ls.1 = some ⟨b, off, none⟩ → w.heap.size ≤ b
theorem fresh_of {w W0 W8 : World} {a : Option Addr} {B : Nat} (h1 : RowKit.Below w.heap.size w W0) (h2 : RowKit.Below W0.heap.size W0 W8) (hu : ∀ b off, a = some ⟨b, off, none⟩ → b < W8.heap.size → W0.heap.size ≤ b ∧ b ≠ B) : ∀ b off, a = some ⟨b, off, none⟩ → w.heap.size ≤ b := fun b off e => by
  have s1 := h1.size
  have s2 := h2.size
  by_cases hb : b < W8.heap.size
  · have := (hu b off e hb).1
    omega
  · omega
/-- where the job is made -/
def JBx (w0 W8 : World) (v : Value) (j : Jb) : Prop := ∃ (B : Nat) (us ls : Sv), v = .pointer (some ⟨B, 0, none⟩) ∧ w0.heap.size ≤ B ∧ Zb W8 B (jbC j.lv us ls j.cut false) ∧ JAt W8 us ls j ∧ RowKit.Below w0.heap.size w0 W8 ∧ (∀ b off, us.1 = some ⟨b, off, none⟩ → b < W8.heap.size → w0.heap.size ≤ b ∧ b ≠ B) ∧ ∀ b off, ls.1 = some ⟨b, off, none⟩ → b < W8.heap.size → w0.heap.size ≤ b ∧ b ≠ B
theorem jbx_set {W0 wD : World} {B : Nat} {us ls : Sv} {j : Jb} (hB : W0.heap.size ≤ B) (hz : Zb wD B (jbC 0 nS nS ⟨#[]⟩ false)) (hj : JAt wD us ls j) (hb : RowKit.Below W0.heap.size W0 wD) (hu : ∀ b off, us.1 = some ⟨b, off, none⟩ → W0.heap.size ≤ b ∧ b ≠ B) (hl : ∀ b off, ls.1 = some ⟨b, off, none⟩ → W0.heap.size ≤ b ∧ b ≠ B) (hm : j.mv = false) :
    JBx W0 (sets wD B 0 (jbC j.lv us ls j.cut j.mv)) (.pointer (some ⟨B, 0, none⟩)) j := by
  rw [hm]
  have hk : ∀ b, b ≠ B → (sets wD B 0 (jbC j.lv us ls j.cut false)).heap[b]? = wD.heap[b]? := fun b h => sets_block wD B b h _ 0
  refine ⟨B, us, ls, rfl, hB, hz.sets (by simp [jbC]), ⟨hj.1.keep (fun b off e _ => hk b (hu b off e).2) (by rw [sets_size]; exact Nat.le_refl _), hj.2.keep (fun b off e _ => hk b (hl b off e).2) (by rw [sets_size]; exact Nat.le_refl _)⟩, sets_below B hB _ 0 hb, fun b off e _ => hu b off e, fun b off e _ => hl b off e⟩
theorem jbx_alloc {W0 wD : World} {us ls : Sv} {j : Jb} (hb : RowKit.Below W0.heap.size W0 wD) (hj : JAt wD us ls j) (hu : ∀ b off, us.1 = some ⟨b, off, none⟩ → W0.heap.size ≤ b ∧ b ≠ wD.heap.size) (hl : ∀ b off, ls.1 = some ⟨b, off, none⟩ → W0.heap.size ≤ b ∧ b ≠ wD.heap.size) (hm : j.mv = false) (ty : TypeId) :
    JBx W0 (wD.alloc (Obj.cells #[.int .i64 j.lv, .slice us.1 us.2.1 us.2.2, .slice ls.1 ls.2.1 ls.2.2, .string j.cut, .bool j.mv] ty)) (.pointer (some ⟨wD.heap.size, 0, none⟩)) j := by
  rw [hm]
  have hb1 : RowKit.Below wD.heap.size wD (wD.alloc (Obj.cells #[.int .i64 j.lv, .slice us.1 us.2.1 us.2.2, .slice ls.1 ls.2.1 ls.2.2, .string j.cut, .bool false] ty)) := (Below.refl _ _).alloc (Nat.le_refl _) _
  exact ⟨wD.heap.size, us, ls, rfl, hb.size, Zb.new wD _ _, hj.below hb1, hb.trans (hb1.mono hb.size), fun b off e _ => hu b off e, fun b off e _ => hl b off e⟩
theorem res_jb2 {fn : Func} {p q : Tmp} (h : fn.results = #[.cell p 62, .tmp q]) (tmps : Array Value) (w : World) (B : Nat) (lv : Int) (us ls : Sv) (cut : ByteArray) (mv : Bool) (hp : tmps.getD p undef = .pointer (some ⟨B, 0, none⟩)) (hz : Zb w B (jbC lv us ls cut mv)) :
    (results fn tmps).run Tryz.prog w = .ok (.tuple #[jbV lv us ls cut mv, tmps.getD q undef]) w := by
  have c0 := hz.2.1 0 _ rfl
  have c1 := hz.2.1 1 _ rfl
  have c2 := hz.2.1 2 _ rfl
  have c3 := hz.2.1 3 _ rfl
  have c4 := hz.2.1 4 _ rfl
  simp only [results, h]
  have hp' : tmps[p]?.getD undef = .pointer (some ⟨B, 0, none⟩) := by simpa using hp
  simp [Sem.run_bind, Result.andThen, hp', go_sem, c0, c1, c2, c3, c4, jbV]
/-- the end of Inputs -/
theorem inp_end {w W0 W8 wX : World} {B : Nat} {us ls : Sv} {j : Jb} (m : Bool) (hw : RowKit.Below w.heap.size w W0) (hz0 : Zb W0 (w.heap.size + 1) (jbC 0 nS nS ⟨#[]⟩ false)) (hB : W0.heap.size ≤ B) (hz : Zb W8 B (jbC j.lv us ls j.cut false)) (hj : JAt W8 us ls j) (hb : RowKit.Below W0.heap.size W0 W8) (hu : ∀ b off, us.1 = some ⟨b, off, none⟩ → b < W8.heap.size → W0.heap.size ≤ b ∧ b ≠ B) (hl : ∀ b off, ls.1 = some ⟨b, off, none⟩ → b < W8.heap.size → W0.heap.size ≤ b ∧ b ≠ B) (hX : RowKit.Below W8.heap.size W8 wX) :
    Zb (wX.setCell ⟨B, 4, none⟩ (.bool m)) B (jbC j.lv us ls j.cut m) ∧ Zb (wX.setCell ⟨B, 4, none⟩ (.bool m)) (w.heap.size + 1) (jbC 0 nS nS ⟨#[]⟩ false) ∧
    Zb (sets (wX.setCell ⟨B, 4, none⟩ (.bool m)) (w.heap.size + 1) 0 (jbC j.lv us ls j.cut m)) (w.heap.size + 1) (jbC j.lv us ls j.cut m) ∧ JAt (sets (wX.setCell ⟨B, 4, none⟩ (.bool m)) (w.heap.size + 1) 0 (jbC j.lv us ls j.cut m)) us ls { j with mv := m } ∧ RowKit.Below w.heap.size w (sets (wX.setCell ⟨B, 4, none⟩ (.bool m)) (w.heap.size + 1) 0 (jbC j.lv us ls j.cut m)) := by
  have h1 : w.heap.size + 1 < W0.heap.size := hz0.1
  have d0 : Zb wX (w.heap.size + 1) (jbC 0 nS nS ⟨#[]⟩ false) := (hz0.below hb).below hX
  have d1 : Zb (wX.setCell ⟨B, 4, none⟩ (.bool m)) (w.heap.size + 1) (jbC 0 nS nS ⟨#[]⟩ false) := d0.other (w' := wX) 4 _ (by omega)
  have hk : ∀ b, b < W8.heap.size → b ≠ B → b ≠ w.heap.size + 1 → (sets (wX.setCell ⟨B, 4, none⟩ (.bool m)) (w.heap.size + 1) 0 (jbC j.lv us ls j.cut m)).heap[b]? = W8.heap[b]? := fun b h h2 h3 => ((sets_block _ _ b h3 _ 0).trans (Below.heap_setCell wX _ _ b (fun e => h2 e))).trans (hX.block b h)
  have hs : W8.heap.size ≤ (sets (wX.setCell ⟨B, 4, none⟩ (.bool m)) (w.heap.size + 1) 0 (jbC j.lv us ls j.cut m)).heap.size := by rw [sets_size]; simpa using hX.size
  have hbX : RowKit.Below w.heap.size w wX := (hw.trans (hb.mono hw.size)).trans (hX.mono (Nat.le_trans hw.size hb.size))
  refine ⟨(hz.below hX).set 4 _, d1, d1.sets (by simp [jbC]), ⟨hj.1.keep (fun b off e h => hk b h (hu b off e h).2 (by have := (hu b off e h).1; omega)) hs, hj.2.keep (fun b off e h => hk b h (hl b off e h).2 (by have := (hl b off e h).1; omega)) hs⟩, sets_below _ (by omega) _ 0 (hbX.setCell (p := ⟨B, 4, none⟩) (show w.heap.size ≤ B by have := hw.size; omega) _)⟩
theorem wpList_cfgG {ops : Array Oper} {rest : List Oper} {op : Oper} {a : Act} {w : World} {Q : Exit → Act → World → Prop} {c : Cf} {b : Nat} (hw : Region.wanted op (yielded ops a.tmps) = true) (x : Operand) (ho : op.op = .load 23 x) (hx : a.eval x = .pointer (some ⟨b, 0, none⟩)) (hc : Lc w b c)
    (h : wpList Tryz.prog ops Q rest (a.put op.dst (.agg (cfgA c))) w) : wpList Tryz.prog ops Q (op :: rest) a w :=
  wpList_step fun K hK => by
    rw [if_pos hw]
    exact wp_load_mid _ x ho b 0 hx (cfgA c).toList _ hc Tryz.underlying23 rfl (Lc.info c) (by rw [toC]; exact hK _ _ h)
set_option maxHeartbeats 4000000 in
theorem inputsI_any (c : Cf) (vb : Nat) (V : Lv) (pa : Option Addr) (pc : Nat) (ps : List ByteArray) (i f : Nat) (l : List Tb) (t : Tb) (w : World) (h : VAt w vb V) (hc : Cr c V.length) (hn : NumOk V) (hpp : Ls kT w (pa, ps.length, pc) ps) (hps : ps.length ≤ 1000000000) (hf : c 12 = f) (h1 : 1 ≤ i) (h2 : i + 1 < V.length) (hl : V[i]? = some l) (hpos : 0 < l.length) (ht : l[beh l (ptr ps i)]? = some t) :
    Calls Tryz.prog 18 #[.agg (cfgA c), .pointer (some ⟨vb, 0, none⟩), .slice pa ps.length pc, .int .i64 (i : Int)] w fun e w' => JnIs w (inp f V.length V i t) true e w' := by
  have hn5 := hc.n5
  have hn3 := hc.n3
  have hf1 : 1 ≤ f ∧ f ≤ 16 := by have := hc.fa; omega
  have hlen := h.1.2 l (List.mem_of_getElem? hl)
  obtain ⟨W, hW⟩ : ∃ X, (w.alloc (Obj.cells (cfgA c) 23)).alloc (Obj.cells #[.int .i64 0, .slice none 0 0, .slice none 0 0, .string ⟨#[]⟩, .bool false] 62) = X := ⟨_, rfl⟩
  have HW : Hid (RowKit.Below w.heap.size w W ∧ Lc W w.heap.size c ∧ Zb W (w.heap.size + 1) (jbC 0 nS nS ⟨#[]⟩ false) ∧ w.heap.size + 1 < W.heap.size) := by
    subst hW
    have hz := Zb.new (w.alloc (Obj.cells (cfgA c) 23)) #[.int .i64 0, .slice none 0 0, .slice none 0 0, .string ⟨#[]⟩, .bool false] 62
    refine ⟨((Below.refl _ _).alloc (Nat.le_refl _) _).alloc (by simp) _, (lc_new w c 23).keep (by simp) ((Below.refl _ _).alloc (Nat.le_refl _) _), ?_, by simp⟩
    have e : (w.alloc (Obj.cells (cfgA c) 23)).heap.size = w.heap.size + 1 := by simp
    rw [e] at hz
    exact hz
  have HA : Hid (VAt w vb V ∧ Cr c V.length ∧ NumOk V ∧ Ls kT w (pa, ps.length, pc) ps ∧ V[i]? = some l) := ⟨h, hc, hn, hpp, hl⟩
  have HT : Hid (l[beh l (ptr ps i)]? = some t) := ht
  have HF : Hid (c 12 = f) := hf
  have q0 : ¬ (i : Int) < 0 := by omega
  have q1 : ¬ (V.length : Int) - 1 ≤ (i : Int) := by omega
  have q2 : ¬ (i : Int) = 0 := by omega
  have q3 : ¬ (l.length : Int) = 0 := by omega
  have q4 : ¬ l.length = 0 := by omega
  have q5 : IntKind.i64.wrap ((i : Int) + 1) = (i : Int) + 1 := IntWalk.i64_in _ (by omega)
  have hLW := HW.out.2.1
  clear h hc hn hpp hl ht hf
  go_enter Tryz.func18, Tryz.ntmps18
  go_upto_region 3 with (first
    | ((try rw [hW]); refine wpList_cfgG (by rfl) _ (by rfl) (by rfl) hLW ?_)
    | (go_at_call 56; go_loud ((try rw [hW]); refine (last_any c vb V _ (HA.out.1.below HW.out.1) HA.out.2.1).mono ?_; rintro e w1 ⟨rfl, hb1⟩; have HB1 : Hid (RowKit.Below W.heap.size W w1) := hb1; clear hb1)))
  clear hW hLW
  have HTB : Hid (Calls Tryz.prog 16 #[.pointer (some ⟨vb, 0, none⟩), .int .i64 (i : Int)] w1 fun e w' => NewIs w1 l e w') := by
    have := tables_any vb V (i : Int) w1 (HA.out.1.below (HW.out.1.trans (HB1.out.mono HW.out.1.size)))
    rw [lev_in HA.out.2.2.2.2] at this
    exact this
  go_upto_region 8 with (go_at_call 16; go_loud (refine HTB.out.mono ?_; rintro e W0 ⟨_, rfl, ⟨G, rfl, hG, hrow⟩, hb2⟩; have HB2 : Hid (RowKit.Below w1.heap.size w1 W0 ∧ W0.ownsRow 0 76 6 (.slice (some ⟨G, 0, none⟩) l.length l.length) l.length (kTb.cells l)) := ⟨hb2, hrow⟩; clear hb2 hrow hG; simp only [svV]))
  clear HTB
  obtain ⟨sa, hsa⟩ : ∃ x : Option Addr, some (⟨G, 0, none⟩ : Addr) = x := ⟨_, rfl⟩
  obtain ⟨sc, hsc⟩ : ∃ x, l.length = x := ⟨_, rfl⟩
  have HBW : Hid (RowKit.Below w.heap.size w W0 ∧ RowKit.Below W.heap.size W W0) := by
    have h2 := HB1.out.trans (HB2.out.1.mono HB1.out.size)
    exact ⟨HW.out.1.trans (h2.mono HW.out.1.size), h2⟩
  have HV : Hid (VAt W0 vb V ∧ Ls kT w (pa, ps.length, pc) ps ∧ Ls kTb W0 (some ⟨G, 0, none⟩, l.length, l.length) l ∧ (∀ t ∈ l, t.no < U64) ∧ RowKit.Below w.heap.size w W0) := ⟨HA.out.1.below HBW.out.1, HA.out.2.2.2.1, Ls.row HB2.out.2 rfl, HA.out.2.2.1 l (List.mem_of_getElem? HA.out.2.2.2.2), HBW.out.1⟩
  have HL : Hid (Lc W0 w.heap.size c ∧ Zb W0 (w.heap.size + 1) (jbC 0 nS nS ⟨#[]⟩ false)) := ⟨HW.out.2.1.keep (by have := HW.out.2.2.2; omega) HBW.out.2, HW.out.2.2.1.below HBW.out.2⟩
  have HZ : Hid (w.heap.size < W0.heap.size) := by
    have h1 := HW.out.2.2.2
    have h3 := HBW.out.2.size
    show _ < _
    omega
  clear HB1 HB2 hsa hsc sa sc
  go_cut [11] (fun v w' => Hid (JBx W0 w' v (dn f V i t)))
  case first =>
    refine wp_region_held_drew (S := (fun X => Lc X w.heap.size c ∧ RowKit.Below W0.heap.size W0 X)) (by kernel_rfl) ?_ (fun hHeld => ?_)
    · exact ⟨HL.out.1.keep HZ.out (Below.refl _ _).drew, (Below.refl _ _).drew⟩
    refine wpAnyH_take (i := 0) (oi := { dst := some 34, op := Go.Op.load 23 (Go.Operand.tmp 4), type := 23, pos := "inputs.go:22", after := #[], guard := none }) rfl (by kernel_rfl) (by kernel_rfl) (by kernel_rfl) (fun _ _ _ h => h) (yl_cfg (by rfl) _ (by rfl) (by rfl) (fun V h => h.1)) hHeld ?_
    try simp only [Act.put, List.setIfInBounds_toArray, List.set_cons_zero, List.set_cons_succ]
    refine wpAnyH_take (i := 1) (oi := { dst := some 35, op := Go.Op.move (Go.Operand.tmp 1), type := 29, pos := "inputs.go:22", after := #[], guard := none }) (v := ?_) rfl (by kernel_rfl) (by kernel_rfl) (by kernel_rfl) (fun _ _ _ h => h) (Or.inl ⟨by rfl, ?_⟩) hHeld ?_
    rotate_left
    · (intro wq hSw; (try dsimp only at hSw); go_simp; try (with_reducible rfl))
    try simp only [Act.put, List.setIfInBounds_toArray, List.set_cons_zero, List.set_cons_succ]
    refine wpAnyH_take (i := 2) (oi := { dst := some 36, op := Go.Op.move (Go.Operand.tmp 10), type := 58, pos := "inputs.go:22", after := #[], guard := none }) (v := ?_) rfl (by kernel_rfl) (by kernel_rfl) (by kernel_rfl) (fun _ _ _ h => h) (Or.inl ⟨by rfl, ?_⟩) hHeld ?_
    rotate_left
    · (intro wq hSw; (try dsimp only at hSw); go_simp; try (with_reducible rfl))
    try simp only [Act.put, List.setIfInBounds_toArray, List.set_cons_zero, List.set_cons_succ]
    refine wpAnyH_take (i := 3) (oi := { dst := some 37, op := Go.Op.move (Go.Operand.tmp 2), type := 25, pos := "inputs.go:22", after := #[], guard := none }) (v := ?_) rfl (by kernel_rfl) (by kernel_rfl) (by kernel_rfl) (fun _ _ _ h => h) (Or.inl ⟨by rfl, ?_⟩) hHeld ?_
    rotate_left
    · (intro wq hSw; (try dsimp only at hSw); go_simp; try (with_reducible rfl))
    try simp only [Act.put, List.setIfInBounds_toArray, List.set_cons_zero, List.set_cons_succ]
    refine wpAnyH_take (i := 4) (oi := { dst := some 38, op := Go.Op.move (Go.Operand.tmp 3), type := 3, pos := "inputs.go:22", after := #[], guard := none }) (v := ?_) rfl (by kernel_rfl) (by kernel_rfl) (by kernel_rfl) (fun _ _ _ h => h) (Or.inl ⟨by rfl, ?_⟩) hHeld ?_
    rotate_left
    · (intro wq hSw; (try dsimp only at hSw); go_simp; try (with_reducible rfl))
    try simp only [Act.put, List.setIfInBounds_toArray, List.set_cons_zero, List.set_cons_succ]
    refine wpAnyH_take (i := 7) (oi := { dst := some 41, op := Go.Op.move (Go.Operand.tmp 3), type := 3, pos := "inputs.go:22", after := #[], guard := none }) (v := ?_) rfl (by kernel_rfl) (by kernel_rfl) (by kernel_rfl) (fun _ _ _ h => h) (Or.inl ⟨by rfl, ?_⟩) hHeld ?_
    rotate_left
    · (intro wq hSw; (try dsimp only at hSw); go_simp; try (with_reducible rfl))
    try simp only [Act.put, List.setIfInBounds_toArray, List.set_cons_zero, List.set_cons_succ]
    refine wpAnyH_ready (rs := [5, 9]) (by kernel_rfl) (by simp) ?_
    refine (AllReadyH.cons (o := { dst := some 39, op := Go.Op.call { callee := Go.Callee.value (Go.Operand.func 62), args := #[Go.Operand.tmp 37, Go.Operand.tmp 38], argTypes := #[25, 3] }, type := 9, pos := "inputs.go:22", after := #[{ on := 3, ground := Go.Ground.data }, { on := 4, ground := Go.Ground.data }], guard := none }) rfl (fun K hK => ?_) (AllReadyH.cons (o := { dst := some 11, op := Go.Op.alloc 62, type := 0, pos := "inputs.go:22", after := #[], guard := none }) rfl (fun K hK => ?_) AllReadyH.nil))
    · skip
      go_simp
      refine (pointer_any pa pc ps i _ (HV.out.2.1.below (HV.out.2.2.2.2.trans (hHeld.2.mono HV.out.2.2.2.2.size))) hps (by omega)).mono ?_
      rintro e w9 ⟨rfl, hw9⟩
      rw [hw9]
      clear hw9
      try dsimp only
      refine hK.out _ _ ?_ (fun hHeld => ?_)
      · exact hHeld
      clear hK K
      try simp only [Act.put, List.setIfInBounds_toArray, List.set_cons_zero, List.set_cons_succ]
      refine wpAnyH_ready (rs := [6, 9]) (by kernel_rfl) (by simp) ?_
      refine (AllReadyH.cons (o := { dst := some 40, op := Go.Op.call { callee := Go.Callee.value (Go.Operand.func 61), args := #[Go.Operand.tmp 36, Go.Operand.tmp 39], argTypes := #[58, 9] }, type := 76, pos := "inputs.go:22", after := #[{ on := 2, ground := Go.Ground.data }, { on := 5, ground := Go.Ground.data }, { on := 5, ground := Go.Ground.chain }], guard := none }) rfl (fun K hK => ?_) (AllReadyH.cons (o := { dst := some 11, op := Go.Op.alloc 62, type := 0, pos := "inputs.go:22", after := #[], guard := none }) rfl (fun K hK => ?_) AllReadyH.nil))
      · skip
        go_simp
        refine (behind_any (some ⟨G, 0, none⟩) l.length l (ptr ps i) _ (HV.out.2.2.1.below hHeld.2) HV.out.2.2.2.1 hlen hpos HT.out).mono ?_
        rintro e wB ⟨rfl, hbB⟩
        have hBge : Hid (W0.heap.size ≤ wB.heap.size) := Nat.le_trans hHeld.2.size hbB.size
        unfold tbV
        try dsimp only
        refine hK.out _ _ ?_ (fun hHeld => ?_)
        · exact ⟨hHeld.1.keep (Nat.lt_of_lt_of_le HZ.out hHeld.2.size) hbB, hHeld.2.trans (hbB.mono hHeld.2.size)⟩
        clear hK K
        try simp only [Act.put, List.setIfInBounds_toArray, List.set_cons_zero, List.set_cons_succ]
        refine wpAnyH_ready (rs := [8, 9]) (by kernel_rfl) (by simp) ?_
        refine (AllReadyH.cons (o := { dst := some 42, op := Go.Op.call { callee := Go.Callee.value (Go.Operand.func 60), args := #[Go.Operand.tmp 34, Go.Operand.tmp 35, Go.Operand.tmp 40, Go.Operand.tmp 41], argTypes := #[23, 29, 76, 3] }, type := 62, pos := "inputs.go:22", after := #[{ on := 0, ground := Go.Ground.data }, { on := 1, ground := Go.Ground.data }, { on := 6, ground := Go.Ground.data }, { on := 7, ground := Go.Ground.data }, { on := 6, ground := Go.Ground.chain }], guard := none }) rfl (fun K hK => ?_) (AllReadyH.cons (o := { dst := some 11, op := Go.Op.alloc 62, type := 0, pos := "inputs.go:22", after := #[], guard := none }) rfl (fun K hK => ?_) AllReadyH.nil))
        · skip
          go_simp
          refine (down_any c vb V t i f _ (HV.out.1.below hHeld.2) HF.out hf1 (by omega)).mono ?_
          rintro e wD ⟨us, ls, rfl, hj9, hbD, hu9, hl9⟩
          have hDge : Hid (W0.heap.size ≤ wD.heap.size) := Nat.le_trans hHeld.2.size hbD.size
          have hDb : Hid (RowKit.Below W0.heap.size W0 wD) := hHeld.2.trans (hbD.mono hHeld.2.size)
          unfold jbV
          try dsimp only
          refine hK.out _ _ ?_ (fun hHeld => ?_)
          · exact ⟨hHeld.1.keep (Nat.lt_of_lt_of_le HZ.out hHeld.2.size) hbD, hHeld.2.trans (hbD.mono hHeld.2.size)⟩
          clear hK K
          try simp only [Act.put, List.setIfInBounds_toArray, List.set_cons_zero, List.set_cons_succ]
          refine wpAnyH_ready (rs := [9]) (by kernel_rfl) (by simp) ?_
          refine (AllReadyH.cons (o := { dst := some 11, op := Go.Op.alloc 62, type := 0, pos := "inputs.go:22", after := #[], guard := none }) rfl (fun K hK => ?_) AllReadyH.nil)
          go_simp
          refine hK.out _ _ ?_ (fun hHeld => ?_)
          · exact ⟨hHeld.1.keep (Nat.lt_of_lt_of_le HZ.out hHeld.2.size) ((Below.refl _ _).alloc (Nat.le_refl _) _), hHeld.2.alloc hHeld.2.size _⟩
          clear hK K
          try simp only [Act.put, List.setIfInBounds_toArray, List.set_cons_zero, List.set_cons_succ]
          refine wpAnyH_ready (rs := [10]) (by kernel_rfl) (by simp) ?_
          refine (AllReadyH.cons (o := { dst := none, op := Go.Op.store 62 (Go.Operand.tmp 11) (Go.Operand.tmp 42), type := 0, pos := "inputs.go:22", after := #[{ on := 9, ground := Go.Ground.data }, { on := 8, ground := Go.Ground.data }, { on := 8, ground := Go.Ground.chain }, { on := 0, ground := Go.Ground.phase }, { on := 1, ground := Go.Ground.phase }, { on := 2, ground := Go.Ground.phase }, { on := 3, ground := Go.Ground.phase }, { on := 4, ground := Go.Ground.phase }, { on := 5, ground := Go.Ground.phase }, { on := 6, ground := Go.Ground.phase }, { on := 7, ground := Go.Ground.phase }, { on := 8, ground := Go.Ground.phase }, { on := 9, ground := Go.Ground.phase }], guard := none }) rfl (fun K hK => ?_) AllReadyH.nil)
          have hzz : Zb (wD.alloc (Obj.cells #[.int .i64 0, .slice none 0 0, .slice none 0 0, .string ⟨#[]⟩, .bool false] 62)) wD.heap.size (jbC 0 nS nS ⟨#[]⟩ false) := (Zb.new wD #[.int .i64 0, .slice none 0 0, .slice none 0 0, .string ⟨#[]⟩, .bool false] 62)
          have z0 := hzz.2.1 0 _ rfl
          have z1 := hzz.2.1 1 _ rfl
          have z2 := hzz.2.1 2 _ rfl
          have z3 := hzz.2.1 3 _ rfl
          have z4 := hzz.2.1 4 _ rfl
          have f0 := hzz.2.2
          go_simp
          refine hK.out _ _ ?_ (fun hHeld => ?_)
          · exact ⟨HL.out.1.keep HZ.out (hDb.out.alloc hDge.out _), hDb.out.alloc hDge.out _⟩
          clear hK K
          try simp only [Act.put, List.setIfInBounds_toArray, List.set_cons_zero, List.set_cons_succ]
          refine wpAnyH_done (by kernel_rfl) ?_ _
          go_wp2
          go_meet
          case rel =>
            exact jbx_alloc hDb.out hj9 (fun b off e => by have h9 := hu9 b off e; have h8 := hbB.size; have h7 := hBge.out; have h6 := hbD.size; simp at h9 h8 h6; omega) (fun b off e => by have h9 := hl9 b off e; have h8 := hbB.size; have h7 := hBge.out; have h6 := hbD.size; simp at h9 h8 h6; omega) rfl _
        · skip
          go_simp
          refine hK.out _ _ ?_ (fun hHeld => ?_)
          · exact ⟨hHeld.1.keep (Nat.lt_of_lt_of_le HZ.out hHeld.2.size) ((Below.refl _ _).alloc (Nat.le_refl _) _), hHeld.2.alloc hHeld.2.size _⟩
          clear hK K
          try simp only [Act.put, List.setIfInBounds_toArray, List.set_cons_zero, List.set_cons_succ]
          refine wpAnyH_ready (rs := [8]) (by kernel_rfl) (by simp) ?_
          refine (AllReadyH.cons (o := { dst := some 42, op := Go.Op.call { callee := Go.Callee.value (Go.Operand.func 60), args := #[Go.Operand.tmp 34, Go.Operand.tmp 35, Go.Operand.tmp 40, Go.Operand.tmp 41], argTypes := #[23, 29, 76, 3] }, type := 62, pos := "inputs.go:22", after := #[{ on := 0, ground := Go.Ground.data }, { on := 1, ground := Go.Ground.data }, { on := 6, ground := Go.Ground.data }, { on := 7, ground := Go.Ground.data }, { on := 6, ground := Go.Ground.chain }], guard := none }) rfl (fun K hK => ?_) AllReadyH.nil)
          go_simp
          refine (down_any c vb V t i f _ (HV.out.1.below hHeld.2) HF.out hf1 (by omega)).mono ?_
          rintro e wD ⟨us, ls, rfl, hj9, hbD, hu9, hl9⟩
          have hDge : Hid (W0.heap.size ≤ wD.heap.size) := Nat.le_trans hHeld.2.size hbD.size
          have hDb : Hid (RowKit.Below W0.heap.size W0 wD) := hHeld.2.trans (hbD.mono hHeld.2.size)
          unfold jbV
          try dsimp only
          refine hK.out _ _ ?_ (fun hHeld => ?_)
          · exact ⟨hHeld.1.keep (Nat.lt_of_lt_of_le HZ.out hHeld.2.size) hbD, hHeld.2.trans (hbD.mono hHeld.2.size)⟩
          clear hK K
          try simp only [Act.put, List.setIfInBounds_toArray, List.set_cons_zero, List.set_cons_succ]
          refine wpAnyH_ready (rs := [10]) (by kernel_rfl) (by simp) ?_
          refine (AllReadyH.cons (o := { dst := none, op := Go.Op.store 62 (Go.Operand.tmp 11) (Go.Operand.tmp 42), type := 0, pos := "inputs.go:22", after := #[{ on := 9, ground := Go.Ground.data }, { on := 8, ground := Go.Ground.data }, { on := 8, ground := Go.Ground.chain }, { on := 0, ground := Go.Ground.phase }, { on := 1, ground := Go.Ground.phase }, { on := 2, ground := Go.Ground.phase }, { on := 3, ground := Go.Ground.phase }, { on := 4, ground := Go.Ground.phase }, { on := 5, ground := Go.Ground.phase }, { on := 6, ground := Go.Ground.phase }, { on := 7, ground := Go.Ground.phase }, { on := 8, ground := Go.Ground.phase }, { on := 9, ground := Go.Ground.phase }], guard := none }) rfl (fun K hK => ?_) AllReadyH.nil)
          have hzz : Zb wD wB.heap.size (jbC 0 nS nS ⟨#[]⟩ false) := ((Zb.new wB #[.int .i64 0, .slice none 0 0, .slice none 0 0, .string ⟨#[]⟩, .bool false] 62)).below hbD
          have z0 := hzz.2.1 0 _ rfl
          have z1 := hzz.2.1 1 _ rfl
          have z2 := hzz.2.1 2 _ rfl
          have z3 := hzz.2.1 3 _ rfl
          have z4 := hzz.2.1 4 _ rfl
          have f0 := hzz.2.2
          go_simp
          refine hK.out _ _ ?_ (fun hHeld => ?_)
          · have hbb := sets_below (w0 := W0) (w := wD) wB.heap.size (hBge.out) (jbC (dn f V i t).lv us ls (dn f V i t).cut (dn f V i t).mv) 0 hHeld.2
            exact ⟨HL.out.1.keep HZ.out hbb, hbb⟩
          clear hK K
          try simp only [Act.put, List.setIfInBounds_toArray, List.set_cons_zero, List.set_cons_succ]
          refine wpAnyH_done (by kernel_rfl) ?_ _
          go_wp2
          go_meet
          case rel =>
            exact jbx_set (B := wB.heap.size) (hBge.out) hzz hj9 hDb.out (fun b off e => by have h9 := hu9 b off e; have h8 := hbB.size; have h7 := hBge.out; have h6 := hbD.size; simp at h9 h8 h6; omega) (fun b off e => by have h9 := hl9 b off e; have h8 := hbB.size; have h7 := hBge.out; have h6 := hbD.size; simp at h9 h8 h6; omega) rfl
      · skip
        go_simp
        refine hK.out _ _ ?_ (fun hHeld => ?_)
        · exact ⟨hHeld.1.keep (Nat.lt_of_lt_of_le HZ.out hHeld.2.size) ((Below.refl _ _).alloc (Nat.le_refl _) _), hHeld.2.alloc hHeld.2.size _⟩
        clear hK K
        try simp only [Act.put, List.setIfInBounds_toArray, List.set_cons_zero, List.set_cons_succ]
        refine wpAnyH_ready (rs := [6]) (by kernel_rfl) (by simp) ?_
        refine (AllReadyH.cons (o := { dst := some 40, op := Go.Op.call { callee := Go.Callee.value (Go.Operand.func 61), args := #[Go.Operand.tmp 36, Go.Operand.tmp 39], argTypes := #[58, 9] }, type := 76, pos := "inputs.go:22", after := #[{ on := 2, ground := Go.Ground.data }, { on := 5, ground := Go.Ground.data }, { on := 5, ground := Go.Ground.chain }], guard := none }) rfl (fun K hK => ?_) AllReadyH.nil)
        go_simp
        refine (behind_any (some ⟨G, 0, none⟩) l.length l (ptr ps i) _ (HV.out.2.2.1.below hHeld.2) HV.out.2.2.2.1 hlen hpos HT.out).mono ?_
        rintro e wB ⟨rfl, hbB⟩
        have hBge : Hid (W0.heap.size ≤ wB.heap.size) := Nat.le_trans hHeld.2.size hbB.size
        unfold tbV
        try dsimp only
        refine hK.out _ _ ?_ (fun hHeld => ?_)
        · exact ⟨hHeld.1.keep (Nat.lt_of_lt_of_le HZ.out hHeld.2.size) hbB, hHeld.2.trans (hbB.mono hHeld.2.size)⟩
        clear hK K
        try simp only [Act.put, List.setIfInBounds_toArray, List.set_cons_zero, List.set_cons_succ]
        refine wpAnyH_ready (rs := [8]) (by kernel_rfl) (by simp) ?_
        refine (AllReadyH.cons (o := { dst := some 42, op := Go.Op.call { callee := Go.Callee.value (Go.Operand.func 60), args := #[Go.Operand.tmp 34, Go.Operand.tmp 35, Go.Operand.tmp 40, Go.Operand.tmp 41], argTypes := #[23, 29, 76, 3] }, type := 62, pos := "inputs.go:22", after := #[{ on := 0, ground := Go.Ground.data }, { on := 1, ground := Go.Ground.data }, { on := 6, ground := Go.Ground.data }, { on := 7, ground := Go.Ground.data }, { on := 6, ground := Go.Ground.chain }], guard := none }) rfl (fun K hK => ?_) AllReadyH.nil)
        go_simp
        refine (down_any c vb V t i f _ (HV.out.1.below hHeld.2) HF.out hf1 (by omega)).mono ?_
        rintro e wD ⟨us, ls, rfl, hj9, hbD, hu9, hl9⟩
        have hDge : Hid (W0.heap.size ≤ wD.heap.size) := Nat.le_trans hHeld.2.size hbD.size
        have hDb : Hid (RowKit.Below W0.heap.size W0 wD) := hHeld.2.trans (hbD.mono hHeld.2.size)
        unfold jbV
        try dsimp only
        refine hK.out _ _ ?_ (fun hHeld => ?_)
        · exact ⟨hHeld.1.keep (Nat.lt_of_lt_of_le HZ.out hHeld.2.size) hbD, hHeld.2.trans (hbD.mono hHeld.2.size)⟩
        clear hK K
        try simp only [Act.put, List.setIfInBounds_toArray, List.set_cons_zero, List.set_cons_succ]
        refine wpAnyH_ready (rs := [10]) (by kernel_rfl) (by simp) ?_
        refine (AllReadyH.cons (o := { dst := none, op := Go.Op.store 62 (Go.Operand.tmp 11) (Go.Operand.tmp 42), type := 0, pos := "inputs.go:22", after := #[{ on := 9, ground := Go.Ground.data }, { on := 8, ground := Go.Ground.data }, { on := 8, ground := Go.Ground.chain }, { on := 0, ground := Go.Ground.phase }, { on := 1, ground := Go.Ground.phase }, { on := 2, ground := Go.Ground.phase }, { on := 3, ground := Go.Ground.phase }, { on := 4, ground := Go.Ground.phase }, { on := 5, ground := Go.Ground.phase }, { on := 6, ground := Go.Ground.phase }, { on := 7, ground := Go.Ground.phase }, { on := 8, ground := Go.Ground.phase }, { on := 9, ground := Go.Ground.phase }], guard := none }) rfl (fun K hK => ?_) AllReadyH.nil)
        have hzz : Zb wD W0.heap.size (jbC 0 nS nS ⟨#[]⟩ false) := ((Zb.new W0.drew #[.int .i64 0, .slice none 0 0, .slice none 0 0, .string ⟨#[]⟩, .bool false] 62).below hbB).below hbD
        have z0 := hzz.2.1 0 _ rfl
        have z1 := hzz.2.1 1 _ rfl
        have z2 := hzz.2.1 2 _ rfl
        have z3 := hzz.2.1 3 _ rfl
        have z4 := hzz.2.1 4 _ rfl
        have f0 := hzz.2.2
        go_simp
        refine hK.out _ _ ?_ (fun hHeld => ?_)
        · have hbb := sets_below (w0 := W0) (w := wD) W0.heap.size (Nat.le_refl _) (jbC (dn f V i t).lv us ls (dn f V i t).cut (dn f V i t).mv) 0 hHeld.2
          exact ⟨HL.out.1.keep HZ.out hbb, hbb⟩
        clear hK K
        try simp only [Act.put, List.setIfInBounds_toArray, List.set_cons_zero, List.set_cons_succ]
        refine wpAnyH_done (by kernel_rfl) ?_ _
        go_wp2
        go_meet
        case rel =>
          exact jbx_set (B := W0.heap.size) (Nat.le_refl _) hzz hj9 hDb.out (fun b off e => by have h9 := hu9 b off e; have h8 := hbB.size; have h7 := hBge.out; have h6 := hbD.size; simp at h9 h8 h6; omega) (fun b off e => by have h9 := hl9 b off e; have h8 := hbB.size; have h7 := hBge.out; have h6 := hbD.size; simp at h9 h8 h6; omega) rfl
    · skip
      go_simp
      refine hK.out _ _ ?_ (fun hHeld => ?_)
      · exact ⟨hHeld.1.keep (Nat.lt_of_lt_of_le HZ.out hHeld.2.size) ((Below.refl _ _).alloc (Nat.le_refl _) _), hHeld.2.alloc hHeld.2.size _⟩
      clear hK K
      try simp only [Act.put, List.setIfInBounds_toArray, List.set_cons_zero, List.set_cons_succ]
      refine wpAnyH_ready (rs := [5]) (by kernel_rfl) (by simp) ?_
      refine (AllReadyH.cons (o := { dst := some 39, op := Go.Op.call { callee := Go.Callee.value (Go.Operand.func 62), args := #[Go.Operand.tmp 37, Go.Operand.tmp 38], argTypes := #[25, 3] }, type := 9, pos := "inputs.go:22", after := #[{ on := 3, ground := Go.Ground.data }, { on := 4, ground := Go.Ground.data }], guard := none }) rfl (fun K hK => ?_) AllReadyH.nil)
      go_simp
      refine (pointer_any pa pc ps i _ (HV.out.2.1.below (HV.out.2.2.2.2.trans (hHeld.2.mono HV.out.2.2.2.2.size))) hps (by omega)).mono ?_
      rintro e w9 ⟨rfl, hw9⟩
      rw [hw9]
      clear hw9
      try dsimp only
      refine hK.out _ _ ?_ (fun hHeld => ?_)
      · exact hHeld
      clear hK K
      try simp only [Act.put, List.setIfInBounds_toArray, List.set_cons_zero, List.set_cons_succ]
      refine wpAnyH_ready (rs := [6]) (by kernel_rfl) (by simp) ?_
      refine (AllReadyH.cons (o := { dst := some 40, op := Go.Op.call { callee := Go.Callee.value (Go.Operand.func 61), args := #[Go.Operand.tmp 36, Go.Operand.tmp 39], argTypes := #[58, 9] }, type := 76, pos := "inputs.go:22", after := #[{ on := 2, ground := Go.Ground.data }, { on := 5, ground := Go.Ground.data }, { on := 5, ground := Go.Ground.chain }], guard := none }) rfl (fun K hK => ?_) AllReadyH.nil)
      go_simp
      refine (behind_any (some ⟨G, 0, none⟩) l.length l (ptr ps i) _ (HV.out.2.2.1.below hHeld.2) HV.out.2.2.2.1 hlen hpos HT.out).mono ?_
      rintro e wB ⟨rfl, hbB⟩
      have hBge : Hid (W0.heap.size ≤ wB.heap.size) := Nat.le_trans hHeld.2.size hbB.size
      unfold tbV
      try dsimp only
      refine hK.out _ _ ?_ (fun hHeld => ?_)
      · exact ⟨hHeld.1.keep (Nat.lt_of_lt_of_le HZ.out hHeld.2.size) hbB, hHeld.2.trans (hbB.mono hHeld.2.size)⟩
      clear hK K
      try simp only [Act.put, List.setIfInBounds_toArray, List.set_cons_zero, List.set_cons_succ]
      refine wpAnyH_ready (rs := [8]) (by kernel_rfl) (by simp) ?_
      refine (AllReadyH.cons (o := { dst := some 42, op := Go.Op.call { callee := Go.Callee.value (Go.Operand.func 60), args := #[Go.Operand.tmp 34, Go.Operand.tmp 35, Go.Operand.tmp 40, Go.Operand.tmp 41], argTypes := #[23, 29, 76, 3] }, type := 62, pos := "inputs.go:22", after := #[{ on := 0, ground := Go.Ground.data }, { on := 1, ground := Go.Ground.data }, { on := 6, ground := Go.Ground.data }, { on := 7, ground := Go.Ground.data }, { on := 6, ground := Go.Ground.chain }], guard := none }) rfl (fun K hK => ?_) AllReadyH.nil)
      go_simp
      refine (down_any c vb V t i f _ (HV.out.1.below hHeld.2) HF.out hf1 (by omega)).mono ?_
      rintro e wD ⟨us, ls, rfl, hj9, hbD, hu9, hl9⟩
      have hDge : Hid (W0.heap.size ≤ wD.heap.size) := Nat.le_trans hHeld.2.size hbD.size
      have hDb : Hid (RowKit.Below W0.heap.size W0 wD) := hHeld.2.trans (hbD.mono hHeld.2.size)
      unfold jbV
      try dsimp only
      refine hK.out _ _ ?_ (fun hHeld => ?_)
      · exact ⟨hHeld.1.keep (Nat.lt_of_lt_of_le HZ.out hHeld.2.size) hbD, hHeld.2.trans (hbD.mono hHeld.2.size)⟩
      clear hK K
      try simp only [Act.put, List.setIfInBounds_toArray, List.set_cons_zero, List.set_cons_succ]
      refine wpAnyH_ready (rs := [10]) (by kernel_rfl) (by simp) ?_
      refine (AllReadyH.cons (o := { dst := none, op := Go.Op.store 62 (Go.Operand.tmp 11) (Go.Operand.tmp 42), type := 0, pos := "inputs.go:22", after := #[{ on := 9, ground := Go.Ground.data }, { on := 8, ground := Go.Ground.data }, { on := 8, ground := Go.Ground.chain }, { on := 0, ground := Go.Ground.phase }, { on := 1, ground := Go.Ground.phase }, { on := 2, ground := Go.Ground.phase }, { on := 3, ground := Go.Ground.phase }, { on := 4, ground := Go.Ground.phase }, { on := 5, ground := Go.Ground.phase }, { on := 6, ground := Go.Ground.phase }, { on := 7, ground := Go.Ground.phase }, { on := 8, ground := Go.Ground.phase }, { on := 9, ground := Go.Ground.phase }], guard := none }) rfl (fun K hK => ?_) AllReadyH.nil)
      have hzz : Zb wD W0.heap.size (jbC 0 nS nS ⟨#[]⟩ false) := ((Zb.new W0.drew #[.int .i64 0, .slice none 0 0, .slice none 0 0, .string ⟨#[]⟩, .bool false] 62).below hbB).below hbD
      have z0 := hzz.2.1 0 _ rfl
      have z1 := hzz.2.1 1 _ rfl
      have z2 := hzz.2.1 2 _ rfl
      have z3 := hzz.2.1 3 _ rfl
      have z4 := hzz.2.1 4 _ rfl
      have f0 := hzz.2.2
      go_simp
      refine hK.out _ _ ?_ (fun hHeld => ?_)
      · have hbb := sets_below (w0 := W0) (w := wD) W0.heap.size (Nat.le_refl _) (jbC (dn f V i t).lv us ls (dn f V i t).cut (dn f V i t).mv) 0 hHeld.2
        exact ⟨HL.out.1.keep HZ.out hbb, hbb⟩
      clear hK K
      try simp only [Act.put, List.setIfInBounds_toArray, List.set_cons_zero, List.set_cons_succ]
      refine wpAnyH_done (by kernel_rfl) ?_ _
      go_wp2
      go_meet
      case rel =>
        exact jbx_set (B := W0.heap.size) (Nat.le_refl _) hzz hj9 hDb.out (fun b off e => by have h9 := hu9 b off e; have h8 := hbB.size; have h7 := hBge.out; have h6 := hbD.size; simp at h9 h8 h6; omega) (fun b off e => by have h9 := hl9 b off e; have h8 := hbB.size; have h7 := hBge.out; have h6 := hbD.size; simp at h9 h8 h6; omega) rfl
  case rest =>
  have hcc := hcut.out
  rename World => W8
  obtain ⟨j, hj0⟩ : ∃ j, dn f V i t = j := ⟨_, rfl⟩
  rw [hj0] at hcc
  have HJ0 : Hid (dn f V i t = j) := hj0
  obtain ⟨B, us, ls, rfl, hB, hz, hj, hb, hu, hl⟩ := hcc
  have HX : Hid (Zb W8 B (jbC j.lv us ls j.cut false) ∧ JAt W8 us ls j ∧ RowKit.Below W0.heap.size W0 W8 ∧ (∀ b off, us.1 = some ⟨b, off, none⟩ → b < W8.heap.size → W0.heap.size ≤ b ∧ b ≠ B) ∧ (∀ b off, ls.1 = some ⟨b, off, none⟩ → b < W8.heap.size → W0.heap.size ≤ b ∧ b ≠ B) ∧ W0.heap.size ≤ B) := ⟨hz, hj, hb, hu, hl, hB⟩
  have hln : ls.2.1 = j.lo.length := hj.2.2.1
  have hL8 : Lc W8 w.heap.size c := HL.out.1.keep HZ.out hb
  clear hcut hz hj hb hu hl hj0
  have z0 := HX.out.1.2.1 0 _ rfl
  have z1 := HX.out.1.2.1 1 _ rfl
  have z2 := HX.out.1.2.1 2 _ rfl
  have z3 := HX.out.1.2.1 3 _ rfl
  have z4 := HX.out.1.2.1 4 _ rfl
  have f0 := HX.out.1.2.2
  by_cases hlo : j.lo = []
  · have e0 : ls.2.1 = 0 := by rw [hln, hlo]; rfl
    have HD0 : Hid (j.lo = []) := hlo
    obtain ⟨la, ln, lc⟩ := ls
    change ln = 0 at e0
    subst e0
    simp only at z0 z1 z2 z3 z4
    clear hlo hln
    by_cases hlt : i + 1 < V.length - 1
    · have q7 : (i : Int) + 1 < (V.length : Int) - 1 := by omega
      have HINP : Hid (inp f V.length V i t = { j with mv := true }) := by
        show _ = _
        have hm : (j.lo.isEmpty && decide (i + 1 < V.length - 1)) = true := by rw [HD0.out]; simp [hlt]
        unfold inp; rw [HJ0.out, hm]
      go_upto_region 10 with (first
        | (refine wpList_cfgG (by rfl) _ (by rfl) (by rfl) hL8 ?_)
        | (go_at_call 56; go_loud (refine (last_any c vb V _ (HV.out.1.below HX.out.2.2.1) HA.out.2.1).mono ?_; rintro e wX ⟨rfl, hbX⟩; have HE : Hid _ := inp_end true HBW.out.1 HL.out.2 HX.out.2.2.2.2.2 HX.out.1 HX.out.2.1 HX.out.2.2.1 HX.out.2.2.2.1 HX.out.2.2.2.2.1 hbX; have k4 := (HX.out.1.below hbX).2.1 4 _ rfl; have k5 := (HX.out.1.below hbX).2.2 4; clear hbX)))
      obtain ⟨W9, hW9⟩ : ∃ X, wX.setCell ⟨B, 4, none⟩ (.bool true) = X := ⟨_, rfl⟩
      rw [hW9] at HE
      rw [hW9]
      clear hW9
      have r0 := HE.out.2.1.2.1 0 _ rfl
      have r1 := HE.out.2.1.2.1 1 _ rfl
      have r2 := HE.out.2.1.2.1 2 _ rfl
      have r3 := HE.out.2.1.2.1 3 _ rfl
      have r4 := HE.out.2.1.2.1 4 _ rfl
      have s0 := HE.out.2.1.2.2
      have t0 := HE.out.1.2.1 0 _ rfl
      have t1 := HE.out.1.2.1 1 _ rfl
      have t2 := HE.out.1.2.1 2 _ rfl
      have t3 := HE.out.1.2.1 3 _ rfl
      have t4 := HE.out.1.2.1 4 _ rfl
      clear z0 z1 z2 z3 z4 f0 hL8
      clear k4 k5
      go_wp2
      refine bodyPost_ret (res_jb2 rfl _ _ (w.heap.size + 1) j.lv us (la, 0, lc) j.cut true rfl HE.out.2.2.1) rfl ?_
      rw [HINP.out]
      exact ⟨us, _, rfl, HE.out.2.2.2.1, HE.out.2.2.2.2, fresh_of HBW.out.1 HX.out.2.2.1 HX.out.2.2.2.1, fresh_of HBW.out.1 HX.out.2.2.1 HX.out.2.2.2.2.1⟩
    · have q7 : ¬ (i : Int) + 1 < (V.length : Int) - 1 := by omega
      have q8 : decide ((i : Int) + 1 < (V.length : Int) - 1) = false := decide_eq_false q7
      have HINP : Hid (inp f V.length V i t = { j with mv := false }) := by
        show _ = _
        have hm : (j.lo.isEmpty && decide (i + 1 < V.length - 1)) = false := by rw [HD0.out]; simp [hlt]
        unfold inp; rw [HJ0.out, hm]
      go_upto_region 10 with (first
        | (refine wpList_cfgG (by rfl) _ (by rfl) (by rfl) hL8 ?_)
        | (go_at_call 56; go_loud (refine (last_any c vb V _ (HV.out.1.below HX.out.2.2.1) HA.out.2.1).mono ?_; rintro e wX ⟨rfl, hbX⟩; have HE : Hid _ := inp_end false HBW.out.1 HL.out.2 HX.out.2.2.2.2.2 HX.out.1 HX.out.2.1 HX.out.2.2.1 HX.out.2.2.2.1 HX.out.2.2.2.2.1 hbX; have k4 := (HX.out.1.below hbX).2.1 4 _ rfl; have k5 := (HX.out.1.below hbX).2.2 4; clear hbX)))
      (try rw [q8])
      obtain ⟨W9, hW9⟩ : ∃ X, wX.setCell ⟨B, 4, none⟩ (.bool false) = X := ⟨_, rfl⟩
      rw [hW9] at HE
      rw [hW9]
      clear hW9
      have r0 := HE.out.2.1.2.1 0 _ rfl
      have r1 := HE.out.2.1.2.1 1 _ rfl
      have r2 := HE.out.2.1.2.1 2 _ rfl
      have r3 := HE.out.2.1.2.1 3 _ rfl
      have r4 := HE.out.2.1.2.1 4 _ rfl
      have s0 := HE.out.2.1.2.2
      have t0 := HE.out.1.2.1 0 _ rfl
      have t1 := HE.out.1.2.1 1 _ rfl
      have t2 := HE.out.1.2.1 2 _ rfl
      have t3 := HE.out.1.2.1 3 _ rfl
      have t4 := HE.out.1.2.1 4 _ rfl
      clear z0 z1 z2 z3 z4 f0 hL8
      clear k4 k5
      go_wp2
      refine bodyPost_ret (res_jb2 rfl _ _ (w.heap.size + 1) j.lv us (la, 0, lc) j.cut false rfl HE.out.2.2.1) rfl ?_
      rw [HINP.out]
      exact ⟨us, _, rfl, HE.out.2.2.2.1, HE.out.2.2.2.2, fresh_of HBW.out.1 HX.out.2.2.1 HX.out.2.2.2.1, fresh_of HBW.out.1 HX.out.2.2.1 HX.out.2.2.2.2.1⟩
  · have e1 : ¬ (ls.2.1 : Int) = 0 := by
      intro h0
      have : j.lo.length = 0 := by omega
      exact hlo (List.eq_nil_of_length_eq_zero this)
    have e2 : ((ls.2.1 : Int) == 0) = false := by simpa using e1
    have e3 : ¬ ls.2.1 = 0 := by omega
    have HINP : Hid (inp f V.length V i t = { j with mv := false }) := by
      show _ = _
      unfold inp
      rw [HJ0.out]
      have : j.lo.isEmpty = false := by simpa using hlo
      rw [this]; simp
    have HE : Hid _ := inp_end false HBW.out.1 HL.out.2 HX.out.2.2.2.2.2 HX.out.1 HX.out.2.1 HX.out.2.2.1 HX.out.2.2.2.1 HX.out.2.2.2.2.1 (Below.refl _ _)
    clear hlo hln
    go_upto_region 10 with (fail)
    obtain ⟨W9, hW9⟩ : ∃ X, W8.setCell ⟨B, 4, none⟩ (.bool false) = X := ⟨_, rfl⟩
    rw [hW9] at HE
    rw [hW9]
    clear hW9
    have r0 := HE.out.2.1.2.1 0 _ rfl
    have r1 := HE.out.2.1.2.1 1 _ rfl
    have r2 := HE.out.2.1.2.1 2 _ rfl
    have r3 := HE.out.2.1.2.1 3 _ rfl
    have r4 := HE.out.2.1.2.1 4 _ rfl
    have s0 := HE.out.2.1.2.2
    have t0 := HE.out.1.2.1 0 _ rfl
    have t1 := HE.out.1.2.1 1 _ rfl
    have t2 := HE.out.1.2.1 2 _ rfl
    have t3 := HE.out.1.2.1 3 _ rfl
    have t4 := HE.out.1.2.1 4 _ rfl
    clear z0 z1 z2 z3 z4 f0 hL8
    go_wp2
    refine bodyPost_ret (res_jb2 rfl _ _ (w.heap.size + 1) j.lv us ls j.cut false rfl HE.out.2.2.1) rfl ?_
    rw [HINP.out]
    exact ⟨us, _, rfl, HE.out.2.2.2.1, HE.out.2.2.2.2, fresh_of HBW.out.1 HX.out.2.2.1 HX.out.2.2.2.1, fresh_of HBW.out.1 HX.out.2.2.1 HX.out.2.2.2.2.1⟩
end Vr
end Go.Proofs.YtaejjpbpnedblaaGreat
