import Derived.Test.YtaejjpbpnedblaaGreatVg
import Derived.Deep.RegionWith
import Derived.Deep.RegionHeld3
import Derived.Deep.Cut
import Derived.Deep.DeepCutAuto
import Derived.Deep.QuietTactic
import Derived.BigQuiet
namespace Go.Proofs.YtaejjpbpnedblaaGreat
namespace Vr
open Go.RowKit Go.Maps Go.ChangeMaps Go.MapKept Laws Irw Crw
set_option linter.unusedVariables false
set_option linter.unusedSimpArgs false
set_option maxRecDepth 20000
def U64 : Nat := 18446744073709551616
theorem law64 : Keyed Tryz.prog 55 := int_keyed Tryz.underlying55
theorem wf64 {n : Nat} (h : n < U64) : (Lit.int .u64 (n : Int)).wf = true := by
  unfold U64 at h
  exact WalkArith.wf_u64 (by omega)
theorem key64 {n : Nat} (h : n < U64) : keyOf Tryz.prog 55 (.int .u64 (n : Int)) = some (.int .u64 (n : Int)) := keyOf_int_mk Tryz.underlying55 (wf64 h)
theorem zeroI (w : World) : (zeroValue 3).run Tryz.prog w = .ok (.int .i64 0) w := by kernel_rfl
abbrev OwnM (w : World) (mb m : Nat) (D : Dat) : Prop := w.ownsMap Tryz.prog 55 (plainElem Tryz.prog 3) mb m D
theorem OwnM.block {w w' : World} {mb m : Nat} {D : Dat} (h : OwnM w mb m D) (hb : w'.heap[mb]? = w.heap[mb]?) : OwnM w' mb m D := by
  obtain ⟨es, c, h1, h2⟩ := h
  exact ⟨es, c, hb.trans h1, h2⟩
/-- which numbers stand -/
structure WAt (T : Nat → Nat) (w : World) (t mb : Nat) (ns : List Nat) : Prop where
  tag : T mb = t
  own : ∃ D : Dat, OwnM w mb ns.length D ∧ ∀ n : Nat, n < U64 → Maps.has D (.int .u64 (n : Int)) = decide (n ∈ ns)
theorem WAt.lt {T : Nat → Nat} {w : World} {t mb : Nat} {ns : List Nat} (h : WAt T w t mb ns) : mb < w.heap.size := by
  obtain ⟨D, h1, _⟩ := h.own
  exact h1.lt
theorem WAt.goes {p : Nat → Prop} {T T' : Nat → Nat} {w w' : World} {t mb : Nat} {ns : List Nat} (h : WAt T w t mb ns) (hg : Goes p T w T' w') (ht : ¬ p t) : WAt T' w' t mb ns := by
  have hlt := h.lt
  obtain ⟨D, h1, h2⟩ := h.own
  exact ⟨(hg.tag mb hlt (by rw [h.tag]; exact ht)).trans h.tag, D, h1.block (hg.block mb hlt (by rw [h.tag]; exact ht)), h2⟩
theorem goes_map {T : Nat → Nat} {w w' : World} {t mb : Nat} (hT : T mb = t) (hg : w.grownBy w' (some mb)) : Goes (· = t) T w T w' :=
  ⟨hg.os, hg.tape, hg.output, hg.size, fun b hb ht => hg.block b hb (fun e => ht (by cases e; exact hT)), fun _ _ _ => rfl, fun _ _ h => h⟩
theorem lit_ne {a b : Nat} (h : a ≠ b) : (Lit.int .u64 (a : Int)) ≠ .int .u64 (b : Int) := by
  intro e
  simp only [Lit.int.injEq, true_and] at e
  omega
theorem WAt.put {T : Nat → Nat} {w : World} {t mb : Nat} {ns : List Nat} (h : WAt T w t mb ns) (n : Nat) (v : Int) (hn : n < U64) (hv : (Lit.int .i64 v).wf = true) (hl : ns.length < 1000000000) :
    ∃ w', (Instr.mapUpdate 113 (.map (some mb)) (.int .u64 (n : Int)) (.int .i64 v)).run Tryz.prog w = .ok () w' ∧ WAt T w' t mb (ns ++ [n]) ∧ Goes (· = t) T w T w' := by
  obtain ⟨D, h1, h2⟩ := h.own
  obtain ⟨w', hr, h3, h4⟩ := World.ownsMap.update h1 law64 Tryz.underlying113 (by unfold maxLen; omega) (key64 hn) (plainElem_int Tryz.underlying3 hv)
  refine ⟨w', hr, ⟨h.tag, _, by rw [List.length_append, List.length_singleton]; exact h3, fun k hk => ?_⟩, goes_map h.tag h4⟩
  by_cases e : k = n
  · subst e
    rw [Maps.has_put_same h1.isMap (by simp [WideAt.IsKeyLit])]
    simp
  · rw [Maps.has_put_other (lit_ne e), h2 k hk]
    simp [e]
theorem WAt.look {T : Nat → Nat} {w : World} {t mb : Nat} {ns : List Nat} (h : WAt T w t mb ns) (n : Nat) (hn : n < U64) :
    ∃ c : Int, (Instr.lookup 113 (.map (some mb)) (.int .u64 (n : Int)) true).run Tryz.prog w = .ok (.tuple #[.int .i64 c, .bool (decide (n ∈ ns))]) w := by
  obtain ⟨D, h1, h2⟩ := h.own
  obtain ⟨v, ps, hr, hv⟩ := World.ownsMap.look_ok h1 law64 Tryz.underlying113 (zeroI w) (plainElem_int Tryz.underlying3 (by decide)) (key64 hn)
  obtain ⟨c, rfl, _, _⟩ := plainElem_int_inv Tryz.underlying3 hv
  rw [h2 n hn] at hr
  exact ⟨c, hr⟩
theorem WAt.made {T : Nat → Nat} {w : World} {t mb : Nat} (hT : T mb = t) (hm : w.heap[mb]? = some (Obj.map #[] 0)) : WAt T w t mb [] :=
  ⟨hT, .map [], ⟨#[], 0, hm, ⟨by simp, stamped_empty 0, by simp⟩, Nat.le_refl _, rfl⟩, fun n _ => by simp [Maps.has]⟩
/-- a draft: its block has tag 5, its map 4, its list of levels 3, the i-th level 10 + i -/
structure DAt (w0 : World) (T : Nat → Nat) (w : World) (db mb : Nat) (ls : Sv) (V : Lv) (ns : List Nat) : Prop where
  old : Old w0 T w
  td : T db = 5
  box : Zb w db [svV ls, .map (some mb)]
  lvl : ∃ vs : List Sv, OwnK kS 3 T w (svV ls) vs ∧ vs.length = V.length ∧ ∀ (i : Nat) v l, vs[i]? = some v → V[i]? = some l → OwnK kTb (10 + i) T w (svV v) l
  map : WAt T w 4 mb ns
theorem DAt.goes {p : Nat → Prop} {w0 : World} {T T' : Nat → Nat} {w w' : World} {db mb : Nat} {ls : Sv} {V : Lv} {ns : List Nat} (h : DAt w0 T w db mb ls V ns) (hg : Goes p T w T' w') (h0 : ¬ p 0) (h3 : ¬ p 3) (h4 : ¬ p 4) (h5 : ¬ p 5) (h10 : ∀ i, ¬ p (10 + i)) : DAt w0 T' w' db mb ls V ns := by
  obtain ⟨vs, l1, l2, l3⟩ := h.lvl
  exact ⟨h.old.goes hg h0, (hg.tag db h.box.1 (by rw [h.td]; exact h5)).trans h.td, h.box.goes hg (by rw [h.td]; exact h5), ⟨vs, l1.goes hg h3, l2, fun i v l hv hl => (l3 i v l hv hl).goes hg (h10 i)⟩, h.map.goes hg h4⟩
theorem DAt.below {w0 : World} {T : Nat → Nat} {w w' : World} {db mb : Nat} {ls : Sv} {V : Lv} {ns : List Nat} (h : DAt w0 T w db mb ls V ns) (hb : Below w.heap.size w w') : DAt w0 T w' db mb ls V ns :=
  h.goes (Goes.below (t := fun _ => False) hb) (fun z => z) (fun z => z) (fun z => z) (fun z => z) (fun _ z => z)
/-- a number is laid into the map -/
theorem DAt.put {w0 : World} {T : Nat → Nat} {w : World} {db mb : Nat} {ls : Sv} {V : Lv} {ns : List Nat} (h : DAt w0 T w db mb ls V ns) (n : Nat) (v : Int) (hn : n < U64) (hv : (Lit.int .i64 v).wf = true) (hl : ns.length < 1000000000) :
    ∃ w', (Instr.mapUpdate 113 (.map (some mb)) (.int .u64 (n : Int)) (.int .i64 v)).run Tryz.prog w = .ok () w' ∧ DAt w0 T w' db mb ls V (ns ++ [n]) ∧ Goes (· = 4) T w T w' := by
  obtain ⟨w', hr, h1, h2⟩ := h.map.put n v hn hv hl
  obtain ⟨vs, l1, l2, l3⟩ := h.lvl
  exact ⟨w', hr, ⟨h.old.goes h2 (by decide), h.td, h.box.goes h2 (by rw [h.td]; decide), ⟨vs, l1.goes h2 (by decide), l2, fun i v l hv hl => (l3 i v l hv hl).goes h2 (by omega)⟩, h1⟩, h2⟩
end Vr
end Go.Proofs.YtaejjpbpnedblaaGreat
namespace Go.Proofs.YtaejjpbpnedblaaGreat
namespace Vr
open Go.RowKit Go.Maps Go.ChangeMaps Go.MapKept Laws Irw Crw
set_option linter.unusedVariables false
set_option linter.unusedSimpArgs false
set_option maxRecDepth 20000
/-- one level's list is another one -/
theorem DAt.setl {w0 : World} {T T2 : Nat → Nat} {w w2 : World} {db mb lb n c k : Nat} {V : Lv} {ns : List Nat} {s : Sv} {l : List Tb} (h : DAt w0 T w db mb (some ⟨lb, 0, none⟩, n, c) V ns) (hg : Goes (· = 10 + k) T w T2 w2) (ho : OwnK kTb (10 + k) T2 w2 (svV s) l) (hk : k < V.length) :
    DAt w0 T2 (w2.setCell ⟨lb, k, none⟩ (svV s)) db mb (some ⟨lb, 0, none⟩, n, c) (V.set k l) ns ∧ (w2.setCell ⟨lb, k, none⟩ (svV s)).cell? ⟨lb, k, none⟩ = some (svV s) ∧ OwnK kTb (10 + k) T2 (w2.setCell ⟨lb, k, none⟩ (svV s)) (svV s) l := by
  obtain ⟨vs, l1, l2, l3⟩ := h.lvl
  have l1' := l1.goes hg (by omega)
  have hlb : T2 lb = 3 := l1'.2 lb rfl
  have hn : n = vs.length := (OwnK.sk (s := (some ⟨lb, 0, none⟩, n, c)) l1).1
  have hkv : k < vs.length := by omega
  have g2 := Goes.setCell (t := (· = 3)) (T := T2) (w := w2) (p := lb) (j := k) (v := svV s) hlb
  have hlt : lb < w2.heap.size := (l1'.1.lt lb rfl).2
  have l4 := ownK_set (K := kS) (x := s) (u := svV s) (j := 0) l1' hn hkv (by decide) (fun y _ => rfl)
  have e : k * kS.size + 0 = k := by show k * 1 + 0 = k; omega
  rw [e] at l4
  have hcell : ∃ u, w2.cell? ⟨lb, k, none⟩ = some u := by
    have hv : vs[k]? = some vs[k] := List.getElem?_eq_getElem hkv
    obtain ⟨b, off, e1, _, hc⟩ := (Ls.own (s := (some ⟨lb, 0, none⟩, n, c)) l1').cell hv
    cases e1
    have := hc 0 _ rfl
    rw [Nat.zero_add, e] at this
    exact ⟨_, this⟩
  obtain ⟨u, hu⟩ := hcell
  refine ⟨⟨(h.old.goes hg (by omega)).goes g2 (by omega), ?_, ?_, ⟨vs.set k s, l4, by simp [l2], fun i v l' hv hl => ?_⟩, (h.map.goes hg (by omega)).goes g2 (by omega)⟩, World.cell?_setCell_same _ _ _ hu, ho.goes g2 (by omega)⟩
  · exact (hg.tag db h.box.1 (by rw [h.td]; omega)).trans h.td
  · exact (h.box.goes hg (by rw [h.td]; omega)).goes g2 (by rw [(hg.tag db h.box.1 (by rw [h.td]; omega)), h.td]; omega)
  · by_cases hik : k = i
    · subst hik
      rw [List.getElem?_set_self hkv] at hv
      rw [List.getElem?_set_self hk] at hl
      cases hv; cases hl
      exact ho.goes g2 (by omega)
    · rw [List.getElem?_set_ne hik] at hv hl
      exact ((l3 i v l' hv hl).goes hg (by omega)).goes g2 (by omega)
/-- the list of levels is written: there is a cell, and it isn't frozen -/
theorem DAt.cell {w0 : World} {T : Nat → Nat} {w : World} {db mb lb n c k : Nat} {V : Lv} {ns : List Nat} (h : DAt w0 T w db mb (some ⟨lb, 0, none⟩, n, c) V ns) (hk : k < V.length) {l : List Tb} (hl : V[k]? = some l) : ∃ s : Sv, w.cell? ⟨lb, k, none⟩ = some (svV s) ∧ w.frozen? ⟨lb, k, none⟩ = false ∧ OwnK kTb (10 + k) T w (svV s) l := by
  obtain ⟨vs, l1, l2, l3⟩ := h.lvl
  have hkv : k < vs.length := by omega
  have hv : vs[k]? = some vs[k] := List.getElem?_eq_getElem hkv
  obtain ⟨b, off, e1, _, hc⟩ := (Ls.own (s := (some ⟨lb, 0, none⟩, n, c)) l1).cell hv
  cases e1
  have := hc 0 _ rfl
  rw [Nat.zero_add, show k * kS.size + 0 = k by show k * 1 + 0 = k; omega] at this
  have hn : n = vs.length := (OwnK.sk (s := (some ⟨lb, 0, none⟩, n, c)) l1).1
  subst hn
  exact ⟨_, this, World.ownsRow.frozenAt (show w.ownsRow 0 kS.ty kS.size (.slice (some ⟨lb, 0, none⟩) vs.length c) vs.length (kS.cells vs) from l1.1) k, l3 k _ _ hv hl⟩
theorem DAt.len {w0 : World} {T : Nat → Nat} {w : World} {db mb lb n c : Nat} {V : Lv} {ns : List Nat} (h : DAt w0 T w db mb (some ⟨lb, 0, none⟩, n, c) V ns) : n = V.length := by
  obtain ⟨vs, l1, l2, l3⟩ := h.lvl
  have := (OwnK.sk (s := (some ⟨lb, 0, none⟩, n, c)) l1).1
  exact this.trans l2
/-- what Tables has made is the i-th level's -/
theorem own_tag {T : Nat → Nat} {w w2 : World} {G k : Nat} {l : List Tb} (hz : ∀ b, w.heap.size ≤ b → T b = 0) (hG : w.heap.size ≤ G) (h : w2.ownsRow 0 76 6 (.slice (some ⟨G, 0, none⟩) l.length l.length) l.length (kTb.cells l)) (hb : Below w.heap.size w w2) :
    OwnK kTb (10 + k) (upd T G (10 + k)) w2 (svV (some ⟨G, 0, none⟩, l.length, l.length)) l ∧ Goes (· = 10 + k) T w (upd T G (10 + k)) w2 := by
  have hlt := (h.lt G rfl).2
  refine ⟨⟨h, fun g e => ?_⟩, hb.os, hb.tape, hb.output, hb.size, fun b hb' _ => hb.block b hb', fun b hb' _ => upd_other _ _ (by omega), fun b hb' h0 => ?_⟩
  · simp only [svV, Value.ownBlock, Option.some.injEq] at e
    subst e; exact upd_same _ _ _
  · rw [upd_other _ _ (by omega)]; exact h0
def dT (lb mb db : Nat) : Nat → Nat := upd (upd (upd (fun _ => 0) lb 3) mb 4) db 5
theorem draft_start (w : World) (n : Nat) (hn : n ≤ 5) : DAt w (dT w.heap.size (w.heap.size + 1) (w.heap.size + 1 + 1)) (((w.alloc (Obj.cells (madeCells #[.slice none 0 0] n) 58)).alloc (Obj.map #[] 0)).alloc (Obj.cells #[.slice (some ⟨w.heap.size, 0, none⟩) n n, .map (some (w.heap.size + 1))] 165)) (w.heap.size + 1 + 1) (w.heap.size + 1) (some ⟨w.heap.size, 0, none⟩, n, n) (List.replicate n []) [] := by
  have al : ∀ (W : World) (o : Obj) (b : Nat), (W.alloc o).heap[b]? = if b = W.heap.size then some o else W.heap[b]? := fun W o b => (by show (W.heap.push o)[b]? = _; rw [Array.getElem?_push])
  have sz : ∀ (W : World) (o : Obj), (W.alloc o).heap.size = W.heap.size + 1 := fun W o => (by show (W.heap.push o).size = _; rw [Array.size_push])
  obtain ⟨W, hW⟩ : ∃ W, ((w.alloc (Obj.cells (madeCells #[.slice none 0 0] n) 58)).alloc (Obj.map #[] 0)).alloc (Obj.cells #[.slice (some ⟨w.heap.size, 0, none⟩) n n, .map (some (w.heap.size + 1))] 165) = W := ⟨_, rfl⟩
  have h1 : W.heap[w.heap.size]? = some (Obj.cells (madeCells #[.slice none 0 0] n) 58) := by
    rw [← hW]; simp only [al, sz]; rw [if_neg (by omega), if_neg (by omega), if_pos trivial]
  have h2 : W.heap[w.heap.size + 1]? = some (Obj.map #[] 0) := by
    rw [← hW]; simp only [al, sz]; rw [if_neg (by omega), if_pos trivial]
  have h3 : W.heap[w.heap.size + 1 + 1]? = some (Obj.cells #[.slice (some ⟨w.heap.size, 0, none⟩) n n, .map (some (w.heap.size + 1))] 165) := by
    rw [← hW]; simp only [al, sz]; rw [if_pos trivial]
  have hs : W.heap.size = w.heap.size + 1 + 1 + 1 := by rw [← hW]; simp only [sz]
  have hb : Below w.heap.size w W := by rw [← hW]; exact (((Below.refl _ _).alloc (Nat.le_refl _) _).alloc (by rw [sz]; omega) _).alloc (by rw [sz, sz]; omega) _
  rw [hW]
  refine ⟨⟨hb, fun b hb => ?_⟩, by unfold dT; rw [upd_same], Zb.heap h3, ⟨List.replicate n nS, ⟨⟨by rw [kS.cells_length], .inr ⟨w.heap.size, n, _, by simp [svV], Nat.zero_le _, h1, by simp, by simp [maxLen]; omega, by rw [size_madeCells]; show n = n * 1; omega, ?_⟩⟩, fun g e => ?_⟩, by simp, fun i v l hv hl => ?_⟩, WAt.made ?_ h2⟩
  · unfold dT
    rw [upd_other _ _ (by omega), upd_other _ _ (by omega), upd_other _ _ (by omega)]
  · rw [toList_madeCells_one, cells_nil, List.take_of_length_le]
    simp [kS]
  · simp only [svV, Value.ownBlock, Option.some.injEq] at e
    subst e
    unfold dT
    rw [upd_other _ _ (by omega), upd_other _ _ (by omega), upd_same]
  · have hin : i < n := by have := (List.getElem?_eq_some_iff.1 hv).1; simpa using this
    rw [List.getElem?_replicate_of_lt hin] at hv hl
    cases hv; cases hl
    exact OwnK.empty _ _ _
  · unfold dT
    rw [upd_other _ _ (by omega), upd_same]
end Vr
end Go.Proofs.YtaejjpbpnedblaaGreat
namespace Go.Proofs.YtaejjpbpnedblaaGreat
namespace Vr
open Go.RowKit Go.Maps Go.ChangeMaps Go.MapKept Laws Irw Crw
set_option linter.unusedVariables false
set_option linter.unusedSimpArgs false
set_option maxRecDepth 20000
def NumOk (V : Lv) : Prop := ∀ l ∈ V, ∀ t ∈ l, t.no < U64
def DrIs (w : World) (V : Lv) (e : Ending) (w' : World) : Prop := ∃ T db mb lb, e = .returned (.pointer (some ⟨db, 0, none⟩)) ∧ DAt w T w' db mb (some ⟨lb, 0, none⟩, V.length, V.length) V (nums V)
/-- the levels while they are copied -/
def part (V : Lv) (k : Nat) : Lv := V.take k ++ List.replicate (V.length - k) []
theorem part_len {V : Lv} {k : Nat} (hk : k ≤ V.length) : (part V k).length = V.length := by simp [part]; omega
theorem part_zero (V : Lv) : part V 0 = List.replicate V.length [] := by simp [part]
theorem part_all (V : Lv) : part V V.length = V := by simp [part]
theorem part_set {V : Lv} {k : Nat} {l : List Tb} (h : V[k]? = some l) : (part V k).set k l = part V (k + 1) := by
  have hk := (List.getElem?_eq_some_iff.1 h).1
  unfold part
  have e : V.length - k = (V.length - (k + 1)) + 1 := by omega
  rw [List.set_append_right _ _ (by simp; omega), List.length_take, Nat.min_eq_left (by omega), Nat.sub_self, e, List.replicate_succ, List.set_cons_zero, List.take_add_one, h]
  simp
theorem nums_take {V : Lv} {k : Nat} {l : List Tb} (h : V[k]? = some l) : nums (V.take (k + 1)) = nums (V.take k) ++ l.map Tb.no := by
  unfold nums
  rw [List.take_add_one, h]
  simp
theorem nums_le {V : Lv} (h : Fits V) : ∀ k, (nums (V.take k)).length ≤ k * 1000000 := by
  intro k
  induction k with
  | zero => simp [nums]
  | succ k ih =>
    cases e : V[k]? with
    | none =>
      rw [List.take_of_length_le (by have := List.getElem?_eq_none_iff.1 e; omega)]
      rw [List.take_of_length_le (by have := List.getElem?_eq_none_iff.1 e; omega)] at ih
      exact Nat.le_trans ih (Nat.mul_le_mul_right _ (Nat.le_succ k))
    | some l =>
      rw [nums_take e, List.length_append, List.length_map]
      have := h.2 l (List.mem_of_getElem? e)
      rw [Nat.succ_mul]
      exact Nat.add_le_add ih this
set_option maxHeartbeats 4000000 in
theorem draft_any (vb : Nat) (V : Lv) (w : World) (h : VAt w vb V) (hn : NumOk V) : Calls Tryz.prog 89 #[.pointer (some ⟨vb, 0, none⟩)] w fun e w' => DrIs w V e w' := by
  have HV : Hid (VAt w vb V ∧ NumOk V) := ⟨h, hn⟩
  obtain ⟨hf, ⟨sa, sn, sc⟩, hz, hl⟩ := h
  have c0 := hz.2.1 0 _ rfl
  have e := hl.1
  change sn = V.length at e
  subst e
  simp only [svV] at c0
  have hv5 := hf.1
  have hvb : vb < w.heap.size := hz.1
  have k1 := run_make_row' (P := Tryz.prog) 30 58 (.slice none 0 0) 24 Tryz.underlying30 infoS rfl .i64 .i64 V.length (by omega) (by omega)
  have k3 := @run_makeMap Tryz.prog
  have g0 : (((w.alloc (Obj.cells (madeCells #[.slice none 0 0] V.length) 58)).alloc (Obj.map #[] 0)).alloc (Obj.cells #[.slice (some ⟨w.heap.size, 0, none⟩) V.length V.length, .map (some (w.heap.size + 1))] 165)).cell? ⟨vb, 0, none⟩ = some (.slice sa V.length sc) :=
    (((((Below.refl w.heap.size w).alloc (Nat.le_refl _) _).alloc (by simp) _).alloc (by simp; omega) _).cell (p := ⟨vb, 0, none⟩) hvb).trans c0
  clear hz hl hf hn
  go_enter Tryz.func89, Tryz.ntmps89
  go_wp2
  have HS : Hid (∃ T W, W = _ ∧ DAt w T W (w.heap.size + 1 + 1) (w.heap.size + 1) (some ⟨w.heap.size, 0, none⟩, V.length, V.length) (part V 0) (nums (V.take 0))) := ⟨_, _, rfl, by rw [part_zero]; exact draft_start w V.length hv5⟩
  clear g0 k1 k3
  go_loopw [21] (fun i wr => ∃ (k : Nat) (T : Nat → Nat), k ≤ V.length ∧ i = .int .i64 (k : Int) ∧ Hid (DAt w T wr (w.heap.size + 1 + 1) (w.heap.size + 1) (some ⟨w.heap.size, 0, none⟩, V.length, V.length) (part V k) (nums (V.take k)))) (fun i _ => V.length - (intOf i).toNat)
  case atStart =>
    obtain ⟨T, W, rfl, hd⟩ := HS.out
    exact ⟨0, T, Nat.zero_le _, rfl, hd⟩
  case round =>
    clear HS c0
    obtain ⟨k, T, hk, rfl, HD⟩ := hrel
    rename World => wr
    by_cases hlt : k < V.length
    · have q1 : (k : Int) < (V.length : Int) := by omega
      obtain ⟨l, hl⟩ : ∃ l, V[k]? = some l := ⟨_, List.getElem?_eq_getElem hlt⟩
      have HVl : Hid (V[k]? = some l) := hl
      have c0 := HD.out.box.2.1 0 _ rfl
      have c1 := HD.out.box.2.1 1 _ rfl
      simp only [svV] at c0
      have hll : l.length ≤ 1000000 := HV.out.1.1.2 l (List.mem_of_getElem? hl)
      have HC : Hid (Calls Tryz.prog 16 #[.pointer (some ⟨vb, 0, none⟩), .int .i64 (k : Int)] wr.drew fun e w' => NewIs wr.drew l e w') := by
        have := tables_any vb V (k : Int) wr.drew (HV.out.1.below HD.out.old.below.drew)
        rw [lev_in hl] at this
        exact this
      clear hl
      go_wp2
      go_region_with (go_at_call 16; go_loud (refine HC.out.mono ?_; rintro e w2 ⟨_, rfl, ⟨G, rfl, hG, hrow⟩, hb2'⟩; have hb2 : Below wr.heap.size wr w2 := ⟨hb2'.os, hb2'.tape, hb2'.output, hb2'.size, hb2'.block⟩; clear hb2'; have HN : Hid (w2.ownsRow 0 76 6 (.slice (some ⟨G, 0, none⟩) l.length l.length) l.length (kTb.cells l) ∧ wr.heap.size ≤ G ∧ Below wr.heap.size wr w2) := ⟨hrow, hG, hb2⟩; obtain ⟨u5, hu5, hfr5, ho5⟩ := (HD.out.below hb2).cell (by rw [part_len hk]; exact hlt) (List.getElem?_eq_getElem (by rw [part_len hk]; exact hlt)); have d0 := (HD.out.below hb2).box.2.1 0 _ rfl; simp only [svV] at d0; clear hrow hG hb2 ho5; simp only [svV]))
      all_goals
        have hz0 := (fun b hb => HD.out.old.zero b (.inr hb) : ∀ b, wr.heap.size ≤ b → T b = 0)
        have HX5 : Hid _ := (own_tag (k := k) hz0 HN.out.2.1 HN.out.1 HN.out.2.2 : OwnK kTb (10 + k) (upd T G (10 + k)) w2 (svV (some ⟨G, 0, none⟩, l.length, l.length)) l ∧ Goes (· = 10 + k) T wr (upd T G (10 + k)) w2)
        have HD5 : Hid _ := HD.out.setl HX5.out.2 HX5.out.1 (by rw [part_len hk]; exact hlt)
        rw [part_set HVl.out] at HD5
        simp only [svV] at HD5
        obtain ⟨W5, hW5⟩ : ∃ W, w2.setCell ⟨w.heap.size, k, none⟩ (.slice (some ⟨G, 0, none⟩) l.length l.length) = W := ⟨_, rfl⟩
        obtain ⟨T5, hT5⟩ : ∃ T5, upd T G (10 + k) = T5 := ⟨_, rfl⟩
        rw [hW5, hT5] at HD5
        rw [hW5]
        have z0 := HD5.out.1.box.2.1 0 _ rfl
        simp only [svV] at z0
        have z1 := HD5.out.2.1
        clear hW5 hT5 HX5 hz0 HN hu5 hfr5 d0 HC HD c0 c1 u5
        go_wp2
        go_loopw [41] (fun i wr => ∃ j : Nat, j ≤ l.length ∧ i = .int .i64 (j : Int) ∧ Hid (DAt w T5 wr (w.heap.size + 1 + 1) (w.heap.size + 1) (some ⟨w.heap.size, 0, none⟩, V.length, V.length) (part V (k + 1)) (nums (V.take k) ++ (l.take j).map Tb.no) ∧ OwnK kTb (10 + k) T5 wr (.slice (some ⟨G, 0, none⟩) l.length l.length) l)) (fun i _ => l.length - (intOf i).toNat)
        case atStart => exact ⟨0, Nat.zero_le _, rfl, by simpa using HD5.out.1, HD5.out.2.2⟩
        case round =>
          clear HD5 z0 z1
          obtain ⟨j, hj, rfl, HY⟩ := hrel
          rename World => wq
          by_cases hlj : j < l.length
          · have q2 : (j : Int) < (l.length : Int) := by omega
            obtain ⟨b, off, e1, hb, t, ht, y0, y1, y2, y3, y4, y5⟩ := (Ls.own (s := (some ⟨G, 0, none⟩, l.length, l.length)) HY.out.2).tb hlj
            cases e1
            rw [Nat.zero_add] at y0 y1 y2 y3 y4 y5
            have hb1 : Below wq.heap.size wq (wq.alloc (Obj.cells #[.int .u64 (t.no : Int), .int .i64 t.we, .int .i64 t.by_, .int .i64 t.en, .string t.le, .string t.gr] 76)) := (Below.refl _ _).alloc (Nat.le_refl _) _
            have x0 := (HY.out.1.below hb1).box.2.1 1 _ rfl
            have hlen : (nums (V.take k) ++ (l.take j).map Tb.no).length < 1000000000 := by
              have h1 := nums_le HV.out.1.1 k
              have h2 : k * 1000000 ≤ 5 * 1000000 := Nat.mul_le_mul_right _ (by omega)
              rw [List.length_append, List.length_map, List.length_take]
              have h3 : min j l.length ≤ 1000000 := Nat.le_trans (Nat.min_le_right _ _) hll
              omega
            obtain ⟨w7, hr7, hd7, hg7⟩ := (HY.out.1.below hb1.drew).put t.no (k : Int) (HV.out.2 l (List.mem_of_getElem? HVl.out) t (List.mem_of_getElem? ht)) (WalkArith.wf_i64 (by omega)) hlen
            have HW7 : Hid (DAt w T5 w7 (w.heap.size + 1 + 1) (w.heap.size + 1) (some ⟨w.heap.size, 0, none⟩, V.length, V.length) (part V (k + 1)) (nums (V.take k) ++ (l.take j).map Tb.no ++ [t.no]) ∧ OwnK kTb (10 + k) T5 w7 (.slice (some ⟨G, 0, none⟩) l.length l.length) l) := ⟨hd7, (HY.out.2.below hb1.drew).goes hg7 (by omega)⟩
            clear hd7 hlen hg7
            go_wp2
            go_region
            all_goals
              go_wp2
              go_roundw
              case rel =>
                refine ⟨j + 1, by omega, by go_num, ?_, ?_⟩
                · have e : (l.take (j + 1)).map Tb.no = (l.take j).map Tb.no ++ [t.no] := by rw [List.take_add_one, ht]; simp
                  rw [e, ← List.append_assoc]
                  exact HW7.out.1
                · exact HW7.out.2
              case measure => simp [intOf]; omega
          · have q2 : ¬ (j : Int) < (l.length : Int) := by omega
            have HK : Hid (j = l.length) := show j = l.length by omega
            go_wp2
            go_roundw
            case rel =>
              refine ⟨k + 1, T5, by omega, by go_num, ?_⟩
              have := HY.out.1
              rw [HK.out, List.take_length, ← nums_take HVl.out] at this
              exact this
            case measure => simp [intOf]; omega
    · have q1 : ¬ (k : Int) < (V.length : Int) := by omega
      have HK : Hid (k = V.length) := show k = V.length by omega
      go_wp2
      go_ret
      have := HD.out
      rw [HK.out, part_all, List.take_length] at this
      exact ⟨T, _, _, _, rfl, this⟩
end Vr
end Go.Proofs.YtaejjpbpnedblaaGreat
