import Derived.Test.YtfomnkkpiflokaaPa5
import Derived.Test.YtfomnkkpiflokaaQoH
namespace Go.Proofs.Ytfomnkkpiflokaa
namespace Sk
open Go.RowKit Laws Irw Erw KMath Skm Byt Rom
set_option linter.unusedVariables false
set_option maxRecDepth 100000
set_option linter.unusedSimpArgs false

open Classical in
/-- what has turned, as a list -/
theorem keep_list {v : Nat → Prop} {T T' : Nat → Nat} {w w' : World} (h : Goes v T w T' w') : ∃ bs, Keep bs w w' ∧ ∀ b, ¬ v (T b) → b ∉ bs := by
  refine ⟨(List.range w.heap.size).filter (fun b => decide (v (T b))), ⟨h.os, h.tape, h.output, h.size, fun b hb hn => h.block b hb (fun hv => hn ?_)⟩, fun b hn hm => ?_⟩
  · exact List.mem_filter.2 ⟨List.mem_range.2 hb, decide_eq_true hv⟩
  · exact hn (of_decide_eq_true (List.mem_filter.1 hm).2)
/-- a room whose blocks have none of the tags that turn -/
theorem rm_goes {v : Nat → Prop} {T T' : Nat → Nat} {w w' : World} {R B : Nat} {v0 v1 : Value} {hs : List Lent} (h : Rm w R B v0 v1 hs) (hg : Goes v T w T' w') (hR : ¬ v (T R)) (h0 : ∀ g, v0.ownBlock = some g → ¬ v (T g)) (h1 : ∀ g, v1.ownBlock = some g → ¬ v (T g)) (hl : ∀ x ∈ hs, ¬ v (T x.1)) : Rm w' R B v0 v1 hs := by
  obtain ⟨bs, k, hn⟩ := keep_list hg
  exact h.keep k (hn _ hR) (fun g e => hn _ (h0 g e)) (fun g e => hn _ (h1 g e)) (fun x hx => hn _ (hl x hx))
/-- both lists are new -/
theorem pr_first {t u : Nat} {T1 : Nat → Nat} {w4 w5 : World} {L R : Nat} {ds : List Nat} {bs : List Nat} (hs : Sl t T1 w4 L ds []) (hz : ∀ b, w4.heap.size ≤ b → T1 b = 0) (hr : Rl w5 R ds [] [] bs) (hb : Below w4.heap.size w4 w5) (hR : w4.heap.size ≤ R) (hbs : ∀ b ∈ bs, w4.heap.size ≤ b) :
    Pr t u (retag w4.heap.size w5.heap.size u T1) w5 L R ds [] bs ∧ Goes (fun _ => False) T1 w4 (retag w4.heap.size w5.heap.size u T1) w5 := by
  have hg : Goes (fun _ => False) T1 w4 (retag w4.heap.size w5.heap.size u T1) w5 := ⟨hb.os, hb.tape, hb.output, hb.size, fun b h _ => hb.block b h, fun b h _ => by unfold retag; rw [if_neg (by omega)], fun b h h0 => by unfold retag; rw [if_neg (by omega)]; exact h0⟩
  refine ⟨⟨hs.goes hg (fun z => z) (fun z => z), hr, ?_, fun b hm => ?_⟩, hg⟩
  · unfold retag; rw [if_pos ⟨hR, hr.lt⟩]
  · unfold retag; rw [if_pos ⟨hbs b hm, (hr.low b hm).1⟩]
theorem goes_zero {v : Nat → Prop} {T T' : Nat → Nat} {w w' : World} (hg : Goes v T w T' w') (hz : ∀ b, w.heap.size ≤ b → T b = 0) : ∀ b, w'.heap.size ≤ b → T' b = 0 := fun b hb => hg.high b hb (hz b (Nat.le_trans hg.size hb))

/-- an iterator that was kept: its three boxes, of which list, from where -/
structure Lt where
  bl : Nat
  bk : Nat
  bs : Nat
  L : Nat
  R : Nat
  e : En
def Lt.fv (k : Lt) : Value := .func (.func 46) #[] #[.pointer (some ⟨k.bl, 0, none⟩), .pointer (some ⟨k.bk, 0, none⟩), .pointer (some ⟨k.bs, 0, none⟩)]
def Lt.cells (k : Lt) : List Value := [k.fv, .pointer (some ⟨k.L, 0, none⟩), .pointer (some ⟨k.R, 0, none⟩), .string k.e.1, .int .u64 k.e.2.1, .bool k.e.2.2.1, .string k.e.2.2.2]
def cellsK (l : List Lt) : List Value := l.flatMap Lt.cells
theorem cellsK_length (l : List Lt) : (cellsK l).length = l.length * 7 := by
  induction l with
  | nil => rfl
  | cons a r ih => simp only [cellsK, List.flatMap_cons, List.length_append, List.length_cons] at ih ⊢; rw [ih]; simp [Lt.cells]; omega
theorem cellsK_append (l r : List Lt) : cellsK (l ++ r) = cellsK l ++ cellsK r := by simp [cellsK]
theorem cellsK_get : ∀ (l : List Lt) (i j : Nat) (k : Lt), l[i]? = some k → j < 7 → (cellsK l)[i * 7 + j]? = k.cells[j]?
  | [], i, j, k, h, _ => by simp at h
  | a :: l, 0, j, k, h, hj => by
    simp at h
    subst h
    show (a.cells ++ cellsK l)[0 * 7 + j]? = _
    rw [Nat.zero_mul, Nat.zero_add, List.getElem?_append_left (by simp [Lt.cells]; omega)]
  | a :: l, i + 1, j, k, h, hj => by
    show (a.cells ++ cellsK l)[(i + 1) * 7 + j]? = _
    have e : (i + 1) * 7 + j = a.cells.length + (i * 7 + j) := by simp [Lt.cells]; omega
    rw [e, List.getElem?_append_right (by omega), Nat.add_sub_cancel_left]
    exact cellsK_get l i j k (by simpa using h) hj
theorem cellsK_one (l : List Lt) : ∀ u ∈ cellsK l, u.oneCell' = true := by
  intro u hu
  simp only [cellsK, List.mem_flatMap] at hu
  obtain ⟨k, _, hk⟩ := hu
  simp only [Lt.cells, Lt.fv, List.mem_cons, List.not_mem_nil, or_false] at hk
  rcases hk with rfl | rfl | rfl | rfl | rfl | rfl | rfl <;> rfl
/-- what holds of each of them -/
structure LtOk (T : Nat → Nat) (W : World) (La Ra Lb Rb : Nat) (k : Lt) : Prop where
  cl : W.cell? ⟨k.bl, 0, none⟩ = some (.pointer (some ⟨k.L, 0, none⟩))
  ck : W.cell? ⟨k.bk, 0, none⟩ = some (.string k.e.1)
  cs : W.cell? ⟨k.bs, 0, none⟩ = some (.int .u64 k.e.2.1)
  tag : T k.bl = 0 ∧ T k.bk = 0 ∧ T k.bs = 0
  of : (k.L = La ∧ k.R = Ra) ∨ (k.L = Lb ∧ k.R = Rb)
theorem LtOk.goes {v : Nat → Prop} {T T' : Nat → Nat} {W W' : World} {La Ra Lb Rb : Nat} {k : Lt} (h : LtOk T W La Ra Lb Rb k) (hg : Goes v T W T' W') (hv : ¬ v 0) : LtOk T' W' La Ra Lb Rb k := by
  have b1 := World.block_lt_of_cell? W _ h.cl
  have b2 := World.block_lt_of_cell? W _ h.ck
  have b3 := World.block_lt_of_cell? W _ h.cs
  have n1 : ¬ v (T k.bl) := by rw [h.tag.1]; exact hv
  have n2 : ¬ v (T k.bk) := by rw [h.tag.2.1]; exact hv
  have n3 : ¬ v (T k.bs) := by rw [h.tag.2.2]; exact hv
  exact ⟨(World.cell?_of_block (hg.block _ b1 n1)).trans h.cl, (World.cell?_of_block (hg.block _ b2 n2)).trans h.ck, (World.cell?_of_block (hg.block _ b3 n3)).trans h.cs, ⟨(hg.tag _ b1 n1).trans h.tag.1, (hg.tag _ b2 n2).trans h.tag.2.1, (hg.tag _ b3 n3).trans h.tag.2.2⟩, h.of⟩

/-- a pair's box -/
def boxP (W : World) (A L R : Nat) : Prop := W.cell? ⟨A, 0, none⟩ = some (.pointer (some ⟨L, 0, none⟩)) ∧ W.cell? ⟨A, 1, none⟩ = some (.pointer (some ⟨R, 0, none⟩))
theorem boxP.goes {v : Nat → Prop} {T T' : Nat → Nat} {W W' : World} {A L R : Nat} (h : boxP W A L R) (hg : Goes v T W T' W') (hv : ¬ v (T A)) : boxP W' A L R :=
  ⟨(World.cell?_of_block (a := ⟨A, 0, none⟩) (hg.block _ (World.block_lt_of_cell? W _ h.1) hv)).trans h.1, (World.cell?_of_block (a := ⟨A, 1, none⟩) (hg.block _ (World.block_lt_of_cell? W _ h.2) hv)).trans h.2⟩

/-- what stands in SkipAll, behind the making -/
structure Sa (w0 : World) (T : Nat → Nat) (W : World) (R0 g1 n1 c1 g2 n2 c2 : Nat) (v0 v1 : Value) (La Ra Lb Rb A Bx : Nat) (da db : List Nat) (na nb : List Nd) (ba bb : List Nat) (x2 : List Nat) : Prop where
  low : Below w0.heap.size w0 W
  zlo : ∀ b, b < w0.heap.size → T b = 0
  zhi : ∀ b, W.heap.size ≤ b → T b = 0
  pa : Pr 1 5 T W La Ra da na ba
  pb : Pr 3 6 T W Lb Rb db nb bb
  rm : Rm W R0 w0.heap.size v0 v1 [(g1, n1, c1), (g2, n2, c2)]
  tR : T R0 = 0
  t0 : ∀ g, v0.ownBlock = some g → T g = 0
  t1 : ∀ g, v1.ownBlock = some g → T g = 0
  tg1 : T g1 = 7
  tg2 : T g2 = 0
  in2 : BRow W g2 0 x2
  xA : boxP W A La Ra
  xB : boxP W Bx Lb Rb
  tA : T A = 0
  tB : T Bx = 0
theorem Sa.step0 {w0 : World} {v : Nat → Prop} {T T' : Nat → Nat} {W W' : World} {R0 g1 n1 c1 g2 n2 c2 : Nat} {v0 v1 : Value} {La Ra Lb Rb A Bx : Nat} {da db : List Nat} {na nb na' nb' : List Nd} {ba bb ba' bb' : List Nat} {x2 : List Nat} (h : Sa w0 T W R0 g1 n1 c1 g2 n2 c2 v0 v1 La Ra Lb Rb A Bx da db na nb ba bb x2) (hg : Goes v T W T' W') (hv : ¬ v 0) (hrm : Rm W' R0 w0.heap.size v0 v1 [(g1, n1, c1), (g2, n2, c2)]) (htg : T' g1 = 7) (ha : Pr 1 5 T' W' La Ra da na' ba') (hb : Pr 3 6 T' W' Lb Rb db nb' bb') : Sa w0 T' W' R0 g1 n1 c1 g2 n2 c2 v0 v1 La Ra Lb Rb A Bx da db na' nb' ba' bb' x2 := by
  have z : ∀ b, T b = 0 → ¬ v (T b) := fun b e => by rw [e]; exact hv
  have hs := h.low.size
  refine ⟨h.low.trans ⟨hg.os, hg.tape, hg.output, hg.size, fun b hb => hg.block b (by omega) (z b (h.zlo b hb))⟩, fun b hb => (hg.tag b (by omega) (z b (h.zlo b hb))).trans (h.zlo b hb), goes_zero hg h.zhi, ha, hb, hrm, (hg.tag _ h.rm.lt (z _ h.tR)).trans h.tR, fun g e => ?_, fun g e => ?_, htg, ?_, ?_, h.xA.goes hg (z _ h.tA), h.xB.goes hg (z _ h.tB), ?_, ?_⟩
  · have := (h.rm.o0.lt g e).2
    exact (hg.tag _ this (z _ (h.t0 g e))).trans (h.t0 g e)
  · have := (h.rm.o1.lt g e).2
    exact (hg.tag _ this (z _ (h.t1 g e))).trans (h.t1 g e)
  · exact (hg.tag _ h.in2.1 (z _ h.tg2)).trans h.tg2
  · exact h.in2.keep (hg.block _ h.in2.1 (z _ h.tg2)) hg.size
  · exact (hg.tag _ (World.block_lt_of_cell? W _ h.xA.1) (z _ h.tA)).trans h.tA
  · exact (hg.tag _ (World.block_lt_of_cell? W _ h.xB.1) (z _ h.tB)).trans h.tB
theorem Sa.step {w0 : World} {v : Nat → Prop} {T T' : Nat → Nat} {W W' : World} {R0 g1 n1 c1 g2 n2 c2 : Nat} {v0 v1 : Value} {La Ra Lb Rb A Bx : Nat} {da db : List Nat} {na nb na' nb' : List Nd} {ba bb ba' bb' : List Nat} {x2 : List Nat} (h : Sa w0 T W R0 g1 n1 c1 g2 n2 c2 v0 v1 La Ra Lb Rb A Bx da db na nb ba bb x2) (hg : Goes v T W T' W') (hv : ¬ v 0) (hv7 : ¬ v 7) (ha : Pr 1 5 T' W' La Ra da na' ba') (hb : Pr 3 6 T' W' Lb Rb db nb' bb') : Sa w0 T' W' R0 g1 n1 c1 g2 n2 c2 v0 v1 La Ra Lb Rb A Bx da db na' nb' ba' bb' x2 := by
  have z : ∀ b, T b = 0 → ¬ v (T b) := fun b e => by rw [e]; exact hv
  refine h.step0 hg hv (rm_goes h.rm hg (z _ h.tR) (fun g e => z _ (h.t0 g e)) (fun g e => z _ (h.t1 g e)) (fun x hx => ?_)) ?_ ha hb
  · simp at hx
    rcases hx with rfl | rfl
    · show ¬ v (T g1); rw [h.tg1]; exact hv7
    · exact z _ h.tg2
  · have := (h.rm.lent _ (List.mem_cons_self ..)).2.2.2.2.1.1
    exact (hg.tag _ this (by rw [h.tg1]; exact hv7)).trans h.tg1
/-- a byte of the first lent list is written -/
theorem Sa.set {w0 : World} {T : Nat → Nat} {W : World} {R0 g1 n1 c1 g2 n2 c2 : Nat} {v0 v1 : Value} {La Ra Lb Rb A Bx : Nat} {da db : List Nat} {na nb : List Nd} {ba bb : List Nat} {x2 : List Nat} (h : Sa w0 T W R0 g1 n1 c1 g2 n2 c2 v0 v1 La Ra Lb Rb A Bx da db na nb ba bb x2) {i : Nat} (hi : i < n1) (u : Value) : Sa w0 T (W.setCell ⟨g1, i, none⟩ u) R0 g1 n1 c1 g2 n2 c2 v0 v1 La Ra Lb Rb A Bx da db na nb ba bb x2 := by
  have hg : Goes (· = 7) T W T (W.setCell ⟨g1, i, none⟩ u) := Goes.setCell (t := (· = 7)) h.tg1
  refine h.step0 hg (by omega) (h.rm.set u ⟨_, List.mem_cons_self .., rfl⟩ (fun x hx e => ?_)) h.tg1 (h.pa.goes hg (by omega) (by omega) (by omega)) (h.pb.goes hg (by omega) (by omega) (by omega))
  simp at hx
  rcases hx with rfl | rfl
  · exact hi
  · exfalso
    have h1 := h.tg1
    have h2 := h.tg2
    simp only at e
    rw [← e, h2] at h1
    omega
theorem Sa.below {w0 : World} {T : Nat → Nat} {W W' : World} {R0 g1 n1 c1 g2 n2 c2 : Nat} {v0 v1 : Value} {La Ra Lb Rb A Bx : Nat} {da db : List Nat} {na nb : List Nd} {ba bb : List Nat} {x2 : List Nat} (h : Sa w0 T W R0 g1 n1 c1 g2 n2 c2 v0 v1 La Ra Lb Rb A Bx da db na nb ba bb x2) (hb : Below W.heap.size W W') : Sa w0 T W' R0 g1 n1 c1 g2 n2 c2 v0 v1 La Ra Lb Rb A Bx da db na nb ba bb x2 :=
  h.step (Goes.below (t := fun _ => False) hb) (fun z => z) (fun z => z) (h.pa.below hb) (h.pb.below hb)
/-- the state behind the making -/
theorem sa_first {w w3 w5 W6 w8 W9 : World} {R0 g1 n1 c1 g2 n2 c2 : Nat} {u0 u1 : Value} {T5 T8 : Nat → Nat} {La Ra Lb Rb A Bx : Nat} {da db : List Nat} {ba bb : List Nat} (hb3 : Below w.heap.size w w3) (hrm : Rm w3 R0 w.heap.size u0 u1 [(g1, n1, c1), (g2, n2, c2)]) (row2 : BRow w3 g2 0 db) (hne : g1 ≠ g2)
    (hp5 : Pr 1 5 T5 w5 La Ra da [] ba) (hg5 : Goes (fun _ => False) (upd (fun _ => 0) g1 7) w3 T5 w5) (hb6 : Below w5.heap.size w5 W6) (hA : A = w5.heap.size) (hA6 : A < W6.heap.size) (hxA : boxP W6 A La Ra) (hp8 : Pr 3 6 T8 w8 Lb Rb db [] bb) (hg8 : Goes (fun _ => False) T5 W6 T8 w8) (hb9 : Below w8.heap.size w8 W9) (hB : Bx = w8.heap.size) (hxB : boxP W9 Bx Lb Rb) :
    Sa w T8 W9 R0 g1 n1 c1 g2 n2 c2 u0 u1 La Ra Lb Rb A Bx da db [] [] ba bb db := by
  have f0 : ¬ (fun _ : Nat => False) 0 := fun z => z
  have l1 := hrm.lent _ (List.mem_cons_self ..)
  have hg1 := l1.2.2.2.2.1.1
  have s3 := hb3.size
  have hgT : Goes (fun _ => False) (upd (fun _ => 0) g1 7) w3 T8 W9 := ((hg5.trans (Goes.below hb6)).trans hg8).trans (Goes.below hb9)
  have hbT : Below w3.heap.size w3 W9 := ⟨hgT.os, hgT.tape, hgT.output, hgT.size, fun b hb => hgT.block b hb (fun z => z)⟩
  have tg : ∀ b, b < w3.heap.size → T8 b = upd (fun _ => 0) g1 7 b := fun b hb => hgT.tag b hb (fun z => z)
  have tz : ∀ b, b < w3.heap.size → b ≠ g1 → T8 b = 0 := fun b hb hn => by rw [tg b hb]; exact upd_other _ _ hn
  have z3 : ∀ b, w3.heap.size ≤ b → upd (fun _ => 0) g1 7 b = 0 := fun b hb => upd_other _ _ (by omega)
  have z5 : ∀ b, w5.heap.size ≤ b → T5 b = 0 := goes_zero hg5 z3
  have z8 : ∀ b, w8.heap.size ≤ b → T8 b = 0 := goes_zero hg8 (fun b hb => z5 b (Nat.le_trans hb6.size hb))
  refine ⟨keepB hbT hb3, fun b hb => tz b (by omega) (by have := l1.1; show b ≠ g1; simp only at this; omega), goes_zero hgT z3, ((hp5.below hb6).goes hg8 (fun z => z) (fun z => z) (fun z => z)).below hb9, hp8.below hb9, hrm.below hbT, tz _ hrm.lt (fun e => l1.2.1 e.symm), fun g e => tz _ (hrm.o0.lt g e).2 (fun e2 => l1.2.2.1 (by rw [e, e2])), fun g e => tz _ (hrm.o1.lt g e).2 (fun e2 => l1.2.2.2.1 (by rw [e, e2])), by rw [tg g1 hg1]; exact upd_same _ _ _, tz _ row2.1 (fun e => hne e.symm), row2.below hbT row2.1, (hxA.goes hg8 (fun z => z)).goes (Goes.below (t := fun _ => False) (T := T8) hb9) (fun z => z), hxB, ?_, by rw [hB]; exact z8 _ (Nat.le_refl _)⟩
  rw [hg8.tag A hA6 (fun z => z), hA]
  exact z5 _ (Nat.le_refl _)
end Sk
end Go.Proofs.Ytfomnkkpiflokaa
namespace Go.Proofs.Ytfomnkkpiflokaa
namespace Sk
open Go.RowKit Laws Irw Erw KMath Skm Byt Rom
set_option linter.unusedVariables false
set_option maxRecDepth 100000
set_option linter.unusedSimpArgs false

theorem infoK : (Try.prog.info? 61).map (fun i => (i.zero, i.size, i.bytes)) = some (some (.agg #[.nilFunc, .pointer none, .pointer none, .string ⟨#[]⟩, .int .u64 0, .bool false, .string ⟨#[]⟩]), 7, 72) := by kernel_rfl
theorem undK : Try.prog.underlying 50 = some (.slice 61) := by kernel_rfl
/-- the list of kept iterators -/
def OwnK (T : Nat → Nat) (w : World) (v : Value) (l : List Lt) : Prop := w.ownsRow 0 61 7 v l.length (cellsK l) ∧ ∀ g, v.ownBlock = some g → T g = 9
theorem OwnK.goes {t : Nat → Prop} {T T' : Nat → Nat} {w w' : World} {v : Value} {l : List Lt} (h : OwnK T w v l) (hg : Goes t T w T' w') (hs : ¬ t 9) : OwnK T' w' v l := by
  have hb : ∀ g, v.ownBlock = some g → w'.heap[g]? = w.heap[g]? ∧ T' g = 9 := fun g e => by
    have h1 := (h.1.lt g e).2
    have h2 := h.2 g e
    exact ⟨hg.block g h1 (by rw [h2]; exact hs), (hg.tag g h1 (by rw [h2]; exact hs)).trans h2⟩
  refine ⟨⟨h.1.1, ?_⟩, fun g e => (hb g e).2⟩
  rcases h.1.2 with h1 | ⟨g, cap, cur, hv, hb', hh, hr⟩
  · exact .inl h1
  · have hv' : v.ownBlock = some g := by rw [hv]; rfl
    exact .inr ⟨g, cap, cur, hv, hb', (hb g hv').1.trans hh, hr⟩
theorem OwnK.nil (T : Nat → Nat) (w : World) : OwnK T w (.slice none 0 0) [] := ⟨World.ownsRow_nil _ _ _ _, by simp [Value.ownBlock]⟩
theorem OwnK.form {T : Nat → Nat} {w : World} {v : Value} {l : List Lt} (h : OwnK T w v l) : ∃ a c, v = .slice a l.length c ∧ l.length ≤ c := by
  rcases h.1.2 with ⟨h1, h2⟩ | ⟨g, cap, cur, hv, _, _, hc, _⟩
  · have : l = [] := List.length_eq_zero_iff.1 h2
    subst this
    exact ⟨none, 0, h1, Nat.le_refl _⟩
  · exact ⟨_, cap, hv, hc⟩
/-- one of them, as it lies -/
theorem OwnK.cell {T : Nat → Nat} {w : World} {a : Option Addr} {n c : Nat} {l : List Lt} (h : OwnK T w (.slice a n c) l) {i : Nat} {k : Lt} (hi : l[i]? = some k) : ∃ g, a = some ⟨g, 0, none⟩ ∧ ∀ j u, j < 7 → k.cells[j]? = some u → w.cell? ⟨g, i * 7 + j, none⟩ = some u := by
  have hl := (List.getElem?_eq_some_iff.1 hi).1
  rcases h.1.2 with ⟨h1, h2⟩ | ⟨g, cap, cur, hv, _, hh, hc, hm, hs, ht⟩
  · omega
  · simp only [Value.slice.injEq] at hv
    refine ⟨g, hv.1, fun j u hj hu => ?_⟩
    have h3 := cellsK_get l i j k hi hj
    rw [hu, ← ht] at h3
    rw [cell_of_obj hh]
    rw [List.getElem?_take] at h3
    split at h3
    · rw [← Array.getElem?_toList]; exact h3
    · cases h3

/-- one more is kept -/
theorem run_appK {P : Program} (w : World) (t ty : TypeId) (i : TypeInfo) (ht : P.underlying t = some (.slice 61)) (hi : P.info? 61 = some i) (hz : i.zero = some (.agg #[.nilFunc, .pointer none, .pointer none, .string ⟨#[]⟩, .int .u64 0, .bool false, .string ⟨#[]⟩])) (hsize : i.size = 7) (hby : i.bytes = 72)
    (T : Nat → Nat) (v : Value) (l : List Lt) (hown : OwnK T w v l) (b : Nat) (k : Lt) (hnews : ∀ j u, k.cells[j]? = some u → w.cell? ⟨b, j, none⟩ = some u) (hl : l.length + 1 ≤ 1954687338268) :
    ∃ a' c' T' w', (Builtin.append_ #[t, t] ty #[v, .slice (some ⟨b, 0, none⟩) 1 1]).run P w = .ok (.slice a' (l.length + 1) c') w' ∧ OwnK T' w' (.slice a' (l.length + 1) c') (l ++ [k]) ∧ Goes (· = 9) T w T' w' := by
  have hc : cellsK [k] = k.cells := by simp [cellsK]
  obtain ⟨v', w', hrun, h2, h3, h4, h5⟩ := run_append_own_at (P := P) w 0 t ty 61 i (.agg #[.nilFunc, .pointer none, .pointer none, .string ⟨#[]⟩, .int .u64 0, .bool false, .string ⟨#[]⟩]) 7 72 ht hi hz hsize hby rfl (by omega) v l.length (cellsK l) hown.1 ⟨b, 0, none⟩ 1 1 (cellsK [k]) (by rw [cellsK_length]; rfl) (fun j u hu => by rw [hc] at hu; rw [Byt.add_plain', Nat.zero_add]; exact hnews j u hu) (cellsK_one _) (by unfold maxLen; omega) (by omega) (Nat.zero_le _)
  rcases h2.2 with ⟨e1, e2⟩ | ⟨g, cap, cur, hv, _⟩
  · omega
  · subst hv
    have hat : v.ownBlock = some g ∨ g = w.heap.size := by
      rcases h5 with h5 | h5
      · exact .inl (by rw [← h5]; rfl)
      · exact .inr (by simpa [Value.ownBlock] using h5)
    have hgl := (h2.lt g rfl).2
    refine ⟨_, _, upd T g 9, w', hrun, ⟨by rw [List.length_append, cellsK_append]; exact h2, fun g' e => ?_⟩, ⟨h3.os, h3.tape, h3.output, h3.size, fun b hb ht => h3.block b hb (fun e => ht (hown.2 b e.symm)), fun b hb _ => ?_, fun b hb h0 => ?_⟩⟩
    · simp only [Value.ownBlock, Option.some.injEq] at e
      subst e; exact upd_same _ _ _
    · by_cases e : b = g
      · subst e
        rcases hat with e | e
        · rw [upd_same, hown.2 _ e]
        · omega
      · exact upd_other _ _ e
    · rw [upd_other _ _ (by omega)]; exact h0
theorem step_appK {P : Program} (w : World) {ops : Array Oper} {o : Oper} {a : Act} {K : Act → World → Prop} {Q : Exit → Act → World → Prop} {E : Prop} (hgd : o.guard = none) (s x : Operand) (t : TypeId)
    (ho : o.op = .call { callee := .builtin .append, args := #[s, x], argTypes := #[t, t] })
    (i : TypeInfo) (ht : P.underlying t = some (.slice 61)) (hi : P.info? 61 = some i) (hz : i.zero = some (.agg #[.nilFunc, .pointer none, .pointer none, .string ⟨#[]⟩, .int .u64 0, .bool false, .string ⟨#[]⟩])) (hsize : i.size = 7) (hby : i.bytes = 72)
    (T : Nat → Nat) (v : Value) (l : List Lt) (hs : a.eval s = v) (hown : OwnK T w v l) (b : Nat) (k : Lt) (hx : a.eval x = .slice (some ⟨b, 0, none⟩) 1 1) (hnews : ∀ j u, k.cells[j]? = some u → w.cell? ⟨b, j, none⟩ = some u) (hl : l.length + 1 ≤ 1954687338268)
    (h : ∀ a' c' T' w', OwnK T' w' (.slice a' (l.length + 1) c') (l ++ [k]) → Goes (· = 9) T w T' w' → K (a.put o.dst (.slice a' (l.length + 1) c')) w') :
    if Region.wanted o (yielded ops a.tmps) = true then Oper.wp P o a w K Q else E := by
  have hw : Region.wanted o (yielded ops a.tmps) = true := by simp [Region.wanted, hgd]
  rw [if_pos hw]
  obtain ⟨a', c', T', w', hr, h2, h3⟩ := run_appK (P := P) w t o.type i ht hi hz hsize hby T v l hown b k hnews hl
  unfold Oper.wp execOp
  simp only [ho, resolve, invoke, builtin, Sem.run_bind, Sem.run_pure, Result.andThen_ok, List.map_toArray, List.map_cons, List.map_nil, hs, hx, hr]
  exact h a' c' T' w' h2 h3
/-- a byte of the first lent list is written: what is left of it -/
theorem sa_row {w0 : World} {T : Nat → Nat} {W : World} {R0 g1 n1 c1 g2 n2 c2 : Nat} {v0 v1 : Value} {La Ra Lb Rb A Bx : Nat} {da db : List Nat} {na nb : List Nd} {ba bb : List Nat} {x2 : List Nat} (h : Sa w0 T W R0 g1 n1 c1 g2 n2 c2 v0 v1 La Ra Lb Rb A Bx da db na nb ba bb x2) {k : Nat} (hr : BRow W g1 k (da.drop k)) (hi : k < n1) (u : Value) : Sa w0 T (W.setCell ⟨g1, k, none⟩ u) R0 g1 n1 c1 g2 n2 c2 v0 v1 La Ra Lb Rb A Bx da db na nb ba bb x2 ∧ BRow (W.setCell ⟨g1, k, none⟩ u) g1 (k + 1) (da.drop (k + 1)) := by
  refine ⟨h.set hi u, by simpa using hr.1, fun i y hy => ?_⟩
  rw [World.cell?_setCell_other _ ⟨g1, k, none⟩ ⟨g1, k + 1 + i, none⟩ _ (fun e => by have := congrArg Addr.off e; simp at this; omega)]
  have := hr.2 (i + 1) y (by rw [List.getElem?_drop] at hy ⊢; rw [← hy]; congr 1; omega)
  have e9 : k + 1 + i = k + (i + 1) := by omega
  rw [e9]; exact this
end Sk
end Go.Proofs.Ytfomnkkpiflokaa
namespace Go.Proofs.Ytfomnkkpiflokaa
namespace Sk
open Go.RowKit Laws Irw Erw KMath Skm Byt Rom
set_option linter.unusedVariables false
set_option maxRecDepth 100000
set_option linter.unusedSimpArgs false

/-- what doesn't change in the script's loop -/
structure Fix where
  R0 : Nat
  g1 : Nat
  n1 : Nat
  c1 : Nat
  g2 : Nat
  n2 : Nat
  c2 : Nat
  v0 : Value
  v1 : Value
  La : Nat
  Ra : Nat
  Lb : Nat
  Rb : Nat
  A : Nat
  Bx : Nat
  da : List Nat
  db : List Nat
  x2 : List Nat
/-- what stands in the script's loop -/
structure Sc (w0 : World) (F : Fix) (T : Nat → Nat) (W : World) (na nb : List Nd) (ba bb : List Nat) (kv : Value) (ks : List Lt) (q : Nat) : Prop where
  sa : Sa w0 T W F.R0 F.g1 F.n1 F.c1 F.g2 F.n2 F.c2 F.v0 F.v1 F.La F.Ra F.Lb F.Rb F.A F.Bx F.da F.db na nb ba bb F.x2
  kp : OwnK T W kv ks
  ok : ∀ k ∈ ks, LtOk T W F.La F.Ra F.Lb F.Rb k
  la : na.length ≤ q
  lb : nb.length ≤ q
  lk : ks.length ≤ q
theorem Sc.below {w0 : World} {F : Fix} {T : Nat → Nat} {W W' : World} {na nb : List Nd} {ba bb : List Nat} {kv : Value} {ks : List Lt} {q : Nat} (h : Sc w0 F T W na nb ba bb kv ks q) (hb : Below W.heap.size W W') : Sc w0 F T W' na nb ba bb kv ks q :=
  ⟨h.sa.below hb, h.kp.goes (Goes.below (t := fun _ => False) hb) (fun z => z), fun k hk => (h.ok k hk).goes (Goes.below (t := fun _ => False) hb) (fun z => z), h.la, h.lb, h.lk⟩
theorem Sc.more {w0 : World} {F : Fix} {T : Nat → Nat} {W : World} {na nb : List Nd} {ba bb : List Nat} {kv : Value} {ks : List Lt} {q : Nat} (h : Sc w0 F T W na nb ba bb kv ks q) : Sc w0 F T W na nb ba bb kv ks (q + 1) :=
  ⟨h.sa, h.kp, h.ok, by have := h.la; omega, by have := h.lb; omega, by have := h.lk; omega⟩
/-- a call of the first list -/
theorem Sc.playA {w0 : World} {F : Fix} {T : Nat → Nat} {W W' : World} {na nb : List Nd} {ba bb : List Nat} {kv : Value} {ks : List Lt} {q : Nat} (h : Sc w0 F T W na nb ba bb kv ks q) (hp : PlayAns 1 5 T W F.La F.Ra F.da na W') : ∃ T' na' ba', Sc w0 F T' W' na' nb ba' bb kv (ks) (q + 1) ∧ (∀ b, T b = 0 → b < W.heap.size → W'.heap[b]? = W.heap[b]?) ∧ (∀ b, T b = 0 → b < W.heap.size → T' b = 0) := by
  obtain ⟨T', na', ba', k1, k2, k3⟩ := hp
  refine ⟨T', na', ba', ⟨h.sa.step k2 (by omega) (by omega) k1 (h.sa.pb.goes k2 (by omega) (by omega) (by omega)), h.kp.goes k2 (by omega), fun k hk => (h.ok k hk).goes k2 (by omega), by have := h.la; omega, by have := h.lb; omega, by have := h.lk; omega⟩, fun b hb hl => k2.block b hl (by rw [hb]; omega), fun b hb hl => (k2.tag b hl (by rw [hb]; omega)).trans hb⟩
/-- a call of the second -/
theorem Sc.playB {w0 : World} {F : Fix} {T : Nat → Nat} {W W' : World} {na nb : List Nd} {ba bb : List Nat} {kv : Value} {ks : List Lt} {q : Nat} (h : Sc w0 F T W na nb ba bb kv ks q) (hp : PlayAns 3 6 T W F.Lb F.Rb F.db nb W') : ∃ T' nb' bb', Sc w0 F T' W' na nb' ba bb' kv (ks) (q + 1) ∧ (∀ b, T b = 0 → b < W.heap.size → W'.heap[b]? = W.heap[b]?) ∧ (∀ b, T b = 0 → b < W.heap.size → T' b = 0) := by
  obtain ⟨T', nb', bb', k1, k2, k3⟩ := hp
  refine ⟨T', nb', bb', ⟨h.sa.step k2 (by omega) (by omega) (h.sa.pa.goes k2 (by omega) (by omega) (by omega)) k1, h.kp.goes k2 (by omega), fun k hk => (h.ok k hk).goes k2 (by omega), by have := h.la; omega, by have := h.lb; omega, by have := h.lk; omega⟩, fun b hb hl => k2.block b hl (by rw [hb]; omega), fun b hb hl => (k2.tag b hl (by rw [hb]; omega)).trans hb⟩
/-- an iterator is kept -/
theorem Sc.keep {w0 : World} {F : Fix} {T T' : Nat → Nat} {W W' : World} {na nb : List Nd} {ba bb : List Nat} {kv kv' : Value} {ks : List Lt} {q : Nat} {k : Lt} (h : Sc w0 F T W na nb ba bb kv ks q) (hg : Goes (· = 9) T W T' W') (ho : OwnK T' W' kv' (ks ++ [k])) (hk : LtOk T W F.La F.Ra F.Lb F.Rb k) (hq : ks.length + 1 ≤ q) : Sc w0 F T' W' na nb ba bb kv' (ks ++ [k]) q := by
  refine ⟨h.sa.step hg (by omega) (by omega) (h.sa.pa.goes hg (by omega) (by omega) (by omega)) (h.sa.pb.goes hg (by omega) (by omega) (by omega)), ho, fun x hx => ?_, h.la, h.lb, by simp; omega⟩
  rcases List.mem_append.1 hx with hx | hx
  · exact (h.ok x hx).goes hg (by omega)
  · rw [List.mem_singleton.1 hx]; exact hk.goes hg (by omega)
/-- a kept one is gone through -/
theorem Sc.now {w0 : World} {F : Fix} {T : Nat → Nat} {W : World} {na nb : List Nd} {ba bb : List Nat} {kv : Value} {ks : List Lt} {q : Nat} (h : Sc w0 F T W na nb ba bb kv ks q) (hq : q ≤ 1954687338268) {k : Lt} (hk : k ∈ ks) {W' : World} (hb : Below W.heap.size W W') :
    Calls Try.prog 14 #[.agg #[k.fv, .pointer (some ⟨k.L, 0, none⟩), .pointer (some ⟨k.R, 0, none⟩), .string k.e.1, .int .u64 k.e.2.1, .bool k.e.2.2.1, .string k.e.2.2.2]] W' fun e w' => e = .returned (.bool true) ∧ Below W'.heap.size W' w' := by
  have h' := h.below hb
  have ho := h'.ok k hk
  have h1 := h.la
  have h2 := h.lb
  rcases ho.of with ⟨e1, e2⟩ | ⟨e1, e2⟩
  · have hc := ho.cl
    rw [e1] at hc
    rw [e1, e2]
    exact now_any 1 5 T W' F.La F.Ra F.da na ba h'.sa.pa (by omega) k.bl k.bk k.bs k.e hc ho.ck ho.cs
  · have hc := ho.cl
    rw [e1] at hc
    rw [e1, e2]
    exact now_any 3 6 T W' F.Lb F.Rb F.db nb bb h'.sa.pb (by omega) k.bl k.bk k.bs k.e hc ho.ck ho.cs
/-- .. and where it lies -/
theorem Sc.late {w0 : World} {F : Fix} {T : Nat → Nat} {W : World} {na nb : List Nd} {ba bb : List Nat} {ka : Option Addr} {n kc : Nat} {ks : List Lt} {q : Nat} (h : Sc w0 F T W na nb ba bb (.slice ka n kc) ks q) {i : Nat} (hi : i < ks.length) : ∃ g k, ka = some ⟨g, 0, none⟩ ∧ k ∈ ks ∧ W.cell? ⟨g, i * 7, none⟩ = some k.fv ∧ W.cell? ⟨g, i * 7 + 1, none⟩ = some (.pointer (some ⟨k.L, 0, none⟩)) ∧ W.cell? ⟨g, i * 7 + 2, none⟩ = some (.pointer (some ⟨k.R, 0, none⟩)) ∧ W.cell? ⟨g, i * 7 + 3, none⟩ = some (.string k.e.1) ∧ W.cell? ⟨g, i * 7 + 4, none⟩ = some (.int .u64 k.e.2.1) ∧ W.cell? ⟨g, i * 7 + 5, none⟩ = some (.bool k.e.2.2.1) ∧ W.cell? ⟨g, i * 7 + 6, none⟩ = some (.string k.e.2.2.2) := by
  obtain ⟨g, e, hc⟩ := h.kp.cell (i := i) (k := ks[i]) (by simp [hi])
  exact ⟨g, ks[i], e, List.getElem_mem hi, hc 0 _ (by omega) rfl, hc 1 _ (by omega) rfl, hc 2 _ (by omega) rfl, hc 3 _ (by omega) rfl, hc 4 _ (by omega) rfl, hc 5 _ (by omega) rfl, hc 6 _ (by omega) rfl⟩

/-- the boxes of a new iterator -/
theorem lt_new {T : Nat → Nat} {w5 w6 : World} {La Ra Lb Rb L R : Nat} {e : En} (hw : w6 = ((w5.drew.alloc (.cells #[.pointer (some ⟨L, 0, none⟩)] 43)).alloc (.cells #[.string e.1] 9)).alloc (.cells #[.int .u64 e.2.1] 51)) (hz : ∀ b, w5.heap.size ≤ b → T b = 0) (hof : (L = La ∧ R = Ra) ∨ (L = Lb ∧ R = Rb)) : LtOk T w6 La Ra Lb Rb ⟨w5.heap.size, w5.heap.size + 1, w5.heap.size + 2, L, R, e⟩ := by
  have hd : w5.drew.heap.size = w5.heap.size := rfl
  refine ⟨?_, ?_, ?_, ⟨hz _ (Nat.le_refl _), hz _ (by show _ ≤ w5.heap.size + 1; omega), hz _ (by show _ ≤ w5.heap.size + 2; omega)⟩, hof⟩
  · show w6.cell? ⟨w5.drew.heap.size, 0, none⟩ = _
    rw [hw]
    generalize w5.drew = v
    rw [World.cell?_of_block (Below.heap_alloc _ _ _ (by simp <;> omega)), World.cell?_of_block (Below.heap_alloc _ _ _ (by simp <;> omega)), World.cell?_alloc_at _ _ _ _ rfl]; rfl
  · show w6.cell? ⟨w5.drew.heap.size + 1, 0, none⟩ = _
    rw [hw]
    generalize w5.drew = v
    rw [World.cell?_of_block (Below.heap_alloc _ _ _ (by simp <;> omega)), World.cell?_alloc_at _ _ _ _ (by simp)]; rfl
  · show w6.cell? ⟨w5.drew.heap.size + 2, 0, none⟩ = _
    rw [hw]
    generalize w5.drew = v
    rw [World.cell?_alloc_at _ _ _ _ (by simp)]; rfl
theorem late_news (w : World) (k : Lt) {t : TypeId} : ∀ j u, k.cells[j]? = some u → (w.alloc (.cells #[k.fv, .pointer (some ⟨k.L, 0, none⟩), .pointer (some ⟨k.R, 0, none⟩), .string k.e.1, .int .u64 k.e.2.1, .bool k.e.2.2.1, .string k.e.2.2.2] t)).cell? ⟨w.heap.size, j, none⟩ = some u := fun j u h => by
  rw [World.cell?_alloc_at _ _ _ _ rfl, ← Array.getElem?_toList]
  exact h
set_option maxHeartbeats 1000000 in
theorem place5 (a : Int) (n : Nat) (w : World) (h1 : -9223372036854775808 ≤ a) (h2 : a ≤ 9223372036854775807) (hn : 0 < n) (hn2 : n ≤ 1954687338268) :
    Calls Try.prog 13 #[.int .i64 a, .int .i64 (n : Int)] w fun e w' => ∃ p : Nat, e = .returned (.int .i64 (p : Int)) ∧ p < n ∧ w' = w := by
  have q0 : ¬ n = 0 := by omega
  have q1 : (0 : Int) < (n : Int) := by omega
  have q2 : (n : Int) ≤ 1954687338268 := by omega
  have HN : Hid (0 < n) := hn
  by_cases h0 : a < 0
  · obtain ⟨m, hm⟩ : ∃ m : Nat, -(a + 1) = (m : Int) := ⟨(-(a + 1)).toNat, by omega⟩
    have t1 : Int.tmod (m : Int) (n : Int) = ((m % n : Nat) : Int) := by rw [Int.tmod_eq_emod_of_nonneg (by omega)]; omega
    have HF : Hid (m % n < n) := Nat.mod_lt _ hn
    generalize m % n = p at *
    have q3 : IntKind.i64.wrap (a + 1) = a + 1 := IntWalk.i64_in _ (by omega)
    have q4 : IntKind.i64.wrap (-(a + 1)) = (m : Int) := by rw [IntWalk.i64_in _ (by omega)]; exact hm
    clear hn hn2 h1 h2 hm
    go_enter Try.func13, Try.ntmps13
    go_wp2
    go_ret
    exact ⟨p, rfl, HF.out, rfl⟩
  · obtain ⟨m, rfl⟩ : ∃ m : Nat, a = (m : Int) := ⟨a.toNat, by omega⟩
    have t1 : Int.tmod (m : Int) (n : Int) = ((m % n : Nat) : Int) := by rw [Int.tmod_eq_emod_of_nonneg (by omega)]; omega
    have HF : Hid (m % n < n) := Nat.mod_lt _ hn
    generalize m % n = p at *
    clear hn hn2 h1 h2
    go_enter Try.func13, Try.ntmps13
    go_wp2
    go_ret
    exact ⟨p, rfl, HF.out, rfl⟩
end Sk
end Go.Proofs.Ytfomnkkpiflokaa
