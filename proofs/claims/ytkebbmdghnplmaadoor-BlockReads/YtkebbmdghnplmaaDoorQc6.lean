import Derived.Test.YtkebbmdghnplmaaDoorQc5
import Derived.Test.YtkebbmdghnplmaaDoorQc4
import Derived.Test.YtkebbmdghnplmaaDoorEAp
namespace Go.Proofs.YtkebbmdghnplmaaDoor
namespace Qb
open Go.RowKit Go.Shelf CMath Byt Laws Irw Crw Cod Qe
set_option linter.unusedVariables false
set_option linter.unusedSimpArgs false
set_option maxRecDepth 100000
attribute [local go_sem] Oper.semAt_some

abbrev IsE := @Erw.IsE
abbrev OwnE := @Erw.OwnE
theorem wpListIn_appE {F : Fence} {n : Nat} {P : Program} (w : World) {ops : Array Oper} {rest : List Oper} {o : Oper} {a : Act} {Q : Exit → Act → World → Prop} (hgd : o.guard = none) (s x : Operand) (t : TypeId)
    (ho : o.op = .call { callee := .builtin .append, args := #[s, x], argTypes := #[t, t] })
    (i : TypeInfo) (ht : P.underlying t = some (.slice 30)) (hi : P.info? 30 = some i) (hz : i.zero = some (.agg #[.string ⟨#[]⟩, .int .u64 0, .bool false, .string ⟨#[]⟩])) (hsize : i.size = 4) (hby : i.bytes = 48)
    (g : Nat) (T : Nat → Nat) (v : Value) (l : List En) (hs : a.eval s = v) (hown : OwnE g T w v l) (ao : Option Addr) (m c : Nat) (r : List En) (hx : a.eval x = .slice ao m c) (hm : m = r.length) (hn : ao = none → c = 0) (hr : IsE w ao r) (h40 : l.length + r.length ≤ 2932031007402)
    (h : ∀ a' c' T' w', OwnE g T' w' (.slice a' (l.length + r.length) c') (l ++ r) → Goes (· = g) T w T' w' → wpListIn F n P ops Q rest (a.put o.dst (.slice a' (l.length + r.length) c')) w') : wpListIn F n P ops Q (o :: rest) a w := by
  refine wpListIn_plain hgd fun K hK' => ?_
  obtain ⟨v', T', w', hrun, h2, h3, h4, h5⟩ := Erw.run_appE (P := P) w t o.type i ht hi hz hsize hby g T v l hown ao m c r hm hn hr h40
  obtain ⟨a', c', rfl, _⟩ := h2.form
  rw [List.length_append] at h2 hrun
  unfold Oper.wpIn
  refine ⟨?_, ?_⟩
  · simp [Oper.about, ho, resolve, Target.leads, Sem.run_pure]
  · rw [Oper.semAt_plain F _ _ (by rw [ho]; intro c hc'; cases hc')]
    simp [execOp, ho, resolve, invoke, builtin, hs, hx, hrun, Result.andThen]
    exact hK' _ _ (h a' c' T' w' h2 h3)
theorem ownE_rt {t : Nat} {T : Nat → Nat} {w : World} {v : Value} {l : List En} (h : OwnE t T w v l) : OwnE t (rt T w) w v l := by
  refine ⟨h.1, fun g hv => ?_⟩
  rcases h.1.2 with ⟨h1, _⟩ | ⟨g', cap, cur, hv', _, hh, _⟩
  · rw [h1] at hv; cases hv
  · rw [hv'] at hv
    cases hv
    rw [rt_cells hh rfl]
    exact h.2 _ (by rw [hv']; rfl)
theorem ownE_grown {t : Nat} {T : Nat → Nat} {A C : World} {row : Option Nat} {v : Value} {l : List En} (h : OwnE t T A v l) (hg : A.grownBy C row) (hr : ∀ x, row = some x → ∃ o : Obj, A.heap[x]? = some o ∧ o.isCells = false) : OwnE t T C v l := by
  refine ⟨⟨h.1.1, ?_⟩, h.2⟩
  rcases h.1.2 with h1 | ⟨g, cap, cur, hv, hb, hh, hrest⟩
  · exact .inl h1
  · refine .inr ⟨g, cap, cur, hv, hb, ?_, hrest⟩
    rw [hg.block g (Array.getElem?_eq_some_iff.1 hh).1 (fun e => by
      obtain ⟨o, h1, h2⟩ := hr g e.symm
      rw [h1] at hh; cases hh; cases h2)]
    exact hh
theorem isE_new9 {w : World} {x : En} {u : TypeId} : IsE (w.alloc (.cells #[.string x.1, .int .u64 x.2.1, .bool x.2.2.1, .string x.2.2.2] u)) (some ⟨w.heap.size, 0, none⟩) [x] := by
  refine Erw.IsE.of ⟨by simp, fun i z hz => ?_⟩
  cases i with
  | zero => simp at hz; subst hz; refine ⟨?_, ?_, ?_, ?_⟩ <;> (rw [World.cell?_alloc_at _ _ _ _ rfl]; rfl)
  | succ i => simp at hz
theorem undSeq : Tryd.prog.underlying 105 = some (.func #[129] #[] false) := by kernel_rfl
theorem fun_eq (d fn : Nat) (caps : Array Value) (w : World) : (Op.equalIn (d + 1) 105 (.func (.func fn) #[] caps) .nilFunc).run Tryd.prog w = .ok false w := by
  simp [Op.equalIn, run_underlying undSeq]
theorem fun_nil (fn : Nat) (caps : Array Value) (w : World) : (binOp .eql 105 (.func (.func fn) #[] caps) .nilFunc).run Tryd.prog w = .ok (.bool false) w := by
  have h := fun_eq 9999 fn caps w
  simp only [binOp]
  simp [Op.equal, Op.maxDepth, h]

def uG (x : Nat) : Prop := x = 7 ∨ x = 8
/-- where the loop of given stands -/
structure Gi (w : World) (nn : Int) (es : List En) (T : Nat → Nat) (W : World) : Prop where
  n : W.cell? ⟨w.heap.size, 0, none⟩ = some (.int .i64 nn)
  tn : T w.heap.size = 0
  l : ∃ v, W.cell? ⟨w.heap.size + 1, 0, none⟩ = some v ∧ OwnE 7 T W v es
  fl : W.frozen? ⟨w.heap.size + 1, 0, none⟩ = false
  tl : T (w.heap.size + 1) = 8
  bl : Below w.heap.size w W
  hi : ∀ b, W.heap.size ≤ b → T b = 0
  fr : ∀ b, b < w.heap.size → T b = 0
  nc : NC T W
theorem Gi.lasts {w : World} {B : Nat} {nn : Int} (hB : w.heap.size ≤ B) : Lasts B (Gi w nn) := by
  rintro es T A C row h hg hr
  have hr2 : ∀ x, row = some x → ∃ o : Obj, A.heap[x]? = some o ∧ o.isCells = false := fun x e => (hr x e).2
  obtain ⟨v, h1, h2⟩ := h.l
  have k0 := cell_grown' hg hr2 h.n
  have k1 := cell_grown' hg hr2 h1
  exact ⟨(World.cell?_of_block (a := ⟨w.heap.size, 0, none⟩) k0).trans h.n, h.tn, ⟨v, (World.cell?_of_block (a := ⟨w.heap.size + 1, 0, none⟩) k1).trans h1, ownE_grown h2 hg hr2⟩, (World.frozen?_of_block (a := ⟨w.heap.size + 1, 0, none⟩) k1).trans h.fl, h.tl, below_grown (B := 0) h.bl hg (Nat.le_refl _) (fun x e => Nat.le_trans hB (hr x e).1), fun b hb => h.hi b (Nat.le_trans hg.size hb), h.fr, h.nc.grown h.hi hg hr2⟩
/-- What given gives. -/
def gv (nn : Int) (l : List En) : List En := if nn < 0 then l else l.take nn.toNat
def GvIs (w : World) (l : List En) (e : Ending) (w' : World) : Prop := ∃ a c, e = .returned (.slice a l.length c) ∧ IsE w' a l ∧ l.length ≤ c ∧ (a = none → c = 0) ∧ (∀ b off, a = some ⟨b, off, none⟩ → w.heap.size ≤ b) ∧ Below w.heap.size w w'

theorem gi_fin {w W' : World} {nn : Int} {es : List En} {T : Nat → Nat} {v : Value} {D B : Nat} (h : Gi w nn es T W') (lc : W'.cell? ⟨w.heap.size + 1, 0, none⟩ = some v) (lo : OwnE 7 T W' v es) (hD : B ≤ D) (hDd : W'.heap[D]? = some (.deferred (some []))) :
    ∀ w', Below w.heap.size W' w' → (∀ b, b ∉ [D] → w'.heap[b]? = W'.heap[b]?) → GvIs w es (.returned v) w' := by
  intro w' hb hk
  obtain ⟨a, c, rfl, hi, hc, hn⟩ := lo.form
  have blk : ∀ g, a = some ⟨g, 0, none⟩ → T g = 7 ∧ w'.heap[g]? = W'.heap[g]? := fun g e => by
    refine ⟨lo.2 g (by rw [e]; rfl), hk g ?_⟩
    intro hm
    rw [List.mem_singleton.1 hm] at e
    rcases lo.1.2 with ⟨q, _⟩ | ⟨g', cap', cur', q, _, q2, _⟩
    · rw [e] at q; cases q
    · rw [e] at q; cases q; rw [hDd] at q2; cases q2
  have off0 : ∀ b off, a = some ⟨b, off, none⟩ → off = 0 := fun b off e => by
    rcases lo.1.2 with ⟨q, _⟩ | ⟨g', cap', cur', q, _⟩
    · rw [e] at q; cases q
    · rw [e] at q; cases q; rfl
  refine ⟨a, c, rfl, fun hne => ?_, hc, hn, fun b off e => ?_, h.bl.trans hb⟩
  · obtain ⟨b, off, e, hr⟩ := hi hne
    have := off0 b off e
    subst this
    exact ⟨b, 0, e, Nat.lt_of_lt_of_le hr.1 hb.size, fun i x hx => by
      obtain ⟨q1, q2, q3, q4⟩ := hr.2 i x hx
      have hb' := (blk b e).2
      exact ⟨(World.cell?_of_block (a := ⟨b, 0 + i * 4, none⟩) hb').trans q1, (World.cell?_of_block (a := ⟨b, 0 + i * 4 + 1, none⟩) hb').trans q2, (World.cell?_of_block (a := ⟨b, 0 + i * 4 + 2, none⟩) hb').trans q3, (World.cell?_of_block (a := ⟨b, 0 + i * 4 + 3, none⟩) hb').trans q4⟩⟩
  · have := off0 b off e
    subst this
    rcases Nat.lt_or_ge b w.heap.size with hlt | hge
    · have := (blk b e).1
      rw [h.fr b hlt] at this
      cases this
    · exact hge
set_option maxHeartbeats 2000000 in
theorem given_in (w : World) (K o : Nat) (eb pb : List Nat) (nn : Int) (hk : BlkZ w K o eb pb) (hl : eb.length ≤ 1000000000000) :
    CallsIn Fence.wide 9 Tryd.prog 18 #[.pointer (some ⟨K, o, none⟩), .int .i64 nn] w fun e w' => GvIs w (gv nn ((wkp eb 0).map Prod.snd)) e w' := by
  obtain ⟨i0, hi0, hz0, hz1, hz2⟩ := info_parts Erw.infoE
  have HK : Hid (BlkZ w K o eb pb) := hk
  have HL : Hid (((wkp eb 0).map Prod.snd).length ≤ 1000000000000) := by
    show _ ≤ _
    obtain ⟨_, _, _, hie, _⟩ := hk.ent
    have := pos_wk_le eb hie.2
    rw [List.length_map]; omega
  clear hk hl
  have g1 : ((w.alloc (.cells #[.int .i64 nn] 3)).alloc (.cells #[.slice none 0 0] 25)).heap[w.heap.size]? = some (.cells #[.int .i64 nn] 3) := (Below.heap_alloc _ _ _ (by simp)).trans (World.alloc_heap_new _ _)
  have g2 : ((w.alloc (.cells #[.int .i64 nn] 3)).alloc (.cells #[.slice none 0 0] 25)).heap[w.heap.size + 1]? = some (.cells #[.slice none 0 0] 25) := by
    have := World.alloc_heap_new (w.alloc (.cells #[.int .i64 nn] 3)) (.cells #[.slice none 0 0] 25)
    rwa [World.size_alloc] at this
  have hb2 : Below w.heap.size w ((w.alloc (.cells #[.int .i64 nn] 3)).alloc (.cells #[.slice none 0 0] 25)) := ((Below.refl _ _).alloc (Nat.le_refl _) _).alloc (by simp) _
  have hs2 : ((w.alloc (.cells #[.int .i64 nn] 3)).alloc (.cells #[.slice none 0 0] 25)).heap.size = w.heap.size + 2 := by simp
  refine callsIn_of_wp_marks Tryd.func18 rfl trivial ?_ rfl
  simp only [Tryd.ntmps18, List.size_toArray, List.length_cons, List.length_nil, Nat.reduceAdd, Nat.reduceSub, Array.replicate_succ, Array.replicate_zero, List.push_toArray, List.append_toArray, List.nil_append, List.cons_append]
  have hfA : Fence.wide.fn 43 := trivial
  have hfn : ∀ (x : Nat) (w : World), (binOp .eql 105 (.func (.func 79) #[] #[.pointer (some ⟨x, 0, none⟩)]) .nilFunc).run Tryd.prog w = .ok (.bool false) w := fun x w => fun_nil _ _ _
  by_cases hn0 : nn = 0
  · subst hn0
    clear g1 g2 hs2
    gi_wp2
    refine leaves_marks (B0 := w.heap.size) [] _ (by simp) (by simp) (fun w' hb hk => ?_)
    refine ⟨.slice none 0 0, ?_, none, 0, by simp [gv], Erw.IsE.nil _ _, by simp [gv], by simp, by simp, hb2.trans hb⟩
    simp [results, Tryd.results18, go_sem]
  · have hne : (nn == 0) = false := by simpa using hn0
    have HNN : Hid (nn ≠ 0) := hn0
    clear hn0
    gi_wp2_with fail
    generalize ((w.alloc (.cells #[.int .i64 nn] 3)).alloc (.cells #[.slice none 0 0] 25)) = w2 at *
    refine (callsIn_wide.2 (all_any w2 K o)).mono ?_
    rintro e w3 ⟨rfl, hb3, hs3, c3⟩
    dsimp only
    rw [hs2] at hs3 c3 ⊢
    have q1 := (hb3.block _ (by omega)).trans g1
    have q2 := (hb3.block _ (by omega)).trans g2
    have hb23 : Below w.heap.size w w3 := hb2.trans (hb3.mono (by omega))
    have hu0 : ¬ uG 0 := by unfold uG; omega
    have HU0 : Hid (¬ uG 0) := hu0
    have H0 : Hid (Gi w nn [] (upd (fun _ => 0) (w.heap.size + 1) 8) w3) := by
      refine ⟨by rw [cell_of_obj q1]; rfl, upd_other _ _ (by omega), ⟨.slice none 0 0, by rw [cell_of_obj q2]; rfl, Erw.OwnE.empty _ _ _⟩, froz_of_obj q2, upd_same _ _ _, hb23, fun b hb => upd_other _ _ (by omega), fun b hb => upd_other _ _ (by omega), fun b ob h ho => ?_⟩
      by_cases hbM : b = w.heap.size + 1
      · subst hbM; rw [q2] at h; cases h; cases ho
      · exact upd_other _ _ hbM
    have HSQ : Hid (SeqE uG Fence.wide 8 5 Tryd.prog 79 #[.pointer (some ⟨w.heap.size + 2, 0, none⟩)] encE ((wkp eb 0).map Prod.snd) w3 (upd (fun _ => 0) (w.heap.size + 1) 8)) := all_seq uG hu0 8 (by decide) _ _ K o eb pb w3 (BlkAt.below (BlkAt.up HK.out (fun b hb => by rw [upd_other _ _ (by omega)]; exact hu0)) hb23) H0.out.hi c3
    have qs3 : w.heap.size ≤ w3.heap.size := by omega
    clear hb2 hb3 hb23 g1 g2 q1 q2 hs2 hs3 c3 hu0
    gi_wp2
    refine range_e rfl (by decide) (gf := 79) (lb := #[.pointer (some ⟨w.heap.size + 2, 0, none⟩)]) rfl trivial (enters_of Tryd.func79 (by kernel_rfl) rfl)
      uG HU0.out (upd (fun _ => 0) (w.heap.size + 1) 8) H0.out.hi HSQ.out (fun _ => rfl)
      (fun es T W => (nn < 0 ∨ (es.length : Int) < nn) ∧ Gi w nn es T W) (fun c es T W => c = .exit 0 ∧ (es.length : Int) = nn ∧ Gi w nn es T W)
      (fun es T A C row h hg hr => ⟨h.1, Gi.lasts qs3 es T A C row h.2 hg hr⟩) (fun c es T A C row h hg hr => ⟨h.1, h.2.1, Gi.lasts qs3 es T A C row h.2.2 hg hr⟩) ⟨by have := HNN.out; simp only [List.length_nil]; omega, H0.out⟩
      (fun e a' Wc W' => W' = Wc.alloc (.cells #[.string e.1, .int .u64 e.2.1, .bool e.2.2.1, .string e.2.2.2] 30) ∧ a' = { tmps := #[.pointer (some ⟨K, o, none⟩), .int .i64 nn, undef, .pointer (some ⟨w.heap.size, 0, none⟩), .slice none 0 0, .pointer (some ⟨w.heap.size + 1, 0, none⟩), .func (.func 79) #[] #[.pointer (some ⟨w.heap.size + 2, 0, none⟩)], .pointer (some ⟨Wc.heap.size, 0, none⟩), .int .i64 nn, .bool false, .pointer (some ⟨K, o, none⟩), .func (.func 79) #[] #[.pointer (some ⟨w.heap.size + 2, 0, none⟩)], .func (.func 79) #[] #[.pointer (some ⟨w.heap.size + 2, 0, none⟩)], .bool false, undef, undef, .func (.func 79) #[] #[.pointer (some ⟨w.heap.size + 2, 0, none⟩)], .agg #[.string e.1, .int .u64 e.2.1, .bool e.2.2.1, .string e.2.2.2], undef, undef, undef, undef, undef, undef, undef, undef, undef], defers := [] })
      (fun e a' Wc W' h => by rw [h.1]; exact (Below.refl _ _).alloc (Nat.le_refl _) _) ?assign ?body ?done ?stop
    case assign =>
      rintro l_ ⟨ek, es_, ed, ev⟩ es T Wc Kc hi hK
      simp only [encE]
      gi_wp2
      try exact hK _ _ ⟨rfl, rfl⟩
    case body =>
      rintro l_ ⟨ek, es_, ed, ev⟩ es T a' Wc W' Wb hl1 hl2 ⟨ob, ho, hoc⟩ _ ⟨hlim, hgi⟩ hz hN9 ⟨rfl, rfl⟩ hg
      dsimp only at *
      have e0 : Wb.heap[Wc.heap.size]? = some (.cells #[.string ek, .int .u64 es_, .bool ed, .string ev] 30) := (hg.block _ (by simp) (fun e => by cases e; omega)).trans (World.alloc_heap_new _ _)
      have hcl : Wc.heap.size < Wb.heap.size := (Array.getElem?_eq_some_iff.1 e0).1
      have c0 : Wb.cell? ⟨Wc.heap.size, 0, none⟩ = some (.string ek) := by rw [cell_of_obj e0]; rfl
      have c1 : Wb.cell? ⟨Wc.heap.size, 1, none⟩ = some (.int .u64 es_) := by rw [cell_of_obj e0]; rfl
      have c2 : Wb.cell? ⟨Wc.heap.size, 2, none⟩ = some (.bool ed) := by rw [cell_of_obj e0]; rfl
      have c3 : Wb.cell? ⟨Wc.heap.size, 3, none⟩ = some (.string ev) := by rw [cell_of_obj e0]; rfl
      obtain ⟨v, lc, lo⟩ := hgi.l
      obtain ⟨a7, c7, rfl, _⟩ := lo.form
      have ln := hgi.n
      have lf := hgi.fl
      have hlen : es.length < 1000000000000 := by
        have h1 := hN9.length_le
        have := HL.out
        simp only [List.length_append, List.length_singleton] at h1
        omega
      have HO : Hid (OwnE 7 T Wb (.slice a7 es.length c7) es) := lo
      have HGI : Hid (Gi w nn es T Wb ∧ (nn < 0 ∨ (es.length : Int) < nn)) := ⟨hgi, hlim⟩
      clear hgi hlim hz hN9 hg ho hoc e0 lo
      have HBA : Hid (Below Wb.heap.size Wb (Wb.alloc (.cells #[.string ek, .int .u64 es_, .bool ed, .string ev] 30))) := (Below.refl _ _).alloc (Nat.le_refl _) _
      have HNW : Hid (IsE (Wb.alloc (.cells #[.string ek, .int .u64 es_, .bool ed, .string ev] 30)) (some ⟨Wb.heap.size, 0, none⟩) [(ek, es_, ed, ev)]) := isE_new9 (x := (ek, es_, ed, ev))
      have l1 := World.block_lt_of_cell? Wb _ lc
      have l0 := World.block_lt_of_cell? Wb _ ln
      have mid : ∀ a' c' T' w', OwnE 7 T' w' (.slice a' (es.length + [(ek, es_, ed, ev)].length) c') (es ++ [(ek, es_, ed, ev)]) → Goes (· = 7) T (Wb.alloc (.cells #[.string ek, .int .u64 es_, .bool ed, .string ev] 30)) T' w' → w'.cell? ⟨w.heap.size + 1, 0, none⟩ = some (.slice a7 es.length c7) ∧ w'.frozen? ⟨w.heap.size + 1, 0, none⟩ = false ∧ w'.cell? ⟨w.heap.size, 0, none⟩ = some (.int .i64 nn) ∧ ∃ T9, Gi w nn (es ++ [(ek, es_, ed, ev)]) T9 (w'.setCell ⟨w.heap.size + 1, 0, none⟩ (.slice a' (es.length + 1) c')) ∧ Goes uG T Wb T9 (w'.setCell ⟨w.heap.size + 1, 0, none⟩ (.slice a' (es.length + 1) c')) ∧ KeepsFrom w3.heap.size Wb (w'.setCell ⟨w.heap.size + 1, 0, none⟩ (.slice a' (es.length + 1) c')) := by
        intro a' c' T' w' hown hgo
        have hgi := HGI.out.1
        have hga : Goes (· = 7) T Wb T' w' := (Goes.below HBA.out).trans hgo
        have k1 : w'.cell? ⟨w.heap.size + 1, 0, none⟩ = some (.slice a7 es.length c7) := (hga.cell l1 (by rw [hgi.tl]; omega)).trans lc
        have kf : w'.frozen? ⟨w.heap.size + 1, 0, none⟩ = false := (World.frozen?_of_block (a := ⟨w.heap.size + 1, 0, none⟩) (hga.block _ l1 (by rw [hgi.tl]; omega))).trans lf
        have k0 : w'.cell? ⟨w.heap.size, 0, none⟩ = some (.int .i64 nn) := (hga.cell l0 (by rw [hgi.tn]; omega)).trans ln
        have kt : T' (w.heap.size + 1) = 8 := (hga.tag _ l1 (by rw [hgi.tl]; omega)).trans hgi.tl
        have hgs : Goes uG T' w' T' (w'.setCell ⟨w.heap.size + 1, 0, none⟩ (.slice a' (es.length + 1) c')) := Goes.setCell (.inr kt)
        have hgt : Goes uG T Wb T' (w'.setCell ⟨w.heap.size + 1, 0, none⟩ (.slice a' (es.length + 1) c')) := (hga.mono fun x hx => .inl hx).trans hgs
        have p3 := goes_rt hgt hgi.nc
        have d1 : (w'.setCell ⟨w.heap.size + 1, 0, none⟩ (.slice a' (es.length + 1) c')).cell? ⟨w.heap.size + 1, 0, none⟩ = some (.slice a' (es.length + 1) c') := World.cell?_setCell_same _ _ _ k1
        have htag : ∀ {b : Nat}, b < Wb.heap.size → T b = 0 → rt T' (w'.setCell ⟨w.heap.size + 1, 0, none⟩ (.slice a' (es.length + 1) c')) b = 0 := fun {b} hb h0 => (p3.tag b hb (by rw [h0]; exact HU0.out)).trans h0
        refine ⟨k1, kf, k0, rt T' (w'.setCell ⟨w.heap.size + 1, 0, none⟩ (.slice a' (es.length + 1) c')), ⟨?_, htag l0 hgi.tn, ⟨_, d1, ?_⟩, ?_, (rt_cell d1).trans kt, ?_, fun b hb => p3.high b hb (hgi.hi b (Nat.le_trans p3.size hb)), fun b hb => htag (Nat.lt_of_lt_of_le hb hgi.bl.size) (hgi.fr b hb), nc_rt _ _⟩, p3, keeps_of p3 hgi.nc HU0.out _⟩
        · exact (World.cell?_setCell_other _ _ _ _ (by intro h; have := congrArg Addr.block h; simp at this)).trans k0
        · have : OwnE 7 T' (w'.setCell ⟨w.heap.size + 1, 0, none⟩ (.slice a' (es.length + 1) c')) (.slice a' (es.length + 1) c') (es ++ [(ek, es_, ed, ev)]) := by
            refine Erw.OwnE.goes (t := (· = 8)) (T := T') (w := w') hown (Goes.setCell kt) (by omega)
          exact ownE_rt this
        · rw [World.frozen?_setCell]; exact kf
        · exact hgi.bl.trans ⟨p3.os, p3.tape, p3.output, p3.size, fun b hb => p3.block b (Nat.lt_of_lt_of_le hb hgi.bl.size) (by rw [hgi.fr b hb]; exact HU0.out)⟩
      have MID : Hid _ := mid
      clear mid
      have HLN : Hid (((es ++ [(ek, es_, ed, ev)]).length : Int) = (es.length : Int) + 1) := by show _ = _; simp
      gi_wp2_with (gi_at_builtin; go_loud (refine wpListIn_appE _ (by rfl) (.tmp 18) (.tmp 20) 25 (by rfl) i0 Tryd.underlying25 hi0 hz0 hz1 hz2 7 T (.slice a7 es.length c7) es (by rfl) (Erw.OwnE.below HO.out HBA.out) (some ⟨Wb.heap.size, 0, none⟩) 1 1 [(ek, es_, ed, ev)] (by rfl) (by rfl) (by simp) HNW.out (by simp; omega) ?_; intro a9 c9 T9 w9 hown9 hgo9; have hmm := MID.out a9 c9 T9 w9 hown9 hgo9; clear hown9 hgo9; simp only [List.length_cons, List.length_nil, Nat.zero_add] at hmm ⊢; obtain ⟨m1, m2, m3, hm⟩ := hmm; have HM : Hid _ := hm; clear hm))
      · rename_i hst
        have hst2 : (es.length : Int) + 1 = nn := by simpa using hst
        obtain ⟨T9, p1, p2, p3⟩ := HM.out
        exact ⟨T9, ⟨rfl, by rw [HLN.out]; exact hst2, p1⟩, p3⟩
      · rename_i hst
        have hst2 : ¬ ((es.length : Int) + 1 = nn) := by simpa using hst
        obtain ⟨T9, p1, p2, p3⟩ := HM.out
        have := HGI.out.2
        exact ⟨T9, ⟨by rw [HLN.out]; omega, p1⟩, p2, p1.hi, p3⟩
    case done =>
      rintro D T W' hD ⟨hlim, hgi⟩ hDd
      obtain ⟨v, lc, lo⟩ := hgi.l
      have HEQ : Hid (gv nn ((wkp eb 0).map Prod.snd) = (wkp eb 0).map Prod.snd) := by
        show _ = _
        unfold gv
        split
        · rfl
        · exact List.take_of_length_le (by omega)
      have fin := gi_fin hgi lc lo hD hDd
      have FIN : Hid _ := fin
      obtain ⟨a7, c7, rfl, _⟩ := lo.form
      clear hlim hgi lo fin
      dsimp only
      gi_wp2
      refine leaves_marks (B0 := w.heap.size) [D] _ (by
        intro E hE
        rw [List.mem_singleton.1 hE]
        exact ⟨by omega, hDd⟩) (by simp) (fun w' hb hk => ?_)
      refine ⟨_, ?_, by rw [HEQ.out]; exact FIN.out w' hb hk⟩
      simp [results, Tryd.results18, go_sem]
    case stop =>
      rintro D c es T W' hD hpre ⟨rfl, hlim, hgi⟩ hDd
      obtain ⟨v, lc, lo⟩ := hgi.l
      have HEQ : Hid (gv nn ((wkp eb 0).map Prod.snd) = es) := by
        show _ = _
        unfold gv
        rw [if_neg (by omega)]
        obtain ⟨t, ht⟩ := hpre
        rw [← ht, show nn.toNat = es.length by omega, List.take_left]
      have fin := gi_fin hgi lc lo hD hDd
      have FIN : Hid _ := fin
      obtain ⟨a7, c7, rfl, _⟩ := lo.form
      clear hlim hgi lo fin
      dsimp only
      gi_wp2
      refine leaves_marks (B0 := w.heap.size) [D] _ (by
        intro E hE
        rw [List.mem_singleton.1 hE]
        exact ⟨by omega, hDd⟩) (by simp) (fun w' hb hk => ?_)
      refine ⟨_, ?_, by rw [HEQ.out]; exact FIN.out w' hb hk⟩
      simp [results, Tryd.results18, go_sem]
theorem given_any (w : World) (K o : Nat) (eb pb : List Nat) (nn : Int) (hk : BlkZ w K o eb pb) (hl : eb.length ≤ 1000000000000) :
    Calls Tryd.prog 18 #[.pointer (some ⟨K, o, none⟩), .int .i64 nn] w fun e w' => GvIs w (gv nn ((wkp eb 0).map Prod.snd)) e w' := callsIn_wide.1 (given_in w K o eb pb nn hk hl)
end Qb
end Go.Proofs.YtkebbmdghnplmaaDoor
