import Derived.Test.YtnhhalabmmcemaaDoorTcB
import Derived.Test.YtnhhalabmmcemaaDoorTg1
namespace Go.Proofs.YtnhhalabmmcemaaDoor
namespace Tbl
open Go.RowKit Go.Shelf CMath Byt Laws Irw Crw Cod Qb Qe
set_option linter.unusedVariables false
set_option linter.unusedSimpArgs false
set_option maxRecDepth 100000
attribute [local go_sem] Oper.semAt_some

/-- where the loop of given stands -/
structure Gj (T00 : Nat → Nat) (w : World) (nn : Int) (es : List En) (T : Nat → Nat) (W : World) : Prop where
  n : W.cell? ⟨w.heap.size, 0, none⟩ = some (.int .i64 nn)
  tn : T w.heap.size = 0
  l : ∃ v, W.cell? ⟨w.heap.size + 1, 0, none⟩ = some v ∧ OwnE 7 T W v es
  fl : W.frozen? ⟨w.heap.size + 1, 0, none⟩ = false
  tl : T (w.heap.size + 1) = 8
  bl : Below w.heap.size w W
  hi : ∀ b, W.heap.size ≤ b → T b = 0
  fr : ∀ b, b < w.heap.size → T b = T00 b
  nc : NC T W
theorem Gj.lasts {T00 : Nat → Nat} {w : World} {B : Nat} {nn : Int} (hB : w.heap.size ≤ B) : Lasts B (Gj T00 w nn) := by
  rintro es T A C row h hg hr
  have hr2 : ∀ x, row = some x → ∃ o : Obj, A.heap[x]? = some o ∧ o.isCells = false := fun x e => (hr x e).2
  obtain ⟨v, h1, h2⟩ := h.l
  have k0 := cell_grown' hg hr2 h.n
  have k1 := cell_grown' hg hr2 h1
  exact ⟨(World.cell?_of_block (a := ⟨w.heap.size, 0, none⟩) k0).trans h.n, h.tn, ⟨v, (World.cell?_of_block (a := ⟨w.heap.size + 1, 0, none⟩) k1).trans h1, ownE_grown h2 hg hr2⟩, (World.frozen?_of_block (a := ⟨w.heap.size + 1, 0, none⟩) k1).trans h.fl, h.tl, below_grown (B := 0) h.bl hg (Nat.le_refl _) (fun x e => Nat.le_trans hB (hr x e).1), fun b hb => h.hi b (Nat.le_trans hg.size hb), h.fr, h.nc.grown h.hi hg hr2⟩
theorem gj_fin {T00 : Nat → Nat} {w W' : World} (h7 : ∀ b, ¬ uG (T00 b)) {nn : Int} {es : List En} {T : Nat → Nat} {v : Value} {D B : Nat} (h : Gj T00 w nn es T W') (lc : W'.cell? ⟨w.heap.size + 1, 0, none⟩ = some v) (lo : OwnE 7 T W' v es) (hD : B ≤ D) (hDd : W'.heap[D]? = some (.deferred (some []))) :
    ∀ w', Below w.heap.size W' w' → (∀ b, b ∉ [D] → w'.heap[b]? = W'.heap[b]?) → GvIs w es (.returned v) w' := by
  intro w' hb hk
  obtain ⟨a, c, rfl, hi, hc, hn⟩ := lo.form
  have blk : ∀ g, a = some ⟨g, 0, none⟩ → T g = 7 ∧ w'.heap[g]? = W'.heap[g]? := fun g e => by
    refine ⟨lo.2 g (by rw [e]; rfl), hk g ?_⟩
    intro hm
    rw [List.mem_singleton.1 hm] at e
    rcases lo.1.2 with ⟨q, _⟩ | ⟨g', cap', cur', q, _, q2, _⟩
    · rw [e] at q; cases q
    · rw [e] at q; cases q; rw [hDd] at q2; cases q2
  have off0 : ∀ b off, a = some ⟨b, off, none⟩ → off = 0 := fun b off e => by
    rcases lo.1.2 with ⟨q, _⟩ | ⟨g', cap', cur', q, _⟩
    · rw [e] at q; cases q
    · rw [e] at q; cases q; rfl
  refine ⟨a, c, rfl, fun hne => ?_, hc, hn, fun b off e => ?_, h.bl.trans hb⟩
  · obtain ⟨b, off, e, hr⟩ := hi hne
    have := off0 b off e
    subst this
    exact ⟨b, 0, e, Nat.lt_of_lt_of_le hr.1 hb.size, fun i x hx => by
      obtain ⟨q1, q2, q3, q4⟩ := hr.2 i x hx
      have hb' := (blk b e).2
      exact ⟨(World.cell?_of_block (a := ⟨b, 0 + i * 4, none⟩) hb').trans q1, (World.cell?_of_block (a := ⟨b, 0 + i * 4 + 1, none⟩) hb').trans q2, (World.cell?_of_block (a := ⟨b, 0 + i * 4 + 2, none⟩) hb').trans q3, (World.cell?_of_block (a := ⟨b, 0 + i * 4 + 3, none⟩) hb').trans q4⟩⟩
  · have := off0 b off e
    subst this
    rcases Nat.lt_or_ge b w.heap.size with hlt | hge
    · have := (blk b e).1
      rw [h.fr b hlt] at this
      exact absurd (.inl this) (h7 b)
    · exact hge

theorem tfrom_any (w : World) (B : Nat) (key : ByteArray) :
    Calls Tryd.prog 27 #[.pointer (some ⟨B, 0, none⟩), .string key] w fun e w' => e = .returned (.func (.func 49) #[] #[.pointer (some ⟨w.heap.size, 0, none⟩), .pointer (some ⟨w.heap.size + 1, 0, none⟩)]) ∧ Below w.heap.size w w' ∧ w'.heap.size = w.heap.size + 2 ∧ w'.heap[w.heap.size]? = some (.cells #[.pointer (some ⟨B, 0, none⟩)] 34) ∧ w'.heap[w.heap.size + 1]? = some (.cells #[.string key] 9) := by
  have hmf : ∀ (fn : Fn) (first cap : Array Value) (w : World), (Instr.makeFunc fn first cap).run Tryd.prog w = .ok (.func fn first cap) w := fun _ _ _ _ => rfl
  go_enter Tryd.func27, Tryd.ntmps27
  go_wp2
  go_ret
  refine ⟨rfl, ((Below.refl _ _).alloc (Nat.le_refl _) _).alloc (by simp) _, by simp, (Below.heap_alloc _ _ _ (by simp)).trans (World.alloc_heap_new _ _), ?_⟩
  have h := World.alloc_heap_new (w.alloc (.cells #[.pointer (some ⟨B, 0, none⟩)] 34)) (.cells #[.string key] 9)
  rwa [World.size_alloc] at h
open Classical in
/-- The table's tags alone. -/
theorem retag {T : Nat → Nat} {w : World} {B : Nat} {ps : List (ByteArray × Nat)} {F : List Nat} {m : Mt} {R : Nat} {css : List (List En)} (h : TbO 20 T w B ps F m) (hps : PsAt R T w ps css) : ∃ T00, TbO 20 T00 w B ps F m ∧ PsAt R T00 w ps css ∧ (∀ b, ¬ uG (T00 b)) ∧ (∀ b, w.heap.size ≤ b → T00 b = 0) ∧ NC T00 w := by
  obtain ⟨pv, fa, fc, hob, hpv, hfi, hft⟩ := h.ob
  have lB := (Array.getElem?_eq_some_iff.1 hob).1
  refine ⟨fun b => if b < w.heap.size ∧ (T b = 20 ∨ T b = 21) ∧ (∃ cs ty, w.heap[b]? = some (.cells cs ty)) then T b else 0, ?_, ?_, ?_, ?_, ?_⟩
  · have hz : ∀ b, T b = 0 → (if b < w.heap.size ∧ (T b = 20 ∨ T b = 21) ∧ (∃ cs ty, w.heap[b]? = some (.cells cs ty)) then T b else 0) = 0 := fun b hb => by
      split
      · exact hb
      · rfl
    refine ⟨⟨pv, fa, fc, hob, ⟨hpv.1, fun g hv => ?_⟩, hfi, fun b off e hne => hz b (hft b off e hne)⟩, ?_⟩
    · have h1 := hpv.2 g hv
      rcases hpv.1.2 with ⟨h2, _⟩ | ⟨g', cap, cur, hv', hb, hh, hc, hr⟩
      · rw [h2] at hv; cases hv
      · rw [hv'] at hv
        cases hv
        show (if _ then _ else _) = _
        rw [if_pos ⟨(Array.getElem?_eq_some_iff.1 hh).1, .inr h1, _, _, hh⟩, h1]
    · show (if _ then _ else _) = _
      rw [if_pos ⟨lB, .inl h.tB, _, _, hob⟩, h.tB]
  · have hz : ∀ b, T b = 0 → (if b < w.heap.size ∧ (T b = 20 ∨ T b = 21) ∧ (∃ cs ty, w.heap[b]? = some (.cells cs ty)) then T b else 0) = 0 := fun b hb => by
      split
      · exact hb
      · rfl
    refine PsAt.imp (fun K eb pb hk => ?_) ps css hps
    have z : ∀ b, ¬ (T b ≠ 0) → ¬ ((if b < w.heap.size ∧ (T b = 20 ∨ T b = 21) ∧ (∃ cs ty, w.heap[b]? = some (.cells cs ty)) then T b else 0) ≠ 0) := fun b hb => by
      have : T b = 0 := by omega
      rw [hz b this]; simp
    obtain ⟨a1, c1, e1, e2, e3, e4, e5⟩ := hk.ent
    obtain ⟨a2, c2, f1, f2, f3, f4, f5⟩ := hk.pla
    exact ⟨hk.lt, z _ hk.tag, ⟨a1, c1, e1, e2, e3, e4, fun b off e hne => z b (e5 b off e hne)⟩, ⟨a2, c2, f1, f2, f3, f4, fun b off e hne => z b (f5 b off e hne)⟩⟩
  · intro b hb
    unfold uG at hb
    dsimp only at hb
    split at hb <;> omega
  · intro b hb
    show (if _ then _ else _) = _
    rw [if_neg (fun h => by have := h.1; omega)]
  · intro b o hb ho
    show (if _ then _ else _) = _
    rw [if_neg]
    rintro ⟨_, _, cs, ty, h2⟩
    rw [h2] at hb; cases hb; cases ho
end Tbl
end Go.Proofs.YtnhhalabmmcemaaDoor
namespace Go.Proofs.YtnhhalabmmcemaaDoor
namespace Tbl
open Go.RowKit Go.Shelf CMath Byt Laws Irw Crw Cod Qb Qe
set_option linter.unusedVariables false
set_option linter.unusedSimpArgs false
set_option maxRecDepth 100000
attribute [local go_sem] Oper.semAt_some

set_option maxHeartbeats 4000000 in
theorem from_in (w : World) (B : Nat) (key : ByteArray) (nn : Int) (hnn : nn = -1) (ps : List (ByteArray × Nat)) (F : List Nat) (m : Mt) (R : Nat) (css : List (List En)) (T00 : Nat → Nat)
    (htb : TbO 20 T00 w B ps F m) (hps : PsAt R T00 w ps css) (h7 : ∀ b, ¬ uG (T00 b)) (hhi : ∀ b, w.heap.size ≤ b → T00 b = 0) (hnc : NC T00 w) (hch : chain ⟨#[]⟩ css.flatten) (hnn0 : ∀ e ∈ css.flatten, 0 ≤ e.2.1) (hne : ∀ cs ∈ css, cs ≠ []) (hce : css ≠ []) (hlen : css.flatten.length ≤ 100000) (hcl : css.length ≤ 100000) :
    CallsIn Fence.wide 12 Tryd.prog 14 #[.pointer (some ⟨B, 0, none⟩), .string key, .int .i64 nn] w fun e w' => GvIs w (frE css key) e w' := by
  obtain ⟨i0, hi0, hz0, hz1, hz2⟩ := info_parts Erw.infoE
  have H7 := Qb.hid h7
  have HA := Qb.hid (And.intro htb (And.intro hps (And.intro hhi hnc)))
  have HC := Qb.hid (And.intro hch (And.intro hnn0 (And.intro hne (And.intro hce (And.intro hlen hcl)))))
  have HL : Hid ((frE css key).length ≤ 1000000000000) := Qb.hid (by
    have : (frE css key).length ≤ css.flatten.length := List.length_filter_le _ _
    omega)
  clear htb hps h7 hhi hnc hch hnn0 hne hce hlen hcl
  have g1 : ((w.alloc (.cells #[.int .i64 nn] 3)).alloc (.cells #[.slice none 0 0] 22)).heap[w.heap.size]? = some (.cells #[.int .i64 nn] 3) := (Below.heap_alloc _ _ _ (by simp)).trans (World.alloc_heap_new _ _)
  have g2 : ((w.alloc (.cells #[.int .i64 nn] 3)).alloc (.cells #[.slice none 0 0] 22)).heap[w.heap.size + 1]? = some (.cells #[.slice none 0 0] 22) := by
    have := World.alloc_heap_new (w.alloc (.cells #[.int .i64 nn] 3)) (.cells #[.slice none 0 0] 22)
    rwa [World.size_alloc] at this
  have hb2 : Below w.heap.size w ((w.alloc (.cells #[.int .i64 nn] 3)).alloc (.cells #[.slice none 0 0] 22)) := ((Below.refl _ _).alloc (Nat.le_refl _) _).alloc (by simp) _
  have hs2 : ((w.alloc (.cells #[.int .i64 nn] 3)).alloc (.cells #[.slice none 0 0] 22)).heap.size = w.heap.size + 2 := by simp
  refine callsIn_of_wp_marks Tryd.func14 rfl trivial ?_ rfl
  simp only [Tryd.ntmps14, List.size_toArray, List.length_cons, List.length_nil, Nat.reduceAdd, Nat.reduceSub, Array.replicate_succ, Array.replicate_zero, List.push_toArray, List.append_toArray, List.nil_append, List.cons_append]
  have hfA : Fence.wide.fn 27 := trivial
  have hfn : ∀ (x y : Nat) (w : World), (binOp .eql 65 (.func (.func 49) #[] #[.pointer (some ⟨x, 0, none⟩), .pointer (some ⟨y, 0, none⟩)]) .nilFunc).run Tryd.prog w = .ok (.bool false) w := fun x y w => fun_nil _ _ _
  have hne0 : (nn == 0) = false := by rw [hnn]; rfl
  have HNN := Qb.hid hnn
  clear hnn
  gi_wp2_with fail
  generalize ((w.alloc (.cells #[.int .i64 nn] 3)).alloc (.cells #[.slice none 0 0] 22)) = w2 at *
  refine (callsIn_wide.2 (tfrom_any w2 B key)).mono ?_
  rintro e w3 ⟨rfl, hb3, hs3, c3, c4⟩
  dsimp only
  rw [hs2] at hs3 c3 c4 ⊢
  have q1 := (hb3.block _ (by omega)).trans g1
  have q2 := (hb3.block _ (by omega)).trans g2
  have hb23 : Below w.heap.size w w3 := hb2.trans (hb3.mono (by omega))
  have hu0 : ¬ uG 0 := by unfold uG; omega
  have HU0 : Hid (¬ uG 0) := hu0
  have H0 : Hid (Gj T00 w nn [] (upd T00 (w.heap.size + 1) 8) w3) := by
    refine ⟨by rw [cell_of_obj q1]; rfl, (upd_other _ _ (by omega)).trans (HA.out.2.2.1 _ (Nat.le_refl _)), ⟨.slice none 0 0, by rw [cell_of_obj q2]; rfl, Erw.OwnE.empty _ _ _⟩, froz_of_obj q2, upd_same _ _ _, hb23, fun b hb => (upd_other _ _ (by omega)).trans (HA.out.2.2.1 b (by omega)), fun b hb => upd_other _ _ (by omega), fun b ob h ho => ?_⟩
    by_cases hbM : b = w.heap.size + 1
    · subst hbM; rw [q2] at h; cases h; cases ho
    · rw [upd_other _ _ hbM]
      rcases Nat.lt_or_ge b w.heap.size with hl | hl
      · exact HA.out.2.2.2 b ob ((hb23.block b hl).symm.trans h) ho
      · exact HA.out.2.2.1 b hl
  have hgo : Goes uG T00 w (upd T00 (w.heap.size + 1) 8) w3 := ⟨hb23.os, hb23.tape, hb23.output, hb23.size, fun b hb _ => hb23.block b hb, fun b hb _ => upd_other _ _ (by omega), fun b hb h0 => (upd_other _ _ (by omega)).trans h0⟩
  have u20 : ¬ uG 20 := by unfold uG; omega
  have u21 : ¬ uG 21 := by unfold uG; omega
  have HSQ : Hid (SeqE uG Fence.wide 11 6 Tryd.prog 49 #[.pointer (some ⟨w.heap.size + 2, 0, none⟩), .pointer (some ⟨w.heap.size + 2 + 1, 0, none⟩)] encE (frE css key) w3 (upd T00 (w.heap.size + 1) 8)) := Qb.hid fun l W J Jx hW hJ hJx h0 hY =>
    fromc_in uG hu0 u20 u21 11 (by decide) _ l _ _ B key ps F m R css W ((HA.out.1.goes hgo hu0 u20 u21).below hW) ((HA.out.2.1.goes hgo hu0).goes (Goes.below (t := fun _ => False) hW) (fun z => z)) HC.out.1 HC.out.2.1 HC.out.2.2.1 HC.out.2.2.2.1 HC.out.2.2.2.2.1 HC.out.2.2.2.2.2 (fun b hb => H0.out.hi b (Nat.le_trans hW.size hb))
      ((hW.block _ (by omega)).trans c3) ((hW.block _ (by omega)).trans c4) ((upd_other _ _ (by omega)).trans (HA.out.2.2.1 _ (by omega))) ((upd_other _ _ (by omega)).trans (HA.out.2.2.1 _ (by omega))) J Jx hJ hJx h0 hY
  have qs3 : w.heap.size ≤ w3.heap.size := by omega
  clear hb2 hb3 hb23 g1 g2 q1 q2 hs2 hs3 c3 c4 hu0 hgo u20 u21
  gi_wp2
  refine range_eB rfl (by decide) (gf := 49) (lb := #[.pointer (some ⟨w.heap.size + 2, 0, none⟩), .pointer (some ⟨w.heap.size + 2 + 1, 0, none⟩)]) rfl trivial (enters_of Tryd.func49 (by kernel_rfl) rfl)
    uG HU0.out (upd T00 (w.heap.size + 1) 8) H0.out.hi HSQ.out (fun _ => rfl)
    (fun es T W => Gj T00 w nn es T W) (fun c es T W => False)
    (fun es T A C row h hg hr => Gj.lasts qs3 es T A C row h hg hr) (fun c es T A C row h hg hr => h.elim) H0.out
    9 (fun e => #[.string e.1, .int .u64 e.2.1, .bool e.2.2.1, .string e.2.2.2]) 43 ?assign ?body ?done ?stop
  case assign =>
    rintro l_ ⟨ek, es_, ed, ev⟩ es' T' Wd Kc hi hK
    simp only [encE]
    gi_wp2
    exact ⟨rfl, by simp only [encE, List.zip_toArray, List.zip_cons_cons, List.zip_nil_right, List.foldl_toArray, List.foldl_cons, List.foldl_nil, List.setIfInBounds_toArray, List.set_cons_succ, List.set_cons_zero]⟩
  case body =>
      rintro l_ ⟨ek, es_, ed, ev⟩ es T a' Wc W' Wb hl1 hl2 ⟨ob, ho, hoc⟩ _ hgi hz hN9 ⟨rfl, rfl⟩ hg _
      simp only [encE] at *
      have e0 : Wb.heap[Wc.heap.size]? = some (.cells #[.string ek, .int .u64 es_, .bool ed, .string ev] 43) := (hg.block _ (by simp) (fun e => by cases e; omega)).trans (World.alloc_heap_new _ _)
      have c0 : Wb.cell? ⟨Wc.heap.size, 0, none⟩ = some (.string ek) := by rw [cell_of_obj e0]; rfl
      have c1 : Wb.cell? ⟨Wc.heap.size, 1, none⟩ = some (.int .u64 es_) := by rw [cell_of_obj e0]; rfl
      have c2 : Wb.cell? ⟨Wc.heap.size, 2, none⟩ = some (.bool ed) := by rw [cell_of_obj e0]; rfl
      have c3 : Wb.cell? ⟨Wc.heap.size, 3, none⟩ = some (.string ev) := by rw [cell_of_obj e0]; rfl
      obtain ⟨v, lc, lo⟩ := hgi.l
      obtain ⟨a7, c7, rfl, _⟩ := lo.form
      have ln := hgi.n
      have lf := hgi.fl
      have hlen : es.length < 1000000000000 := by
        have h1 := hN9.length_le
        have := HL.out
        simp only [List.length_append, List.length_singleton] at h1
        omega
      have HO : Hid (OwnE 7 T Wb (.slice a7 es.length c7) es) := lo
      have HGI : Hid (Gj T00 w nn es T Wb ∧ True) := ⟨hgi, trivial⟩
      clear hgi hz hN9 hg ho hoc e0 lo
      have HBA : Hid (Below Wb.heap.size Wb (Wb.alloc (.cells #[.string ek, .int .u64 es_, .bool ed, .string ev] 43))) := (Below.refl _ _).alloc (Nat.le_refl _) _
      have HNW : Hid (IsE (Wb.alloc (.cells #[.string ek, .int .u64 es_, .bool ed, .string ev] 43)) (some ⟨Wb.heap.size, 0, none⟩) [(ek, es_, ed, ev)]) := isE_new9 (x := (ek, es_, ed, ev))
      have l1 := World.block_lt_of_cell? Wb _ lc
      have l0 := World.block_lt_of_cell? Wb _ ln
      have mid : ∀ a' c' T' w', OwnE 7 T' w' (.slice a' (es.length + [(ek, es_, ed, ev)].length) c') (es ++ [(ek, es_, ed, ev)]) → Goes (· = 7) T (Wb.alloc (.cells #[.string ek, .int .u64 es_, .bool ed, .string ev] 43)) T' w' → w'.cell? ⟨w.heap.size + 1, 0, none⟩ = some (.slice a7 es.length c7) ∧ w'.frozen? ⟨w.heap.size + 1, 0, none⟩ = false ∧ w'.cell? ⟨w.heap.size, 0, none⟩ = some (.int .i64 nn) ∧ ∃ T9, Gj T00 w nn (es ++ [(ek, es_, ed, ev)]) T9 (w'.setCell ⟨w.heap.size + 1, 0, none⟩ (.slice a' (es.length + 1) c')) ∧ Goes uG T Wb T9 (w'.setCell ⟨w.heap.size + 1, 0, none⟩ (.slice a' (es.length + 1) c')) ∧ KeepsFrom w3.heap.size Wb (w'.setCell ⟨w.heap.size + 1, 0, none⟩ (.slice a' (es.length + 1) c')) := by
        intro a' c' T' w' hown hgo
        have hgi := HGI.out.1
        have hga : Goes (· = 7) T Wb T' w' := (Goes.below HBA.out).trans hgo
        have k1 : w'.cell? ⟨w.heap.size + 1, 0, none⟩ = some (.slice a7 es.length c7) := (hga.cell l1 (by rw [hgi.tl]; omega)).trans lc
        have kf : w'.frozen? ⟨w.heap.size + 1, 0, none⟩ = false := (World.frozen?_of_block (a := ⟨w.heap.size + 1, 0, none⟩) (hga.block _ l1 (by rw [hgi.tl]; omega))).trans lf
        have k0 : w'.cell? ⟨w.heap.size, 0, none⟩ = some (.int .i64 nn) := (hga.cell l0 (by rw [hgi.tn]; omega)).trans ln
        have kt : T' (w.heap.size + 1) = 8 := (hga.tag _ l1 (by rw [hgi.tl]; omega)).trans hgi.tl
        have hgs : Goes uG T' w' T' (w'.setCell ⟨w.heap.size + 1, 0, none⟩ (.slice a' (es.length + 1) c')) := Goes.setCell (.inr kt)
        have hgt : Goes uG T Wb T' (w'.setCell ⟨w.heap.size + 1, 0, none⟩ (.slice a' (es.length + 1) c')) := (hga.mono fun x hx => .inl hx).trans hgs
        have p3 := goes_rt hgt hgi.nc
        have d1 : (w'.setCell ⟨w.heap.size + 1, 0, none⟩ (.slice a' (es.length + 1) c')).cell? ⟨w.heap.size + 1, 0, none⟩ = some (.slice a' (es.length + 1) c') := World.cell?_setCell_same _ _ _ k1
        have htag : ∀ {b : Nat}, b < Wb.heap.size → T b = 0 → rt T' (w'.setCell ⟨w.heap.size + 1, 0, none⟩ (.slice a' (es.length + 1) c')) b = 0 := fun {b} hb h0 => (p3.tag b hb (by rw [h0]; exact HU0.out)).trans h0
        refine ⟨k1, kf, k0, rt T' (w'.setCell ⟨w.heap.size + 1, 0, none⟩ (.slice a' (es.length + 1) c')), ⟨?_, htag l0 hgi.tn, ⟨_, d1, ?_⟩, ?_, (rt_cell d1).trans kt, ?_, fun b hb => p3.high b hb (hgi.hi b (Nat.le_trans p3.size hb)), fun b hb => (p3.tag b (Nat.lt_of_lt_of_le hb hgi.bl.size) (by rw [hgi.fr b hb]; exact H7.out b)).trans (hgi.fr b hb), nc_rt _ _⟩, p3, keeps_of p3 hgi.nc HU0.out _⟩
        · exact (World.cell?_setCell_other _ _ _ _ (by intro h; have := congrArg Addr.block h; simp at this)).trans k0
        · have : OwnE 7 T' (w'.setCell ⟨w.heap.size + 1, 0, none⟩ (.slice a' (es.length + 1) c')) (.slice a' (es.length + 1) c') (es ++ [(ek, es_, ed, ev)]) := by
            refine Erw.OwnE.goes (t := (· = 8)) (T := T') (w := w') hown (Goes.setCell kt) (by omega)
          exact ownE_rt this
        · rw [World.frozen?_setCell]; exact kf
        · exact hgi.bl.trans ⟨p3.os, p3.tape, p3.output, p3.size, fun b hb => p3.block b (Nat.lt_of_lt_of_le hb hgi.bl.size) (by rw [hgi.fr b hb]; exact H7.out b)⟩
      have MID : Hid _ := mid
      clear mid
      have hst : (((es.length : Int) + 1) == nn) = false := by have := HNN.out; rw [this]; exact beq_eq_false_iff_ne.2 (by omega)
      have hst2 : ¬ ((es.length : Int) + 1 = nn) := by have := HNN.out; omega
      simp only [List.zip_toArray, List.zip_cons_cons, List.zip_nil_right, List.foldl_toArray, List.foldl_cons, List.foldl_nil, List.setIfInBounds_toArray, List.set_cons_succ, List.set_cons_zero]
      gi_wp2_with (gi_at_builtin; go_loud (refine wpListIn_appE _ (by rfl) (.tmp 21) (.tmp 23) 22 (by rfl) i0 Tryd.underlying22 hi0 hz0 hz1 hz2 7 T (.slice a7 es.length c7) es (by rfl) (Erw.OwnE.below HO.out HBA.out) (some ⟨Wb.heap.size, 0, none⟩) 1 1 [(ek, es_, ed, ev)] (by rfl) (by rfl) (by simp) HNW.out (by simp; omega) ?_; intro a9 c9 T9 w9 hown9 hgo9; have hmm := MID.out a9 c9 T9 w9 hown9 hgo9; clear hown9 hgo9; simp only [List.length_cons, List.length_nil, Nat.zero_add] at hmm ⊢; obtain ⟨m1, m2, m3, hm⟩ := hmm; have HM : Hid _ := hm; clear hm))
      obtain ⟨T9, p1, p2, p3⟩ := HM.out
      exact ⟨T9, p1, p2, p1.hi, p3⟩
  case done =>
      rintro D T W' hD hgi hDd
      obtain ⟨v, lc, lo⟩ := hgi.l
      have fin := gj_fin H7.out hgi lc lo hD hDd
      have FIN : Hid _ := fin
      obtain ⟨a7, c7, rfl, _⟩ := lo.form
      clear hgi lo fin
      dsimp only
      gi_wp2
      refine leaves_marks (B0 := w.heap.size) [D] _ (by
        intro E hE
        rw [List.mem_singleton.1 hE]
        exact ⟨by omega, hDd⟩) (by simp) (fun w' hb hk => ?_)
      refine ⟨_, ?_, FIN.out w' hb hk⟩
      simp [results, Tryd.results14, go_sem]
  case stop => exact fun _ _ _ _ _ _ _ h _ => h.elim
theorem from_any (w : World) (B : Nat) (key : ByteArray) (ps : List (ByteArray × Nat)) (F : List Nat) (m : Mt) (R : Nat) (css : List (List En)) (T : Nat → Nat)
    (htb : TbO 20 T w B ps F m) (hps : PsAt R T w ps css) (hch : chain ⟨#[]⟩ css.flatten) (hnn0 : ∀ e ∈ css.flatten, 0 ≤ e.2.1) (hne : ∀ cs ∈ css, cs ≠ []) (hce : css ≠ []) (hlen : css.flatten.length ≤ 100000) (hcl : css.length ≤ 100000) :
    Calls Tryd.prog 14 #[.pointer (some ⟨B, 0, none⟩), .string key, .int .i64 (-1)] w fun e w' => GvIs w (frE css key) e w' := by
  obtain ⟨T00, h1, h2, h3, h4, h5⟩ := retag htb hps
  exact callsIn_wide.1 (from_in w B key (-1) rfl ps F m R css T00 h1 h2 h3 h4 h5 hch hnn0 hne hce hlen hcl)
end Tbl
end Go.Proofs.YtnhhalabmmcemaaDoor
namespace Go.Proofs.YtnhhalabmmcemaaDoor
namespace Tbl
open Go.RowKit CMath Byt Laws Irw Crw Cod Qb
set_option linter.unusedVariables false
set_option linter.unusedSimpArgs false
set_option maxRecDepth 100000

/-- two lists of entries that are alike -/
theorem sameEntries_true (a b : Option Addr) (ca cb n m : Nat) (l : List En) (w : World) (ha : Erw.IsE w a l) (hb : Erw.IsE w b l) (hn : n = l.length) (hm : m = l.length) (hl : n ≤ 1000000000000) :
    Calls Tryd.prog 13 #[.slice a n ca, .slice b m cb] w fun e w' => e = .returned (.bool true) ∧ Below w.heap.size w w' := by
  obtain rfl : m = n := by omega
  clear hm
  have HA : Hid (Erw.IsE w a l) := ha
  have HB : Hid (Erw.IsE w b l) := hb
  have HNN : Hid (m = l.length) := hn
  clear ha hb hn
  go_enter Tryd.func13, Tryd.ntmps13
  go_wp2
  go_loopw [5] (fun i wr => ∃ k q : Nat, k ≤ m ∧ i = .int .i64 k ∧ wr = w.drewN q) (fun i _ => m - (intOf i).toNat)
  case atStart => exact ⟨0, 0, Nat.zero_le _, rfl, rfl⟩
  case round =>
    obtain ⟨k, q, hk, rfl, rfl⟩ := hrel
    by_cases hlt : k < m
    · have hlt' : k < l.length := by rw [← HNN.out]; exact hlt
      obtain ⟨b1, o1, ⟨yk, ys, yd, yv⟩, rfl, hy, _, x0, x1, x2, x3⟩ := Qg.isE_at HA.out hlt'
      obtain ⟨b2, o2, y', rfl, hy', _, y0, y1, y2, y3⟩ := Qg.isE_at HB.out hlt'
      rw [hy] at hy'
      cases hy'
      have q1 : (k : Int) < (m : Int) := by omega
      dsimp only at x0 x1 x2 x3 y0 y1 y2 y3
      clear hlt' hy
      go_wp2
      go_quiet (fail)
      go_wp2
      go_roundw
      case rel => exact ⟨k + 1, _, by omega, by go_num, rfl⟩
      case measure => simp [intOf]; omega
    · go_wp2
      go_ret
      exact ⟨rfl, below_drewN (Below.refl _ _) _⟩

/-- Get finds every entry of a whole table. -/
theorem get_ok {R : Nat} {bits : Int} {L : Ts} {css : List (List En)} (hW : Wh R bits L css) {T : Nat → Nat} {w : World} {B : Nat} {ps : List (ByteArray × Nat)} {m : Mt} (h : TbO 20 T w B ps (FiO bits L) m) (hps : PsAt R T w ps css) (ht : Tab w) {e : En} (he : e ∈ css.flatten) :
    Calls Tryd.prog 15 #[.pointer (some ⟨B, 0, none⟩), .string e.1] w fun r w' => r = .returned (.tuple #[.agg #[.string e.1, .int .u64 e.2.1, .bool e.2.2.1, .string e.2.2.2], .bool true]) ∧ Below w.heap.size w w' := by
  obtain ⟨hok, hcl, hch, _, _, _, l3, _⟩ := hW.facts
  have hl := hW.len
  refine (get_any T w B e.1 (FiO bits L) m ps R css h hps hch (fun x hx => (hok x hx).2) (by omega) (by omega) (by unfold FiO; omega) (by have := (hok e he).1.k2; omega) ht (rise hps hch hW.inv.ne e.1)).mono fun r w' hg => ?_
  obtain ⟨j, h1, h2, h3, h4, h5⟩ := hg
  rw [gt_at (F := FiO bits L) hps hch he (hW.may e he) ⟨h1, h2, h3⟩] at h4
  exact ⟨h4, h5⟩
/-- The statements' from gives what stands at a key and behind it, and all for the empty key. -/
theorem from_at {R : Nat} {bits : Int} {L : Ts} {css : List (List En)} (hW : Wh R bits L css) {T : Nat → Nat} {w : World} {B : Nat} {ps : List (ByteArray × Nat)} {m : Mt} (h : TbO 20 T w B ps (FiO bits L) m) (hps : PsAt R T w ps css) {i : Nat} {e : En} (he : css.flatten[i]? = some e) :
    Calls Tryd.prog 14 #[.pointer (some ⟨B, 0, none⟩), .string e.1, .int .i64 (-1)] w fun r w' => GvIs w (css.flatten.drop i) r w' := by
  obtain ⟨hok, hcl, hch, _, _, _, l3, _⟩ := hW.facts
  have hl := hW.len
  have := from_any w B e.1 ps (FiO bits L) m R css T h hps hch (fun x hx => (hok x hx).2) hW.inv.ne hW.ne (by omega) (by omega)
  rw [frE_at hch he] at this
  exact this
theorem from_all {R : Nat} {bits : Int} {L : Ts} {css : List (List En)} (hW : Wh R bits L css) {T : Nat → Nat} {w : World} {B : Nat} {ps : List (ByteArray × Nat)} {m : Mt} (h : TbO 20 T w B ps (FiO bits L) m) (hps : PsAt R T w ps css) :
    Calls Tryd.prog 14 #[.pointer (some ⟨B, 0, none⟩), .string ⟨#[]⟩, .int .i64 (-1)] w fun r w' => GvIs w css.flatten r w' := by
  obtain ⟨hok, hcl, hch, _, _, _, l3, _⟩ := hW.facts
  have hl := hW.len
  have := from_any w B ⟨#[]⟩ ps (FiO bits L) m R css T h hps hch (fun x hx => (hok x hx).2) hW.inv.ne hW.ne (by omega) (by omega)
  rw [frE_all hch] at this
  exact this
end Tbl
end Go.Proofs.YtnhhalabmmcemaaDoor
