import Derived.Test.YtnhhalabmmcemaaDoorRnd
import Derived.BigQuiet
namespace Go.Proofs.YtnhhalabmmcemaaDoor
namespace Tbl
open Go.RowKit Go.Shelf CMath Byt Laws Irw Crw Cod Qb Qe
set_option linter.unusedVariables false
set_option linter.unusedSimpArgs false
set_option maxRecDepth 100000
attribute [local go_sem] Oper.semAt_some

/-- What readBlock needs. -/
structure RkIn (t : Nat) (T : Nat → Nat) (w : World) (B : Nat) (ps : List (ByteArray × Nat)) (F : List Nat) (es cs : List En) (r : Nat) (a : Option Addr) (n cap : Nat) (l : List Nat) : Prop where
  tb : TbO t T w B ps F (mtF es)
  hi : Hi T w
  nc : NC T w
  t0 : 10 ≤ t
  t5 : ∀ b, T b ≠ 5
  tab : Tab w
  t00 : T 0 = 0
  ib : IsB w a l
  hn : n = l.length
  hcap : n ≤ cap ∧ cap ≤ 9223372036854775807
  l4 : l.length ≤ 4000000
  a0 : a = none → cap = 0
  op : opn l = some (r, cs)
  ch : chain ⟨#[]⟩ (es ++ cs)
  ne : cs ≠ []
  nn : ∀ e ∈ cs, 0 ≤ e.2.1
  may : ∀ e ∈ cs, BMath.may F (strB e.1) = true
  hF : F.length ≤ 1000000000
  len : es.length + cs.length ≤ 1000000
  pl : ps.length ≤ 1000000
theorem RkIn.ok {t : Nat} {T : Nat → Nat} {w : World} {B : Nat} {ps : List (ByteArray × Nat)} {F : List Nat} {es cs : List En} {r : Nat} {a : Option Addr} {n cap : Nat} {l : List Nat} (h : RkIn t T w B ps F es cs r a n cap l) : ∀ e ∈ cs, Ok e ∧ 0 ≤ e.2.1 := fun e he => ⟨chain_ok h.ch e (List.mem_append_right _ he), h.nn e he⟩
def RkIs (t : Nat) (T : Nat → Nat) (w : World) (B : Nat) (ps : List (ByteArray × Nat)) (F : List Nat) (es cs : List En) (r : Nat) (e : Ending) (w' : World) : Prop :=
  e = .returned (.tuple #[]) ∧ ∃ T' K, TbO t T' w' B (ps ++ [(lastE ⟨#[]⟩ cs, K)]) F (mtF (es ++ cs)) ∧ BlkAt (· ≠ 0) T' w' K 3 (pushes r st0 cs).b (pushes r st0 cs).p ∧ Goes (fun x => x = t ∨ x = t + 1) T w T' w' ∧ NC T' w' ∧ Hi T' w' ∧ (∀ b, T' b ≠ 5)
/-- The next entry. -/
theorem chain_next {es cs es' : List En} {e : En} (h : chain ⟨#[]⟩ (es ++ cs)) (hp : es' ++ [e] <+: cs) : Op.bytesLess (mtF (es ++ es')).hi.toList e.1.toList = true := by
  obtain ⟨m, rfl⟩ := hp
  rw [List.append_assoc, ← List.append_assoc, chain_app] at h
  have h1 := h.2
  have h2 : adds (lastE ⟨#[]⟩ (es ++ es')) e = 0 := h1.1
  have h3 := (adds_ok h2).2
  rw [mtF_hi, ByteArray.toList_eq, ByteArray.toList_eq]
  exact h3
theorem isP_new {w : World} {x : ByteArray × Nat} {u : TypeId} {g : Nat} (hg : w.heap.size = g) : IsK kP (w.alloc (.cells #[.string x.1, .pointer (some ⟨x.2, 3, none⟩)] u)) (some ⟨g, 0, none⟩) [x] := by
  subst hg
  refine IsK.of ⟨by simp, fun i e he j v hv => ?_⟩
  cases i with
  | zero =>
    simp at he
    subst he
    rw [World.cell?_alloc_at _ _ _ _ rfl]
    match j, hv with
    | 0, hv => simpa [kP] using hv
    | 1, hv => simpa [kP] using hv
    | j + 2, hv => simp [kP] at hv
  | succ i => simp at he
theorem ownK_keep {α : Type} {K : Knd α} {t : Nat} {T T' : Nat → Nat} {w w' : World} {v : Value} {l : List α} (h : OwnK K t T w v l) (hk : ∀ g cs ty, w.heap[g]? = some (.cells cs ty) → T g = t → w'.heap[g]? = some (.cells cs ty) ∧ T' g = t) : OwnK K t T' w' v l := by
  refine ⟨⟨h.1.1, ?_⟩, fun g hv => ?_⟩
  · rcases h.1.2 with h1 | ⟨g, cap, cur, hv, hb, hh, hrest⟩
    · exact .inl h1
    · exact .inr ⟨g, cap, cur, hv, hb, (hk g _ _ hh (h.2 g (by rw [hv]; rfl))).1, hrest⟩
  · rcases h.1.2 with ⟨h1, _⟩ | ⟨g', cap, cur, hv', _, hh, _⟩
    · rw [h1] at hv; cases hv
    · rw [hv'] at hv
      cases hv
      exact (hk g' _ _ hh (h.2 _ (by rw [hv']; rfl))).2
theorem blkAt_keep {T T' : Nat → Nat} {w w' : World} {K o : Nat} {eb pb : List Nat} (h : BlkAt (· ≠ 0) T w K o eb pb) (hs : w.heap.size ≤ w'.heap.size) (hk : ∀ g ob, w.heap[g]? = some ob → ob.isCells = true → T g = 0 → w'.heap[g]? = some ob ∧ T' g = 0) : BlkAt (· ≠ 0) T' w' K o eb pb := by
  obtain ⟨a, c, h1, h2, h3, h4, h5⟩ := h.ent
  obtain ⟨a', c', k1, k2, k3, k4, k5⟩ := h.pla
  have hT : T K = 0 := Classical.not_not.1 h.tag
  have bk : ∀ {b j : Nat} {v : Value}, w.cell? ⟨b, j, none⟩ = some v → T b = 0 → w'.heap[b]? = w.heap[b]? ∧ T' b = 0 := fun {b j v} hc h0 => by
    obtain ⟨o, ho, hoc⟩ := cells_of hc
    obtain ⟨q1, q2⟩ := hk b o ho hoc h0
    exact ⟨q1.trans ho.symm, q2⟩
  have isB : ∀ {x : Option Addr} {l : List Nat}, IsB w x l → (∀ b off, x = some ⟨b, off, none⟩ → l ≠ [] → ¬ (T b ≠ 0)) → IsB w' x l ∧ ∀ b off, x = some ⟨b, off, none⟩ → l ≠ [] → ¬ (T' b ≠ 0) := fun {x l} hx ht => by
    refine ⟨⟨fun hne => ?_, hx.2⟩, fun b off e hne => ?_⟩
    · obtain ⟨b, off, e, hr⟩ := hx.1 hne
      obtain ⟨y, hy⟩ : ∃ y, l[0]? = some y := by
        cases l with
        | nil => exact absurd rfl hne
        | cons y l => exact ⟨y, rfl⟩
      have := (bk (hr.2 0 y hy) (Classical.not_not.1 (ht b off e hne))).1
      exact ⟨b, off, e, hr.keep this hs⟩
    · obtain ⟨b', off', e', hr⟩ := hx.1 hne
      rw [e] at e'; cases e'
      obtain ⟨y, hy⟩ : ∃ y, l[0]? = some y := by
        cases l with
        | nil => exact absurd rfl hne
        | cons y l => exact ⟨y, rfl⟩
      have := (bk (hr.2 0 y hy) (Classical.not_not.1 (ht b off e hne))).2
      exact fun z => z this
  have e1 := bk h1 hT
  have e2 := bk k1 hT
  obtain ⟨i1, i2⟩ := isB h2 h5
  obtain ⟨j1, j2⟩ := isB k2 k5
  exact ⟨Nat.lt_of_lt_of_le h.lt hs, fun z => z e1.2, ⟨a, c, (World.cell?_of_block (a := ⟨K, o, none⟩) e1.1).trans h1, i1, h3, h4, i2⟩, ⟨a', c', (World.cell?_of_block (a := ⟨K, o + 1, none⟩) e1.1).trans k1, j1, k3, k4, j2⟩⟩
theorem rk_fin {t : Nat} {T T0 T1 T6 : Nat → Nat} {w w4 W1 w6 w' : World} {B Pb Bx K D : Nat} {ps : List (ByteArray × Nat)} {F : List Nat} {es cs : List En} {r : Nat} {a : Option Addr} {n cap : Nat} {l : List Nat} {fa : Option Addr} {fc : Nat} {ap a6 : Option Addr} {cp c6 : Nat} {g : ByteArray}
    (H : RkIn t T w B ps F es cs r a n cap l) (g4 : Goes (fun _ => False) T w T0 w4) (hF4 : IsB w4 fa F ∧ ∀ b off, fa = some ⟨b, off, none⟩ → F ≠ [] → T0 b = 0) (hka : BlkAt (· ≠ 0) T0 w4 K 3 (pushes r st0 cs).b (pushes r st0 cs).p)
    (hrb : Rb w4 T0 t B Pb Bx K (.slice ap ps.length cp) (.slice fa F.length fc) (mtF (es ++ cs)) g T1 W1) (hge : lastE ⟨#[]⟩ cs = g) (ho6 : OwnK kP (t + 1) T6 w6 (.slice a6 (ps.length + 1) c6) (ps ++ [(g, K)])) (hg6 : Goes (· = t + 1) T1 W1 T6 w6) (hD : w.heap.size ≤ D) (hDd : W1.heap[D]? = some (.deferred (some [])))
    (hb : Below w.heap.size (w6.setCell ⟨B, 0, none⟩ (.slice a6 (ps.length + 1) c6)) w') (hk : ∀ b, b ∉ [D] → w'.heap[b]? = (w6.setCell ⟨B, 0, none⟩ (.slice a6 (ps.length + 1) c6)).heap[b]?) : RkIs t T w B ps F es cs r (.returned (.tuple #[])) w' := by
  have ht := H.t0
  have lB := (Array.getElem?_eq_some_iff.1 hrb.tb).1
  have lD := (Array.getElem?_eq_some_iff.1 hDd).1
  have hTB6 : T6 B = t := (hg6.tag B lB (by rw [hrb.tB]; omega)).trans hrb.tB
  have hTD : T1 D = 0 := hrb.nc D _ hDd rfl
  have hB6 : w6.heap[B]? = some (.cells (tcs (.slice ap ps.length cp) (.slice fa F.length fc) (mtF (es ++ cs))) 63) := (hg6.block B lB (by rw [hrb.tB]; omega)).trans hrb.tb
  have hD6 : w6.heap[D]? = some (.deferred (some [])) := (hg6.block D lD (by rw [hTD]; omega)).trans hDd
  have hBD : B ≠ D := fun e => by rw [e, hD6] at hB6; cases hB6
  have gS : Goes (· = t) T6 w6 T6 (w6.setCell ⟨B, 0, none⟩ (.slice a6 (ps.length + 1) c6)) := Goes.setCell hTB6
  have hB9 : (w6.setCell ⟨B, 0, none⟩ (.slice a6 (ps.length + 1) c6)).heap[B]? = some (.cells (tcs (.slice a6 (ps.length + 1) c6) (.slice fa F.length fc) (mtF (es ++ cs))) 63) := obj_set hB6
  have hD9 : (w6.setCell ⟨B, 0, none⟩ (.slice a6 (ps.length + 1) c6)).heap[D]? = some (.deferred (some [])) := (Below.heap_setCell _ _ _ _ (fun e => hBD e.symm)).trans hD6
  have ho9 : OwnK kP (t + 1) T6 (w6.setCell ⟨B, 0, none⟩ (.slice a6 (ps.length + 1) c6)) (.slice a6 (ps.length + 1) c6) (ps ++ [(g, K)]) := ho6.goes gS (by omega)
  generalize (w6.setCell ⟨B, 0, none⟩ (.slice a6 (ps.length + 1) c6)) = W9 at *
  have gA : Goes (fun x => x = t ∨ x = t + 1 ∨ x = 5) T0 w4 T6 W9 := ((hrb.go.mono (fun x hx => by rcases hx with h | h <;> simp [h])).trans (hg6.mono (fun x hx => by simp [hx]))).trans (gS.mono (fun x hx => by simp [hx]))
  have keep : ∀ (b : Nat) (ob : Obj), W9.heap[b]? = some ob → ob.isCells = true → w'.heap[b]? = some ob := fun b ob h1 h2 => (hk b (by
    intro hm
    rw [List.mem_singleton.1 hm] at h1
    rw [hD9] at h1; cases h1; cases h2)).trans h1
  obtain ⟨Tn, hTn⟩ : ∃ Tn : Nat → Nat, Tn = fun b => if T6 b = 5 then 0 else T6 b := ⟨_, rfl⟩
  have tn : ∀ b, T6 b ≠ 5 → Tn b = T6 b := fun b h => by rw [hTn]; simp [h]
  have tn5 : ∀ b, Tn b ≠ 5 := fun b => by
    rw [hTn]
    by_cases h : T6 b = 5
    · simp [h]
    · simp [h]
  have tn0 : ∀ b, T6 b = 0 → Tn b = 0 := fun b h => (tn b (by omega)).trans h
  have rt0 : ∀ b, Tn b = 0 → rt Tn w' b = 0 := fun b h => by
    unfold rt
    split
    · rfl
    · exact h
  have hs9 : W9.heap.size ≤ w'.heap.size := hb.size
  have hgA : ∀ b, b < w.heap.size → T b ≠ t → T b ≠ t + 1 → w'.heap[b]? = w.heap[b]? ∧ T6 b = T b := fun b h1 h2 h3 => by
    have h5 := H.t5 b
    have e0 : T0 b = T b := g4.tag b h1 (fun z => z)
    have q : ¬ (T0 b = t ∨ T0 b = t + 1 ∨ T0 b = 5) := by rw [e0]; omega
    have lb := Nat.lt_of_lt_of_le h1 g4.size
    refine ⟨(hb.block b h1).trans ((gA.block b lb q).trans (g4.block b h1 (fun z => z))), (gA.tag b lb q).trans e0⟩
  have hiA : ∀ b, w'.heap.size ≤ b → T6 b = 0 := fun b hb' => gA.high b (by omega) (g4.high b (by have := gA.size; omega) (H.hi b (by have := gA.size; have := g4.size; omega)))
  refine ⟨rfl, rt Tn w', K, ⟨⟨.slice a6 (ps.length + 1) c6, fa, fc, keep B _ hB9 rfl, ?_, ?_, ?_⟩, ?_⟩, ?_, ⟨?_, ?_, ?_, ?_, ?_, ?_, ?_⟩, nc_rt _ _, fun b hb' => rt0 b (tn0 b (hiA b hb')), fun b => ?_⟩
  · rw [hge]
    exact ownK_keep ho9 (fun g' cs' ty h1 h2 => ⟨keep g' _ h1 rfl, (rt_cells (keep g' _ h1 rfl) rfl).trans ((tn g' (by omega)).trans h2)⟩)
  · have h1 := (isB_goes hF4.1 gA (fun b off e hne => by rw [hF4.2 b off e hne]; omega)).1
    refine ⟨fun hne => ?_, h1.2⟩
    obtain ⟨b, off, e, hr⟩ := h1.1 hne
    obtain ⟨y, hy⟩ : ∃ y, F[0]? = some y := by
      cases hF : F with
      | nil => exact absurd hF hne
      | cons y l => exact ⟨y, rfl⟩
    obtain ⟨ob, ho, hoc⟩ := cells_of (hr.2 0 y hy)
    exact ⟨b, off, e, hr.keep ((keep b ob ho hoc).trans ho.symm) hs9⟩
  · intro b off e hne
    have h0 := hF4.2 b off e hne
    obtain ⟨b', off', e', hr⟩ := hF4.1.1 hne
    rw [e] at e'; cases e'
    exact rt0 b (tn0 b ((gA.tag b hr.1 (by rw [h0]; omega)).trans h0))
  · exact (rt_cells (keep B _ hB9 rfl) rfl).trans ((tn B (by omega)).trans hTB6)
  · refine blkAt_keep (T := T6) (w := W9) ?_ hs9 (fun g' ob h1 h2 h3 => ⟨keep g' ob h1 h2, rt0 g' (tn0 g' h3)⟩)
    exact hka.goes (gA.mono (fun x hx => by show x ≠ 0; omega))
  · exact hb.os.trans (gA.os.trans g4.os)
  · exact hb.tape.trans (gA.tape.trans g4.tape)
  · exact hb.output.trans (gA.output.trans g4.output)
  · have := gA.size; have := g4.size; omega
  · exact fun b h1 h2 => (hgA b h1 (fun e => h2 (.inl e)) (fun e => h2 (.inr e))).1
  · intro b h1 h2
    obtain ⟨q1, q2⟩ := hgA b h1 (fun e => h2 (.inl e)) (fun e => h2 (.inr e))
    unfold rt
    split
    · rename_i hx
      obtain ⟨ob, ho, hoc⟩ := hx
      rw [q1] at ho
      exact (H.nc b ob ho hoc).symm
    · exact (tn b (by rw [q2]; exact H.t5 b)).trans q2
  · exact fun b h1 _ => rt0 b (tn0 b (hiA b h1))
  · unfold rt
    split
    · omega
    · exact tn5 b
set_option maxHeartbeats 4000000 in
theorem readBlock_in (t : Nat) (T : Nat → Nat) (w : World) (B : Nat) (ps : List (ByteArray × Nat)) (F : List Nat) (es cs : List En) (r : Nat) (a : Option Addr) (n cap : Nat) (l : List Nat) (H : RkIn t T w B ps F es cs r a n cap l) :
    CallsIn Fence.wide 20 Tryd.prog 69 #[.pointer (some ⟨B, 0, none⟩), .slice a n cap] w fun e w' => RkIs t T w B ps F es cs r e w' := by
  have HH := Qb.hid H
  obtain ⟨pv, fa, fc, hob, hpv, hfi, hft⟩ := H.tb.ob
  have HOB : Hid (∀ W, Below w.heap.size w W → Calls Tryd.prog 47 #[.slice a n cap] W fun e w' => ∃ M, e = .returned (.pointer (some ⟨M, 3, none⟩)) ∧ BlkF W.heap.size w' M 3 (pushes r st0 cs).b (pushes r st0 cs).p ∧ Below W.heap.size W w') := fun W hW => openBlock_ok a cap n l (r, cs) W (H.tab.below hW H.tab.lt) (H.ib.below hW) H.hn H.hcap.1 H.hcap.2 H.l4 H.a0 H.op
  have HFI := Qb.hid (And.intro hfi hft)
  have HPV := Qb.hid hpv
  have HOJ := Qb.hid hob
  clear H hob hpv hfi hft
  have hfA : Fence.wide.fn 50 := trivial
  have hfM : Fence.wide.fn 29 := trivial
  have hfD : Fence.wide.fn 48 := trivial
  have hfC : Fence.wide.fn 35 := trivial
  have hfO : Fence.wide.fn 47 := trivial
  have hfn : ∀ (x : Nat) (w : World), (binOp .eql 65 (.func (.func 71) #[] #[.pointer (some ⟨x, 0, none⟩)]) .nilFunc).run Tryd.prog w = .ok (.bool false) w := fun x w => fun_nil _ _ _
  refine callsIn_of_wp_marks Tryd.func69 rfl trivial ?_ rfl
  simp only [Tryd.ntmps69, List.size_toArray, List.length_cons, List.length_nil, Nat.reduceAdd, Nat.reduceSub, Array.replicate_succ, Array.replicate_zero, List.push_toArray, List.append_toArray, List.nil_append, List.cons_append]
  gi_wp2_with (first
    | (gi_at_call 47; go_loud (refine (callsIn_wide.2 (HOB.out _ ((Below.refl _ _).alloc (Nat.le_refl _) _))).mono ?_; rintro e w2 ⟨K, rfl, hk2, hb2⟩))
    | (gi_at_call 50; go_loud (refine (callsIn_wide.2 (all_any _ K 3)).mono ?_; rintro e w4 ⟨rfl, hb4, hs4, c4⟩)))
  -- what lies now
  have hs1 : (w.alloc (.cells #[.pointer (some ⟨B, 0, none⟩)] 34)).heap.size = w.heap.size + 1 := by simp
  have hs3 : (w2.alloc (.cells #[.string ⟨#[]⟩, .pointer (some ⟨K, 3, none⟩)] 71)).heap.size = w2.heap.size + 1 := by simp
  have o1 := World.alloc_heap_new w (.cells #[.pointer (some ⟨B, 0, none⟩)] 34)
  have o3 := World.alloc_heap_new w2 (.cells #[.string ⟨#[]⟩, .pointer (some ⟨K, 3, none⟩)] 71)
  have b1 : Below w.heap.size w (w.alloc (.cells #[.pointer (some ⟨B, 0, none⟩)] 34)) := (Below.refl _ _).alloc (Nat.le_refl _) _
  have b3 : Below w2.heap.size w2 (w2.alloc (.cells #[.string ⟨#[]⟩, .pointer (some ⟨K, 3, none⟩)] 71)) := (Below.refl _ _).alloc (Nat.le_refl _) _
  generalize (w.alloc (.cells #[.pointer (some ⟨B, 0, none⟩)] 34)) = w1 at *
  generalize (w2.alloc (.cells #[.string ⟨#[]⟩, .pointer (some ⟨K, 3, none⟩)] 71)) = w3 at *
  have hb24 : Below w2.heap.size w2 w4 := bl_step b3 hb4
  have hb14 : Below w1.heap.size w1 w4 := bl_step hb2 hb24
  have hb04 : Below w.heap.size w w4 := bl_step b1 hb14
  have hs12 := hb2.size
  have hut0 : ¬ ut t 0 := by have := HH.out.t0; unfold ut; omega
  have oX4 : w4.heap[w.heap.size]? = some (.cells #[.pointer (some ⟨B, 0, none⟩)] 34) := (hb14.block _ (by omega)).trans o1
  have oP4 : w4.heap[w2.heap.size]? = some (.cells #[.string ⟨#[]⟩, .pointer (some ⟨K, 3, none⟩)] 71) := (hb4.block _ (by omega)).trans o3
  have lB := (Array.getElem?_eq_some_iff.1 HOJ.out).1
  have oB4 : w4.heap[B]? = some (.cells (tcs pv (.slice fa F.length fc) (mtF es)) 63) := (hb04.block _ lB).trans HOJ.out
  have hs4' : w4.heap.size = w2.heap.size + 2 := by rw [hs4, hs3]
  rw [hs3] at c4
  have hT0hi : ∀ b, w4.heap.size ≤ b → upd T w2.heap.size 5 b = 0 := fun b hb => by rw [upd_other _ _ (by omega)]; exact HH.out.hi b (by omega)
  have hgo4 : Goes (fun _ => False) T w (upd T w2.heap.size 5) w4 := ⟨hb04.os, hb04.tape, hb04.output, hb04.size, fun b hb _ => hb04.block b hb, fun b hb _ => upd_other _ _ (by omega), fun b hb h0 => (upd_other _ _ (by omega)).trans h0⟩
  have HF4 : Hid (IsB w4 fa F ∧ ∀ b off, fa = some ⟨b, off, none⟩ → F ≠ [] → upd T w2.heap.size 5 b = 0) := by
    apply Qb.hid
    refine ⟨HFI.out.1.below hb04, fun b off e hne => ?_⟩
    obtain ⟨b', off', e', hr'⟩ := HFI.out.1.1 hne
    rw [e] at e'; cases e'
    have := hr'.1
    rw [upd_other _ _ (by omega)]
    exact HFI.out.2 b off e hne
  have HPV4 : Hid (OwnK kP (t + 1) (upd T w2.heap.size 5) w4 pv ps) := Qb.hid (HPV.out.goes hgo4 (fun z => z))
  have HT4 : Hid (Tab w4 ∧ upd T w2.heap.size 5 0 = 0) := by
    have := HH.out.tab.lt
    exact Qb.hid ⟨HH.out.tab.below hb04 HH.out.tab.lt, by rw [upd_other _ _ (by omega)]; exact HH.out.t00⟩
  have HG4 := Qb.hid hgo4
  have HR0 : Hid (Rb w4 (upd T w2.heap.size 5) t B w2.heap.size w.heap.size K pv (.slice fa F.length fc) (mtF es) ⟨#[]⟩ (upd T w2.heap.size 5) w4) := by
    apply Qb.hid
    refine ⟨oB4, oP4, oX4, Goes.refl _ _ _, ?_, upd_same _ _ _, ?_, hT0hi, fun b o hbo ho => ?_⟩
    · rw [upd_other _ _ (by omega)]; exact HH.out.tb.tB
    · rw [upd_other _ _ (by omega)]; exact HH.out.hi _ (Nat.le_refl _)
    · by_cases hP : b = w2.heap.size
      · subst hP; rw [oP4] at hbo; cases hbo; cases ho
      · rw [upd_other _ _ hP]
        exact HH.out.nc.below HH.out.hi hb04 b o hbo ho
  have HKA : Hid (BlkAt (· ≠ 0) (upd T w2.heap.size 5) w4 K 3 (pushes r st0 cs).b (pushes r st0 cs).p) := by
    apply Qb.hid
    have h2 : BlkAt (· ≠ 0) (upd T w2.heap.size 5) w2 K 3 (pushes r st0 cs).b (pushes r st0 cs).p := BlkAt.fresh hk2 (fun b h1 h2 z => z (by rw [upd_other _ _ (by omega)]; exact HH.out.hi b (by omega)))
    exact h2.below hb24
  have HSQ : Hid (SeqE (ut t) Fence.wide 19 16 Tryd.prog 71 #[.pointer (some ⟨w2.heap.size + 1, 0, none⟩)] encE cs w4 (upd T w2.heap.size 5)) := by
    have h := all_seq (ut t) hut0 19 (by decide) (upd T w2.heap.size 5) (w2.heap.size + 1) K 3 (pushes r st0 cs).b (pushes r st0 cs).p w4 (BlkAt.mono HKA.out (fun x hx => by have := HH.out.t0; unfold ut at hx; show x ≠ 0; omega)) hT0hi c4
    rw [wkp_is HH.out.ok] at h
    exact Qb.hid h
  have HW4 := Qb.hid (And.intro hb04 (And.intro hs4' hs12))
  clear hb2 hb4 hs4 c4 hk2 o1 o3 b1 b3 hb24 hb14 oX4 oP4 oB4 lB hb04 HOB hgo4
  refine range_eB rfl (by decide) (gf := 71) (lb := #[.pointer (some ⟨w2.heap.size + 1, 0, none⟩)]) rfl trivial (enters_of Tryd.func71 (by kernel_rfl) rfl)
    (ut t) hut0 (upd T w2.heap.size 5) hT0hi HSQ.out (fun _ => rfl)
    (fun es' T' W => Rb w4 (upd T w2.heap.size 5) t B w2.heap.size w.heap.size K pv (.slice fa F.length fc) (mtF (es ++ es')) (lastE ⟨#[]⟩ es') T' W) (fun c es' T' W => False)
    (Rb.lasts (fun es' => mtF (es ++ es')) (fun es' => lastE ⟨#[]⟩ es') (Nat.le_refl _)) (fun c es' T' A C row h hg hr => h.elim) (by rw [List.append_nil]; exact HR0.out)
    5 (fun e => #[.string e.1, .int .u64 e.2.1, .bool e.2.2.1, .string e.2.2.2]) 43 ?assign ?body ?done ?stop
  case assign =>
    rintro l_ ⟨ek, es_, ed, ev⟩ es' T' Wc Kc hi hK
    simp only [encE]
    gi_wp2
    exact ⟨rfl, by simp only [encE, List.zip_toArray, List.zip_cons_cons, List.zip_nil_right, List.foldl_toArray, List.foldl_cons, List.foldl_nil, List.setIfInBounds_toArray, List.set_cons_succ, List.set_cons_zero]⟩
  case body =>
    rintro l_ ⟨ek, es_, ed, ev⟩ es' T' a' Wc W' Wb hl1 hl2 ⟨ob, ho, hoc⟩ _ hrb hz hN9 ⟨rfl, rfl⟩ hg _
    simp only [encE] at *
    have e0 : Wb.heap[Wc.heap.size]? = some (.cells #[.string ek, .int .u64 es_, .bool ed, .string ev] 43) := (hg.block _ (by simp) (fun e => by cases e; omega)).trans (World.alloc_heap_new _ _)
    have hmem : (ek, es_, ed, ev) ∈ cs := hN9.subset (by simp)
    have HRB := Qb.hid hrb
    have hlt := chain_next HH.out.ch hN9
    have hmm : mtF (es ++ (es' ++ [(ek, es_, ed, ev)])) = (mtF (es ++ es')).more (ek, es_, ed, ev) := by rw [← List.append_assoc, mtF_snoc]
    have hmn : (mtF (es ++ es')).n ≤ 1000000 := by
      rw [mtF_n, List.length_append]
      have h1 := hN9.length_le
      rw [List.length_append] at h1
      have h2 := HH.out.len
      omega
    obtain ⟨mm, hmmE⟩ : ∃ m, mtF (es ++ es') = m := ⟨_, rfl⟩
    obtain ⟨m2, hm2E⟩ : ∃ m, mm.more (ek, es_, ed, ev) = m := ⟨_, rfl⟩
    rw [hmmE] at hrb hlt hmm hmn
    rw [hm2E] at hmm
    have hl1 : Op.bytesLess ek.toList mm.hi.toList = false := KMath.bl_asymm _ _ hlt
    have hl2 : (ek.toList == mm.hi.toList) = false := by
      cases hc : (ek.toList == mm.hi.toList) with
      | false => rfl
      | true =>
        have hlt2 : Op.bytesLess mm.hi.toList ek.toList = true := hlt
        rw [beq_iff_eq.1 hc, KMath.bl_irrefl] at hlt2; cases hlt2
    have hq : (Op.bytesLess ek.toList mm.hi.toList || ek.toList == mm.hi.toList) = false := by rw [hl1, hl2]; rfl
    have HRC : Hid (Rc B w.heap.size pv (.slice fa F.length fc) mm Wc.heap.size ek es_ ed ev w2.heap.size K (lastE ⟨#[]⟩ es') Wb) := Qb.hid ⟨hrb.tb, hrb.bx, e0, hrb.pb⟩
    have HMY : Hid (∀ W, Below Wb.heap.size Wb W → Calls Tryd.prog 29 #[.slice fa F.length fc, .string ek] W fun e w' => e = .returned (.bool true) ∧ Below W.heap.size W w') := by
      apply Qb.hid
      intro W hW
      have h1 := (isB_goes HF4.out.1 hrb.go (fun b off e hne => by rw [HF4.out.2 b off e hne]; exact hut0)).1
      have hT : Tab Wb := HT4.out.1.keep (hrb.go.block 0 HT4.out.1.lt (by rw [HT4.out.2]; exact hut0)) hrb.go.size
      have h2 := Blo.may_any fa fc F.length F ek W (h1.below hW) (hT.below hW hT.lt) (by have := HH.out.hF; omega) (by have := (HH.out.ok _ hmem).1.k2; show ek.size ≤ _; have h9 : ek.size ≤ 64 := this; omega) rfl
      rw [HH.out.may _ hmem] at h2
      exact h2
    have HCN : Hid (∀ W, Calls Tryd.prog 35 #[.agg #[.int .u64 0, .int .i64 mm.wt, .int .i64 mm.by_, .int .i64 (mm.n : Int), .string mm.lo, .string mm.hi], .agg #[.string ek, .int .u64 es_, .bool ed, .string ev]] W fun e w' => e = .returned (.agg #[.int .u64 0, .int .i64 m2.wt, .int .i64 m2.by_, .int .i64 (m2.n : Int), .string m2.lo, .string m2.hi]) ∧ Below W.heap.size W w') := by
      apply Qb.hid
      intro W
      have h := counted_any mm ek es_ ed ev W (by omega)
      rw [hm2E] at h
      exact h
    obtain ⟨⟨x0, x1, x2, x3, x4, x5, x6, x7⟩, ⟨c0, c1, c2, c3⟩, p0, pf, f2, f3, f4, f5, f6, f7⟩ := HRC.out.all
    have HMM := Qb.hid hmm
    have HT0 : Hid (t ≠ 0) := Qb.hid (by have := HH.out.t0; omega)
    have n1 : ¬ B = Wc.heap.size := fun e => by have h1 := HRC.out.tb; rw [e, HRC.out.ev] at h1; simp at h1
    have n2 : ¬ B = w2.heap.size := fun e => by have h1 := HRC.out.tb; rw [e, HRC.out.pb] at h1; simp at h1
    have n3 : ¬ Wc.heap.size = B := fun e => n1 e.symm
    have n4 : ¬ w2.heap.size = B := fun e => n2 e.symm
    have HX := Qb.hid hut0
    clear hlt hl1 hl2 hrb hmm hmn hm2E e0 hg ho hoc hN9 hmem hz hut0 hT0hi HR0 HKA HSQ HFI HPV HOJ HF4 HPV4 HT4 HG4 p0 pf f2 f3 f4 f5 f6 f7
    simp only [List.zip_toArray, List.zip_cons_cons, List.zip_nil_right, List.foldl_toArray, List.foldl_cons, List.foldl_nil, List.setIfInBounds_toArray, List.set_cons_succ, List.set_cons_zero]
    gi_wp2_with (fail)
    have hne9 := Rnd.Und.non Wb
    have U0 := Rnd.Und.cell x0
    have U1 := Rnd.Und.cell x1
    have U7 := Rnd.Und.cell x7
    have V0 := Rnd.Und.cell c0
    refine Rnd.wpIn_region_und l_ (by kernel_rfl) (by kernel_rfl) (by kernel_rfl) ?_
    repeat (gi_big_quiet_step ((first
      | (gi_at_call 29; exact Rnd.Und.call (callsIn_wide.2 (HMY.out _ (Rnd.Und.ok _))))
      | (gi_at_call 48; exact Rnd.Und.call (callsIn_wide.2 ((demand_ok _).mono fun e w' h => ⟨h.1, by rw [h.2]; exact Below.refl _ _⟩))))))
    refine wpQuietIn_nil ?_
    intro W2 hb2
    have HB2 := Qb.hid hb2
    clear hb2 U0 U1 U7 V0 hne9 x0 x1 x2 x3 x4 x5 x6 x7 c0 c1 c2 c3 hq
    obtain ⟨⟨y0, y1, y2, y3, y4, y5, y6, y7⟩, ⟨d0, d1, d2, d3⟩, r0, rf, g2, g3, g4, g5, g6, g7⟩ := (HRC.out.below HB2.out).all
    gi_wp2_with (fail)
    gi_region_with (gi_at_call 35; go_loud (refine (CallsIn.inRound l_ (callsIn_wide.2 (HCN.out _))).mono ?_; rintro e W4 ⟨rfl, hb4'⟩; have HB4 : Hid (Below Wb.heap.size Wb W4) := Qb.hid (bl_step HB2.out (by first | exact hb4' | exact ((Below.refl _ _).drew).trans hb4')); clear hb4' y0 y1 y2 y3 y4 y5 y6 y7 d0 d1 d2 d3 r0 rf g2 g3 g4 g5 g6 g7; obtain ⟨⟨y0, y1, y2, y3, y4, y5, y6, y7⟩, ⟨d0, d1, d2, d3⟩, r0, rf, g2, g3, g4, g5, g6, g7⟩ := (HRC.out.below HB4.out).all))
    all_goals (
      gi_wp2
      have HF := rb_next (N := w4.heap.size) (m' := m2) (g' := ek) HT0.out HRB.out HB4.out
      obtain ⟨T9, k1, k2, k3, k4⟩ := HF
      exact ⟨T9, by dsimp only; rw [HMM.out, lastE_snoc]; exact k1, k2, k3, k4⟩)
  case stop => intro D c es' T' W hD hp hx; exact hx.elim
  case done =>
    intro D T1 W1 hD hrb hDd
    obtain ⟨ap, cp, hpvE, _, _, hapn, _⟩ := HPV4.out.form
    have hpl : ps.length ≤ 1000000 := HH.out.pl
    subst hpvE
    have HRB := Qb.hid hrb
    obtain ⟨i0, hi0, hz0, hz1, hz2⟩ := info_parts infoP
    obtain ⟨g, hgE⟩ : ∃ g, lastE ⟨#[]⟩ cs = g := ⟨_, rfl⟩
    have HGE := Qb.hid hgE
    have hgn : ¬ g.toList = [] := by
      obtain ⟨e, he, hl⟩ := lastE_mem HH.out.ne ⟨#[]⟩
      have hk := (HH.out.ok e he).1.k1
      rw [← hgE, hl]
      intro hz
      rw [ByteArray.toList_eq] at hz
      rw [ByteArray.size, ← Array.length_toList, hz] at hk
      simp at hk
    have hge : g.toList.isEmpty = false := by
      cases h : g.toList with
      | nil => exact absurd h hgn
      | cons x xs => rfl
    have p0 : W1.cell? ⟨w2.heap.size, 0, none⟩ = some (.string g) := by rw [← hgE]; exact cell_of hrb.pb 0
    have p1 : W1.cell? ⟨w2.heap.size, 1, none⟩ = some (.pointer (some ⟨K, 3, none⟩)) := cell_of hrb.pb 1
    have x0 : W1.cell? ⟨w.heap.size, 0, none⟩ = some (.pointer (some ⟨B, 0, none⟩)) := cell_of hrb.bx 0
    have t0 : W1.cell? ⟨B, 0, none⟩ = some (.slice ap ps.length cp) := cell_of hrb.tb 0
    have lB1 : B < W1.heap.size := (Array.getElem?_eq_some_iff.1 hrb.tb).1
    have lX1 : w.heap.size < W1.heap.size := (Array.getElem?_eq_some_iff.1 hrb.bx).1
    have lP1 : w2.heap.size < W1.heap.size := (Array.getElem?_eq_some_iff.1 hrb.pb).1
    have hTB : T1 B = t := hrb.tB
    have HOW : Hid (OwnK kP (t + 1) T1 W1 (.slice ap ps.length cp) ps) := Qb.hid (HPV4.out.goes hrb.go (by have := HH.out.t0; unfold ut; omega))
    have HFZ := Qb.hid (froz_of hrb.tb 0)
    have hB5 : ¬ T1 B = t + 1 := by rw [hTB]; omega
    have hX5 : ¬ T1 w.heap.size = t + 1 := by rw [hrb.tX]; omega
    have HD := Qb.hid (And.intro hD hDd)
    clear hrb hD hDd hgE HSQ HR0
    dsimp only
    gi_wp2_with (gi_at_call 48; go_loud (refine (callsIn_wide.2 (demand_ok _)).mono ?_; rintro e W3 ⟨rfl, hw⟩; have hw2 := hw.symm; clear hw; subst hw2))
    refine wpIn_wide.2 ?_
    refine Code.wp_mono (Q := Exit.then (fun a9 W9 => a9.defers = [{ target := .collected D, args := #[] }] ∧ Hid (∃ T6 w6 a6 c6, W9 = w6.setCell ⟨B, 0, none⟩ (.slice a6 (ps.length + 1) c6) ∧ OwnK kP (t + 1) T6 w6 (.slice a6 (ps.length + 1) c6) (ps ++ [(g, K)]) ∧ Goes (· = t + 1) T1 W1 T6 w6)) (fun _ _ _ => False)) ?mono ?reg
    case reg =>
      go_region_law ((refine step_appK kP _ (by rfl) (.tmp 51) (.tmp 53) 61 (by rfl) i0 Tryd.underlying61 hi0 hz0 hz1 hz2 (t + 1) T1 (.slice ap ps.length cp) ps (by simp [Act.eval, Act.put]) (HOW.out.below (((Below.refl _ _).drew).alloc (by simp) _)) (some ⟨W1.heap.size, 0, none⟩) 1 1 [(g, K)] (by simp [Act.eval, Act.put]) rfl (by simp) (isP_new rfl) (by simp; omega) ?_; intro a6 c6 T6 w6 ho6 hg6; have y0 : w6.cell? ⟨B, 0, none⟩ = some (.slice ap ps.length cp) := (((Goes.below (t := (· = t + 1)) (((Below.refl _ _).drew).alloc (by simp) _)).trans hg6).cell lB1 hB5).trans t0; have z0 : w6.frozen? ⟨B, 0, none⟩ = false := (World.frozen?_of_block (a := ⟨B, 0, none⟩) (((Goes.below (t := (· = t + 1)) (((Below.refl _ _).drew).alloc (by simp) _)).trans hg6).block B lB1 hB5)).trans HFZ.out; have yX : w6.cell? ⟨w.heap.size, 0, none⟩ = some (.pointer (some ⟨B, 0, none⟩)) := (((Goes.below (t := (· = t + 1)) (((Below.refl _ _).drew).alloc (by simp) _)).trans hg6).cell lX1 hX5).trans x0; have HG6 : Hid (Goes (· = t + 1) T1 W1 T6 w6) := Qb.hid ((Goes.below (((Below.refl _ _).drew).alloc (by simp) _)).trans hg6); have HO6 := Qb.hid ho6; clear ho6 hg6))
      all_goals (
        exact ⟨rfl, Qb.hid ⟨T6, w6, a6, c6, rfl, HO6.out, HG6.out⟩⟩)
    case mono =>
      intro e a9 W9 q
      cases e with
      | normal =>
        obtain ⟨hd9, HF⟩ := q
        obtain ⟨T6, w6, a6, c6, rfl, ho6, hg6⟩ := HF.out
        show LeavesInM Fence.wide 20 Tryd.prog Tryd.f69 a9.tmps (fun e w' => RkIs t T w B ps F es cs r e w') a9.defers .returning _
        rw [hd9]
        have hBD : D ≠ B := fun e => by
          have h1 := HRB.out.tb
          rw [← e, HD.out.2] at h1; cases h1
        have hTD : T1 D = 0 := HRB.out.nc D _ HD.out.2 rfl
        have hDw : w.heap.size ≤ D := by have := HD.out.1; have := HW4.out.1.size; omega
        refine leaves_marks (B0 := w.heap.size) [D] _ (fun E hE => ?_) (by simp) (fun w' hb hk => ?_)
        · rw [List.mem_singleton.1 hE]
          exact ⟨hDw, (Below.heap_setCell _ _ _ _ hBD).trans ((hg6.block D (Array.getElem?_eq_some_iff.1 HD.out.2).1 (by rw [hTD]; omega)).trans HD.out.2)⟩
        · refine ⟨.tuple #[], ?_, rk_fin HH.out HG4.out HF4.out HKA.out (by rw [← HGE.out]; exact HRB.out) HGE.out ho6 hg6 hDw HD.out.2 hb hk⟩
          simp [results, Tryd.results69, go_sem]
      | exit i => exact q.elim
      | goto i => exact q.elim
      | ret => exact q.elim
      | panic c => exact q.elim
      | outgrown => exact q.elim
theorem readBlock_any (t : Nat) (T : Nat → Nat) (w : World) (B : Nat) (ps : List (ByteArray × Nat)) (F : List Nat) (es cs : List En) (r : Nat) (a : Option Addr) (n cap : Nat) (l : List Nat) (H : RkIn t T w B ps F es cs r a n cap l) :
    Calls Tryd.prog 69 #[.pointer (some ⟨B, 0, none⟩), .slice a n cap] w fun e w' => RkIs t T w B ps F es cs r e w' := callsIn_wide.1 (readBlock_in t T w B ps F es cs r a n cap l H)

end Tbl
end Go.Proofs.YtnhhalabmmcemaaDoor
