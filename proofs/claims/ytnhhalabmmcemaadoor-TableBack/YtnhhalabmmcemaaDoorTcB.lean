import Derived.Test.YtnhhalabmmcemaaDoorTcA
namespace Go.Proofs.YtnhhalabmmcemaaDoor
namespace Tbl
open Go.RowKit Go.Shelf CMath Byt Laws Irw Crw Cod Qb Qe
set_option linter.unusedVariables false
set_option linter.unusedSimpArgs false
set_option maxRecDepth 100000
attribute [local go_sem] Oper.semAt_some

set_option maxHeartbeats 4000000 in
theorem fromc_in (u : Nat → Prop) (hu0 : ¬ u 0) (hu1 : ¬ u 20) (hu2 : ¬ u 21) (n : Nat) (hn : 6 ≤ n) (T0 : Nat → Nat) (l Bt Bq B : Nat) (key : ByteArray) (ps : List (ByteArray × Nat)) (F : List Nat) (m : Mt) (R : Nat) (css : List (List En)) (W : World)
    (htb : TbO 20 T0 W B ps F m) (hps : PsAt R T0 W ps css) (hch : chain ⟨#[]⟩ css.flatten) (hnn : ∀ e ∈ css.flatten, 0 ≤ e.2.1) (hne : ∀ cs ∈ css, cs ≠ []) (hce : css ≠ []) (hlen : css.flatten.length ≤ 100000) (hcl : css.length ≤ 100000)
    (hz0 : ∀ b, W.heap.size ≤ b → T0 b = 0)
    (hBt : W.heap[Bt]? = some (.cells #[.pointer (some ⟨B, 0, none⟩)] 34)) (hBq : W.heap[Bq]? = some (.cells #[.string key] 9)) (tBt : T0 Bt = 0) (tBq : T0 Bq = 0)
    (J Jx : List En → (Nat → Nat) → World → Prop) (hJ : Lasts W.heap.size J) (hJx : Lasts W.heap.size Jx) (h0 : J [] T0 W)
    (hY : ∀ (es : List En) (e : En) T W1, J es T W1 → (∀ b, W1.heap.size ≤ b → T b = 0) → es ++ [e] <+: frE css key → YieldAt Fence.wide (n - 1 - 1 - 1 - 1 - 1) Tryd.prog l (encE e) W1 fun r W2 => ∃ b, r = .returned (.bool b) ∧ Gives u W.heap.size J Jx (es ++ [e]) T W1 b W2) :
    CallsIn Fence.wide n Tryd.prog 49 #[.func (.yield l) #[] #[], .pointer (some ⟨Bt, 0, none⟩), .pointer (some ⟨Bq, 0, none⟩)] W fun e W' => (∃ v, e = .returned v) ∧ ((∃ T', J (frE css key) T' W') ∨ ∃ es T', es <+: frE css key ∧ Jx es T' W') := by
  have HTB := Qb.hid (And.intro htb hps)
  have HC := Qb.hid (And.intro hch (And.intro hnn (And.intro hne (And.intro hlen hcl))))
  have HZ := Qb.hid hz0
  have HBX := Qb.hid (And.intro (And.intro hBt hBq) (And.intro tBt tBq))
  have HY := Qb.hid hY
  have HJ := Qb.hid (And.intro hJ hJx)
  have H0 := Qb.hid h0
  have HU := Qb.hid (And.intro hu0 (And.intro hu1 hu2))
  obtain ⟨pv, fa, fc, ob, hpv, hf, _⟩ := htb.ob
  obtain ⟨ap0, cp, rfl, hk, hcap, _, htp0⟩ := hpv.form
  have hpl := PsAt.len _ _ hps
  have hp0 : 0 < ps.length := by have := List.length_pos_iff.2 hce; omega
  obtain ⟨pb, po, rfl, hkr⟩ := hk.at_ hp0
  have htp := (htp0 pb po rfl).1
  obtain ⟨cc, cty, hcc⟩ : ∃ cc cty, W.heap[pb]? = some (.cells cc cty) := by
    rcases hpv.1.2 with ⟨h1, _⟩ | ⟨g, cap, cur, hv, hb, hh, hc, hr⟩
    · cases h1
    · cases hv; exact ⟨_, _, hh⟩
  obtain ⟨ap, hap⟩ : ∃ ap : Option Addr, ap = some ⟨pb, po, none⟩ := ⟨_, rfl⟩
  rw [← hap] at ob hk
  obtain ⟨W1, hW1⟩ : ∃ W1, W.alloc (.cells #[.func (.yield l) #[] #[]] 94) = W1 := ⟨_, rfl⟩
  have hb1 : Below W.heap.size W W1 := by rw [← hW1]; exact (Below.refl _ _).alloc (Nat.le_refl _) _
  have g1 : W1.heap[W.heap.size]? = some (.cells #[.func (.yield l) #[] #[]] 94) := by rw [← hW1]; exact World.alloc_heap_new _ _
  have s1 : W1.heap.size = W.heap.size + 1 := by rw [← hW1]; simp
  have lB := (Array.getElem?_eq_some_iff.1 ob).1
  have X0 := Und.cell (w := W1) (show W1.cell? ⟨Bt, 0, none⟩ = some (.pointer (some ⟨B, 0, none⟩)) from (hb1.cell (p := ⟨Bt, 0, none⟩) (Array.getElem?_eq_some_iff.1 hBt).1).trans (cell_of hBt 0))
  have X1 := Und.cell (w := W1) (show W1.cell? ⟨Bq, 0, none⟩ = some (.string key) from (hb1.cell (p := ⟨Bq, 0, none⟩) (Array.getElem?_eq_some_iff.1 hBq).1).trans (cell_of hBq 0))
  have X2 := Und.cell (w := W1) (show W1.cell? ⟨B, 0, none⟩ = some (.slice (some ⟨pb, po, none⟩) ps.length cp) from by rw [← hap]; exact (hb1.cell (p := ⟨B, 0, none⟩) lB).trans (cell_of ob 0))
  have HPF : Hid (∀ W', Below W1.heap.size W1 W' → Calls Tryd.prog 28 #[.pointer (some ⟨B, 0, none⟩), .string key] W' fun e w' => e = .returned (.int .i64 (cutN ps key : Int)) ∧ Below W'.heap.size W' w') := Qb.hid (fun W' hb' => by
    have hbW : Below W.heap.size W W' := bl_step hb1 hb'
    refine (partFor_any W' B key ap cp fc fa F m ps ((hbW.block B lB).trans ob) (hk.below hbW) (by omega) (rise hps hch hne key)).mono fun e w' ⟨j, h1, h2, h3, h4, h5⟩ => ?_
    have := (CutAt.mk h2 h3 h4).is
    rw [this] at h1
    exact ⟨h1, h5⟩)
  have HCU : Hid (CutAt ps key (cutN ps key)) := Qb.hid ⟨cutN_le _ _, fun i x => cutN_lo ps i x, fun i x hi hx => by
    have hl := (List.getElem?_eq_some_iff.1 hx).1
    have hx0 : ps[cutN ps key]? = some (ps[cutN ps key]'(by omega)) := List.getElem?_eq_getElem (by omega)
    exact rise hps hch hne key _ i _ x hi hx0 hx (cutN_at ps _ hx0)⟩
  have hq1 := cutN_le ps key
  generalize cutN ps key = q at *
  have HKP := Qb.hid (And.intro hk (And.intro ob (And.intro hkr (And.intro hcc htp))))
  clear htb hps hch hnn hne hlen hz0 hBt hBq tBt tBq hY hJ hJx h0 hu0 hu1 hu2 ob hk hf hkr hcc htp htp0 hpv
  refine callsIn_of_wp_marks Tryd.func49 rfl trivial ?_ rfl
  simp only [Tryd.ntmps49, List.size_toArray, List.length_cons, List.length_nil, Nat.reduceAdd, Nat.reduceSub, Array.replicate_succ, Array.replicate_zero, List.push_toArray, List.append_toArray, List.nil_append, List.cons_append]
  have hfR : Fence.wide.fn 50 := trivial
  gi_wp2_with fail
  have r1 : (0 : Int) ≤ (q : Int) := by omega
  have r2 : (q : Int) ≤ (ps.length : Int) := by omega
  have r3 : (ps.length : Int) ≤ (cp : Int) := by omega
  have hne9 := Und.non W1
  refine wpIn_wide.2 ?_
  refine wp_region_und (by kernel_rfl) (by kernel_rfl) ?_
  repeat (go_big_quiet_step ((go_at_call 28; exact Und.call (HPF.out _ (Und.ok _)))))
  refine wpQuiet_nil ?_
  intro W2 hb2
  have HB2 := Qb.hid (bl_step hb1 hb2)
  have HG2 := Qb.hid ((hb2.block _ (by omega)).trans g1)
  clear hb2 X0 X1 X2 hne9 hb1 g1 HPF r1 r2 r3
  have HF2 : Hid (Fi u J W.heap.size l Bq B pb cc cty key ps F m R css [] [] T0 W2) := Qb.hid
    ⟨HJ.out.1 [] T0 W W2 none H0.out ⟨HB2.out.os, HB2.out.tape, HB2.out.output, HB2.out.size, fun b hb _ => HB2.out.block b hb⟩ (fun r e => by cases e), HTB.out.1.below HB2.out, HTB.out.2.goes (Goes.below (t := fun _ => False) HB2.out) (fun z => z), (HB2.out.block _ (Array.getElem?_eq_some_iff.1 HBX.out.1.2).1).trans HBX.out.1.2, HBX.out.2.2, HG2.out, HZ.out _ (Nat.le_refl _), (HB2.out.block _ (Array.getElem?_eq_some_iff.1 HKP.out.2.2.2.1).1).trans HKP.out.2.2.2.1, HKP.out.2.2.2.2, fun b hb => HZ.out b (Nat.le_trans HB2.out.size hb), by simp⟩
  have HPB : Hid (∀ Wc : World, Wc.heap[pb]? = some (.cells cc cty) → ∀ i p, ps[i]? = some p → Wc.cell? ⟨pb, po + i * 2, none⟩ = some (.string p.1) ∧ Wc.cell? ⟨pb, po + i * 2 + 1, none⟩ = some (.pointer (some ⟨p.2, 3, none⟩))) := by
    apply Qb.hid
    intro Wc h i p hi
    have e : Wc.heap[pb]? = W.heap[pb]? := h.trans HKP.out.2.2.2.1.symm
    have k0 : W.cell? ⟨pb, po + i * 2, none⟩ = some (.string p.1) := HKP.out.2.2.1.2 i _ hi 0 _ rfl
    have k1 : W.cell? ⟨pb, po + i * 2 + 1, none⟩ = some (.pointer (some ⟨p.2, 3, none⟩)) := HKP.out.2.2.1.2 i _ hi 1 _ rfl
    exact ⟨(World.cell?_of_block (a := ⟨pb, po + i * 2, none⟩) e).trans k0, (World.cell?_of_block (a := ⟨pb, po + i * 2 + 1, none⟩) e).trans k1⟩
  have HFR : Hid (frE (css.drop q) key = frE css key) := Qb.hid (frE_cut HTB.out.2 HC.out.1 HCU.out)
  have HPD : Hid (∀ w D, (∃ T', J (frE css key) T' w) → W.heap.size ≤ D → w.heap[D]? = some (.deferred (some [])) → ∃ T', J (frE css key) T' (w.putObj D (.deferred none))) := Qb.hid fun w D ⟨T', h⟩ hD ho => ⟨T', HJ.out.1 _ T' w _ (some D) h (grownBy_putObj' _ _ _) (fun r e => by cases e; exact ⟨hD, _, ho, rfl⟩)⟩
  have HPX : Hid (∀ w D, (∃ es T', es <+: frE css key ∧ Jx es T' w) → W.heap.size ≤ D → w.heap[D]? = some (.deferred (some [])) → ∃ es T', es <+: frE css key ∧ Jx es T' (w.putObj D (.deferred none))) := Qb.hid fun w D ⟨es, T', h0, h⟩ hD ho => ⟨es, T', h0, HJ.out.2 _ T' w _ (some D) h (grownBy_putObj' _ _ _) (fun r e => by cases e; exact ⟨hD, _, ho, rfl⟩)⟩
  obtain ⟨L, hL⟩ : ∃ L, css.length - q = L := ⟨_, rfl⟩
  by_cases hqc : cp = q
  · have hL0 : L = 0 := by omega
    have HE0 : Hid (frE css key = []) := Qb.hid (by
      rw [← HFR.out, List.drop_eq_nil_of_le (by omega)]; rfl)
    subst hL0
    gi_wp2
    try rw [hL]
    refine wpIn_loop_ghost_k (fun n a' Wc => Wc = W2 ∧ a' = { tmps := #[.func (.yield l) #[] #[], .pointer (some ⟨Bt, 0, none⟩), .pointer (some ⟨Bq, 0, none⟩), .pointer (some ⟨W.heap.size, 0, none⟩), undef, undef, undef, .pointer (some ⟨B, 0, none⟩), .pointer (some ⟨B, 0, none⟩), .pointer (some ⟨B, 0, none⟩), .slice (some ⟨pb, po, none⟩) css.length q, .pointer (some ⟨B, 0, none⟩), .string key, .int .i64 (q : Int), .slice (some ⟨pb, po, none⟩) 0 0, .int .i64 0, .int .i64 0, undef, undef, undef, undef, undef, undef, undef, undef, undef, undef, undef, undef, undef, undef, undef, undef, undef, undef], defers := [] }) 0 ?_ ?_
    · exact ⟨rfl, rfl⟩
    · rintro n' a' Wc ⟨rfl, rfl⟩ Jg Kg hJg hKg
      gi_wp2
      refine leaves_marksP (B0 := W.heap.size) (Pd := fun w => ∃ T', J (frE css key) T' w) HPD.out [] _ ⟨T0, by rw [HE0.out]; exact HF2.out.j⟩ (by simp) List.nodup_nil (fun w' h => ?_)
      exact ⟨_, results_none rfl _ _ _, ⟨_, rfl⟩, .inl h⟩
  · gi_wp2
    try rw [hL]
    refine wpIn_loop_ghost_k (fun n a' Wc => ∃ j, n + j = L ∧ ∃ (Ds : List Nat) (T : Nat → Nat) (u5 u17 u18 u19 u20 u21 u22 u34 : Value), Ds.Nodup ∧ Fi u J W.heap.size l Bq B pb cc cty key ps F m R css Ds (frE ((css.drop q).take j) key) T Wc ∧ a' = { tmps := #[.func (.yield l) #[] #[], .pointer (some ⟨Bt, 0, none⟩), .pointer (some ⟨Bq, 0, none⟩), .pointer (some ⟨W.heap.size, 0, none⟩), undef, u5, undef, .pointer (some ⟨B, 0, none⟩), .pointer (some ⟨B, 0, none⟩), .pointer (some ⟨B, 0, none⟩), .slice (some ⟨pb, po, none⟩) css.length cp, .pointer (some ⟨B, 0, none⟩), .string key, .int .i64 (q : Int), .slice (some ⟨pb, po + q * 2, none⟩) L (cp - q), .int .i64 (L : Int), .int .i64 (j : Int), u17, u18, u19, u20, u21, u22, undef, undef, undef, undef, undef, undef, undef, undef, undef, undef, undef, u34], defers := Ds.map fun D => { target := .collected D, args := #[] } }) L ?_ ?_
    · exact ⟨0, rfl, [], T0, undef, undef, undef, undef, undef, undef, undef, undef, List.nodup_nil, HF2.out, rfl⟩
    · rintro n' a' Wc ⟨j, hj, Ds, T, u5, u17, u18, u19, u20, u21, u22, u34, hnd, hfi, rfl⟩ Jg Kg hJg hKg
      have HFI := Qb.hid (And.intro hnd hfi)
      have HKG := Qb.hid hKg
      clear hnd hfi hKg
      cases n' with
      | zero =>
        have hj' : j = L := by omega
        subst hj'
        have HEN : Hid (frE ((css.drop q).take j) key = frE css key) := Qb.hid (by rw [List.take_of_length_le (by rw [List.length_drop]; omega), HFR.out])
        gi_wp2
        refine leaves_marksP (B0 := W.heap.size) (Pd := fun w => ∃ T', J (frE css key) T' w) HPD.out Ds _ ⟨T, by rw [← HEN.out]; exact HFI.out.2.j⟩ HFI.out.2.ma HFI.out.1 (fun w' h => ?_)
        exact ⟨_, results_none rfl _ _ _, ⟨_, rfl⟩, .inl h⟩
      | succ n' =>
        have q3 : (j : Int) < (L : Int) := by omega
        have hjl : q + j < ps.length := by omega
        obtain ⟨p, hp⟩ : ∃ p, ps[q + j]? = some p := ⟨_, List.getElem?_eq_getElem hjl⟩
        obtain ⟨cs, r, hcs, hp1, hr1, hr2, hbk⟩ := PsAt.at_ ps css (q + j) p HFI.out.2.ps hp
        obtain ⟨y0, y1⟩ := HPB.out Wc HFI.out.2.pk (q + j) p hp
        have ea : po + (q + j) * 2 = po + q * 2 + j * 2 := by omega
        rw [ea] at y0 y1
        have hcd : (css.drop q)[j]? = some cs := by rw [List.getElem?_drop]; exact hcs
        have HPR : Hid (∀ es, es <+: cs → frE ((css.drop q).take j) key ++ (es.filter fun e => ger e.1 key) <+: frE css key) := Qb.hid fun es he => by rw [← HFR.out]; exact frE_pre hcd key he
        have HNX : Hid (frE ((css.drop q).take (j + 1)) key = frE ((css.drop q).take j) key ++ cs.filter fun e => ger e.1 key) := Qb.hid (frE_next hcd key)
        have HOK : Hid (∀ e ∈ cs, Ok e ∧ 0 ≤ e.2.1) := Qb.hid fun e he => by
          have hm : e ∈ css.flatten := List.mem_flatten.2 ⟨cs, List.mem_of_getElem? hcs, he⟩
          exact ⟨chain_ok HC.out.1 e hm, HC.out.2.1 e hm⟩
        have HBK := Qb.hid (And.intro hr1 hbk)
        generalize frE ((css.drop q).take j) key = dn at *
        obtain ⟨pg, pK⟩ := p
        clear hcs hp1 hr1 hr2 hbk hcd hp
        dsimp only at y0 y1 HBK
        obtain ⟨Wa, hWa⟩ : ∃ Wa, Wc.alloc (.cells #[.string pg, .pointer (some ⟨pK, 3, none⟩)] 71) = Wa := ⟨_, rfl⟩
        have hba : Below Wc.heap.size Wc Wa := by rw [← hWa]; exact (Below.refl _ _).alloc (Nat.le_refl _) _
        have z1 : Wa.cell? ⟨Wc.heap.size, 1, none⟩ = some (.pointer (some ⟨pK, 3, none⟩)) := by rw [← hWa, World.cell?_alloc_at _ _ _ _ rfl]; rfl
        gi_wp2
        try rw [hWa]
        clear hWa
        refine ⟨fun _ => by omega, ?_⟩
        refine (callsIn_wide.2 (all_any Wa pK 3)).mono ?_
        rintro e W3 ⟨rfl, hb3, hs3, c3⟩
        have hb03 : Below Wc.heap.size Wc W3 := bl_step hba hb3
        have HF3 := Qb.hid (HFI.out.2.below HJ.out.1 hb03)
        have HSQ : Hid (SeqE u Fence.wide (n - 1) (n - 1 - 1 - 1 - 1) Tryd.prog 71 #[.pointer (some ⟨Wa.heap.size, 0, none⟩)] encE cs W3 T) := by
          have h := all_seq u HU.out.1 (n - 1) (by omega) T Wa.heap.size pK 3 (pushes r st0 cs).b (pushes r st0 cs).p W3 (BlkAt.mono (HBK.out.2.below hb03) (fun x hx z => HU.out.1 (by rw [z] at hx; exact hx))) HF3.out.hi c3
          rw [wkp_is HOK.out] at h
          exact Qb.hid h
        have HDL : Hid (∀ D ∈ Ds, D < W3.heap.size) := Qb.hid fun D hD => (Array.getElem?_eq_some_iff.1 (HF3.out.ma D hD).2).1
        have HNS : Hid (W.heap.size ≤ W3.heap.size) := Qb.hid (Nat.le_of_lt (Array.getElem?_eq_some_iff.1 HF3.out.yb).1)
        clear y0 y1 z1 hba hb3 hs3 c3 hb03
        dsimp only
        gi_wp2
        refine range_eB rfl (by omega) (gf := 71) (lb := #[.pointer (some ⟨Wa.heap.size, 0, none⟩)]) rfl trivial (enters_of Tryd.func71 (by kernel_rfl) rfl)
          u HU.out.1 T HF3.out.hi HSQ.out (fun _ => rfl)
          (fun es' T' W' => Fi u J W.heap.size l Bq B pb cc cty key ps F m R css Ds (dn ++ es'.filter fun e => ger e.1 key) T' W') (fun c es' T' W' => c = .ret ∧ Jx (dn ++ es'.filter fun e => ger e.1 key) T' W' ∧ ∀ D ∈ Ds, W.heap.size ≤ D ∧ W'.heap[D]? = some (.deferred (some [])))
          (fun es' T' A C row h hg hr => h.grown HJ.out.1 HNS.out HDL.out hg hr)
          (fun c es' T' A C row h hg hr => ⟨h.1, HJ.out.2 _ T' A C row h.2.1 hg (fun r e => ⟨by have := (hr r e).1; have := HNS.out; omega, (hr r e).2⟩), fun D hm => ⟨(h.2.2 D hm).1, (hg.block D (Array.getElem?_eq_some_iff.1 (h.2.2 D hm).2).1 (fun e => by have := (hr D e.symm).1; have := HDL.out D hm; omega)).trans (h.2.2 D hm).2⟩⟩)
          (by simpa using HF3.out)
          6 (fun e => #[.string e.1, .int .u64 e.2.1, .bool e.2.2.1, .string e.2.2.2]) 43 ?assign ?body ?done ?stop
        case assign =>
          rintro l_ ⟨ek, es_, ed, ev⟩ es' T' Wd Kc hi hK
          simp only [encE]
          gi_wp2
          exact ⟨rfl, by simp only [encE, List.zip_toArray, List.zip_cons_cons, List.zip_nil_right, List.foldl_toArray, List.foldl_cons, List.foldl_nil, List.setIfInBounds_toArray, List.set_cons_succ, List.set_cons_zero]⟩
        case body =>
          rintro l_ ⟨ek, es_, ed, ev⟩ es' T' a' Wd W' Wb hl1 hl2 ⟨ob, ho, hoc⟩ _ hfb hz hN9 ⟨rfl, rfl⟩ hg _
          simp only [encE] at *
          have e0 : Wb.heap[Wd.heap.size]? = some (.cells #[.string ek, .int .u64 es_, .bool ed, .string ev] 43) := (hg.block _ (by simp) (fun e => by cases e; omega)).trans (World.alloc_heap_new _ _)
          have c0 : Wb.cell? ⟨Wd.heap.size, 0, none⟩ = some (.string ek) := cell_of e0 0
          have c1 : Wb.cell? ⟨Wd.heap.size, 1, none⟩ = some (.int .u64 es_) := cell_of e0 1
          have c2 : Wb.cell? ⟨Wd.heap.size, 2, none⟩ = some (.bool ed) := cell_of e0 2
          have c3 : Wb.cell? ⟨Wd.heap.size, 3, none⟩ = some (.string ev) := cell_of e0 3
          have y0 : Wb.cell? ⟨W.heap.size, 0, none⟩ = some (.func (.yield l) #[] #[]) := cell_of hfb.yb 0
          have k0 : Wb.cell? ⟨Bq, 0, none⟩ = some (.string key) := cell_of hfb.bq 0
          have HFB := Qb.hid hfb
          have hpre := HPR.out _ hN9
          rw [List.filter_append, ← List.append_assoc] at hpre
          simp only [List.zip_toArray, List.zip_cons_cons, List.zip_nil_right, List.foldl_toArray, List.foldl_cons, List.foldl_nil, List.setIfInBounds_toArray, List.set_cons_succ, List.set_cons_zero]
          by_cases hlt : Op.bytesLess ek.toList key.toList = true
          · have HFL : Hid (((es' ++ [(ek, es_, ed, ev)]).filter fun e => ger e.1 key) = es'.filter fun e => ger e.1 key) := Qb.hid (by
              rw [List.filter_append, List.filter_cons_of_neg (by show ¬ (ger ek key = true); rw [ger_false hlt]; simp), List.filter_nil, List.append_nil])
            clear hfb hz hN9 hg ho hoc e0 hpre
            gi_wp2
            refine ⟨(fun f h => by cases h), ?_⟩
            gi_wp2
            exact ⟨T', by dsimp only; rw [HFL.out]; exact HFB.out, Goes.refl _ _ _, HFB.out.hi, ⟨Nat.le_refl _, fun k o hB hk ho => hk⟩⟩
          · have hlf : Op.bytesLess ek.toList key.toList = false := by simpa using hlt
            have hge : ger ek key = true := by unfold ger; rw [hlf]; rfl
            have HFL : Hid (((es' ++ [(ek, es_, ed, ev)]).filter fun e => ger e.1 key) = (es'.filter fun e => ger e.1 key) ++ [(ek, es_, ed, ev)]) := Qb.hid (by
              rw [List.filter_append, List.filter_cons_of_pos (by exact hge), List.filter_nil])
            rw [List.filter_cons_of_pos (by exact hge), List.filter_nil] at hpre
            obtain ⟨fn, tm, asg, bod, hy, hR⟩ := HY.out _ (ek, es_, ed, ev) T' Wb hfb.j hfb.hi hpre
            simp only [encE] at hy
            clear hfb hz hN9 hg ho hoc e0 hpre hlt
            gi_wp2
            refine ⟨fun _ => by omega, ?_⟩
            refine (roundIn_in l_ hR).mono ?_
            rintro r' W5 ⟨bo, rfl, hj2⟩
            have HJ2 := Qb.hid hj2
            clear hj2 hR hy
            cases bo with
            | true =>
              gi_wp2
              obtain ⟨T2, q4, q5, _⟩ := HJ2.out
              obtain ⟨g1, g2, g3⟩ := q5 rfl
              refine ⟨T2, ?_, g2, g3, ⟨q4.size, fun k o hB hk ho => q4.same k o (by have := HNS.out; omega) hk ho⟩⟩
              dsimp only
              rw [HFL.out, ← List.append_assoc]
              exact HFB.out.step HU.out g1 g2 g3 q4
            | false =>
              gi_wp2
              obtain ⟨T2, q4, _, q5⟩ := HJ2.out
              refine ⟨T2, ⟨rfl, ?_, fun D hm => ⟨(HFB.out.ma D hm).1, q4.same D _ (HFB.out.ma D hm).1 (HFB.out.ma D hm).2 rfl⟩⟩, ⟨q4.size, fun k o hB hk ho => q4.same k o (by have := HNS.out; omega) hk ho⟩⟩
              try dsimp only
              rw [HFL.out, ← List.append_assoc]
              exact q5 rfl
        case done =>
          rintro D T' W' hD hfd hDd
          have HFD : Hid (Fi u J W.heap.size l Bq B pb cc cty key ps F m R css (D :: Ds) (frE ((css.drop q).take (j + 1)) key) T' W') := Qb.hid (by
            rw [HNX.out]
            exact hfd.more (C := W') (Nat.le_trans HNS.out hD) hDd)
          have HND : Hid ((D :: Ds).Nodup) := Qb.hid (List.nodup_cons.2 ⟨fun hm => by have := HDL.out D hm; omega, HFI.out.1⟩)
          clear hfd hDd hD
          dsimp only
          gi_wp2
          exact HKG.out _ _ ⟨n', Nat.lt_succ_self n', hJg n' _ _ ⟨j + 1, by omega, D :: Ds, T', _, _, _, _, _, _, _, _, HND.out, HFD.out, rfl⟩⟩
        case stop =>
          rintro D c es' T' W' hD hpre ⟨rfl, hjx, hmk⟩ hDd
          have HJX : Hid (∃ es T', es <+: frE css key ∧ Jx es T' W') := Qb.hid ⟨_, T', HPR.out _ hpre, hjx⟩
          have HND : Hid ((D :: Ds).Nodup) := Qb.hid (List.nodup_cons.2 ⟨fun hm => by have := HDL.out D hm; omega, HFI.out.1⟩)
          have HMK : Hid (∀ E ∈ D :: Ds, W.heap.size ≤ E ∧ W'.heap[E]? = some (.deferred (some []))) := Qb.hid fun E hE => by
            rcases List.mem_cons.1 hE with rfl | hE
            · exact ⟨Nat.le_trans HNS.out hD, hDd⟩
            · exact hmk E hE
          clear hjx hmk hDd hD hpre
          dsimp only
          gi_wp2
          refine leaves_marksP (B0 := W.heap.size) (Pd := fun w => ∃ es T', es <+: frE css key ∧ Jx es T' w) HPX.out (D :: Ds) _ HJX.out HMK.out HND.out (fun w' h => ?_)
          exact ⟨_, results_none rfl _ _ _, ⟨_, rfl⟩, .inr h⟩
end Tbl
end Go.Proofs.YtnhhalabmmcemaaDoor
