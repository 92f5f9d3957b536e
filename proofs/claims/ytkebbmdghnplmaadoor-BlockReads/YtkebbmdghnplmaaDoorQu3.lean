import Derived.Test.YtkebbmdghnplmaaDoorQu2
import Derived.Laws.EntriesVeiled
import Derived.BigQuiet
namespace Go.Proofs.YtkebbmdghnplmaaDoor
namespace Qb
open Go.RowKit Go.Shelf CMath Byt Laws Irw Crw Cod Qe
set_option linter.unusedVariables false
set_option linter.unusedSimpArgs false
set_option maxRecDepth 100000
attribute [local go_sem] Oper.semAt_some
/-- what the first loop gathers -/
def gA (nn : Int) (l : List En) : List En := if nn < 1 then l else l.take nn.toNat
/-- the boxes of again -/
structure Aw (w w4 : World) (nn : Int) (a : Option Addr) (N c K o : Nat) : Prop where
  n : w4.heap[w.heap.size]? = some (.cells #[.int .i64 nn] 3)
  l : w4.heap[w.heap.size + 1]? = some (.cells #[.slice a N c] 25)
  k : w4.cell? ⟨w.heap.size + 2, 0, none⟩ = some (.pointer (some ⟨K, o, none⟩))
  f : w4.heap[w.heap.size + 3]? = some (.cells #[.func (.func 79) #[] #[.pointer (some ⟨w.heap.size + 2, 0, none⟩)]] 105)
  bl : Below w.heap.size w w4
  sz : w4.heap.size = w.heap.size + 4
theorem isE_take {w : World} {a : Option Addr} {l : List En} (h : IsE w a l) (k : Nat) : IsE w a (l.take k) := fun hne => by
  obtain ⟨b, off, e, hr⟩ := h (by intro e; rw [e] at hne; simp at hne)
  refine ⟨b, off, e, hr.1, fun i x hx => hr.2 i x ?_⟩
  rw [List.getElem?_take] at hx
  split at hx
  · exact hx
  · cases hx
theorem okb_app {t s X Y : Nat} {T T9 : Nat → Nat} {W W9 : World} (h : Okb t Y T W) (hne : Y ≠ X) (hs : t ≠ s) (hk : ∀ b o, b < W.heap.size → T b ≠ s → W.heap[b]? = some o → o.isCells = true → b ≠ X → T9 b = T b ∧ W9.heap[b]? = some o) : Okb t Y T9 W9 := by
  obtain ⟨o, h1, h2⟩ := cells_of h.c
  have hlt := World.block_lt_of_cell? W _ h.c
  obtain ⟨k1, k2⟩ := hk Y o hlt (by rw [h.tg]; exact hs) h1 h2 hne
  have e : W9.heap[Y]? = W.heap[Y]? := k2.trans h1.symm
  exact ⟨(World.cell?_of_block (a := ⟨Y, 0, none⟩) e).trans h.c, (World.frozen?_of_block (a := ⟨Y, 0, none⟩) e).trans h.f, k1.trans h.tg⟩
set_option maxHeartbeats 4000000 in
theorem again_in (w : World) (K o : Nat) (eb pb : List Nat) (nn : Int) (a : Option Addr) (c N : Nat) (l : List En) (hk : BlkZ w K o eb pb) (hE : (wkp eb 0).map Prod.snd = l) (hi : IsE w a l) (hN : N = l.length) (hl : N ≤ 1000000) (hc : N ≤ c) :
    CallsIn Fence.wide 20 Tryd.prog 24 #[.pointer (some ⟨K, o, none⟩), .int .i64 nn, .slice a N c] w fun e w' => e = .returned (.bool true) ∧ Below w.heap.size w w' := by
  obtain ⟨i0, hi0, hz0, hz1, hz2⟩ := info_parts Erw.infoE
  have HK : Hid (BlkZ w K o eb pb ∧ (wkp eb 0).map Prod.snd = l ∧ IsE w a l ∧ N = l.length) := ⟨hk, hE, hi, hN⟩
  clear hk hE hi hN
  have g1 : ((w.alloc (.cells #[.int .i64 nn] 3)).alloc (.cells #[.slice a N c] 25)).heap[w.heap.size]? = some (.cells #[.int .i64 nn] 3) := (Below.heap_alloc _ _ _ (by simp)).trans (World.alloc_heap_new _ _)
  have g2 : ((w.alloc (.cells #[.int .i64 nn] 3)).alloc (.cells #[.slice a N c] 25)).heap[w.heap.size + 1]? = some (.cells #[.slice a N c] 25) := by
    have := World.alloc_heap_new (w.alloc (.cells #[.int .i64 nn] 3)) (.cells #[.slice a N c] 25)
    rwa [World.size_alloc] at this
  have hb2 : Below w.heap.size w ((w.alloc (.cells #[.int .i64 nn] 3)).alloc (.cells #[.slice a N c] 25)) := ((Below.refl _ _).alloc (Nat.le_refl _) _).alloc (by simp) _
  have hs2 : ((w.alloc (.cells #[.int .i64 nn] 3)).alloc (.cells #[.slice a N c] 25)).heap.size = w.heap.size + 2 := by simp
  refine callsIn_of_wp_marks Tryd.func24 rfl trivial ?_ rfl
  simp only [Tryd.ntmps24, List.size_toArray, List.length_cons, List.length_nil, Nat.reduceAdd, Nat.reduceSub, Array.replicate_succ, Array.replicate_zero, List.push_toArray, List.append_toArray, List.nil_append, List.cons_append]
  have hfA : Fence.wide.fn 43 := trivial
  have hfn : ∀ (x : Nat) (w : World), (binOp .eql 105 (.func (.func 79) #[] #[.pointer (some ⟨x, 0, none⟩)]) .nilFunc).run Tryd.prog w = .ok (.bool false) w := fun x w => fun_nil _ _ _
  gi_wp2_with fail
  generalize ((w.alloc (.cells #[.int .i64 nn] 3)).alloc (.cells #[.slice a N c] 25)) = w2 at *
  refine (callsIn_wide.2 (all_any w2 K o)).mono ?_
  rintro e w3 ⟨rfl, hb3, hs3, c3⟩
  dsimp only
  rw [hs2] at hs3 c3 ⊢
  have hs3b : w3.heap.size = w.heap.size + 3 := hs3
  clear hs3
  have hs3 := hs3b
  clear hs3b
  have q1 := (hb3.block _ (by omega)).trans g1
  have q2 := (hb3.block _ (by omega)).trans g2
  have hb23 : Below w.heap.size w w3 := hb2.trans (hb3.mono (by omega))
  clear g1 g2 hb2 hb3 hs2
  have HW3 : Hid (w3.heap[w.heap.size]? = some (.cells #[.int .i64 nn] 3) ∧ w3.heap[w.heap.size + 1]? = some (.cells #[.slice a N c] 25) ∧ Below w.heap.size w w3 ∧ w3.heap.size = w.heap.size + 3 ∧ w3.cell? ⟨w.heap.size + 2, 0, none⟩ = some (.pointer (some ⟨K, o, none⟩))) := ⟨q1, q2, hb23, hs3, c3⟩
  clear q1 q2 hb23 c3
  gi_wp2
  have hs4 : (w3.alloc (.cells #[.func (.func 79) #[] #[.pointer (some ⟨w.heap.size + 2, 0, none⟩)]] 105)).heap.size = w.heap.size + 4 := by rw [World.size_alloc, hs3]
  have g4 : (w3.alloc (.cells #[.func (.func 79) #[] #[.pointer (some ⟨w.heap.size + 2, 0, none⟩)]] 105)).heap[w.heap.size + 3]? = some (.cells #[.func (.func 79) #[] #[.pointer (some ⟨w.heap.size + 2, 0, none⟩)]] 105) := by
    have := World.alloc_heap_new w3 (.cells #[.func (.func 79) #[] #[.pointer (some ⟨w.heap.size + 2, 0, none⟩)]] 105)
    rwa [hs3] at this
  have hb34 : Below w3.heap.size w3 (w3.alloc (.cells #[.func (.func 79) #[] #[.pointer (some ⟨w.heap.size + 2, 0, none⟩)]] 105)) := (Below.refl _ _).alloc (Nat.le_refl _) _
  generalize (w3.alloc (.cells #[.func (.func 79) #[] #[.pointer (some ⟨w.heap.size + 2, 0, none⟩)]] 105)) = w4 at *
  have HW4 : Hid (Aw w w4 nn a N c K o) := by
    have h := HW3.out
    have h3 := h.2.2.2.1
    exact ⟨(hb34.block _ (by omega)).trans h.1, (hb34.block _ (by omega)).trans h.2.1, (hb34.cell (p := ⟨w.heap.size + 2, 0, none⟩) (by show w.heap.size + 2 < _; omega)).trans h.2.2.2.2, g4, h.2.2.1.trans (hb34.mono (by omega)), hs4⟩
  clear hb34 g4 HW3 hs3
  have g5 : (w4.alloc (.cells #[.slice none 0 0] 25)).heap[w.heap.size + 4]? = some (.cells #[.slice none 0 0] 25) := by
    have := World.alloc_heap_new w4 (.cells #[.slice none 0 0] 25)
    rwa [hs4] at this
  have hb45 : Below w4.heap.size w4 (w4.alloc (.cells #[.slice none 0 0] 25)) := (Below.refl _ _).alloc (Nat.le_refl _) _
  have hs5 : (w4.alloc (.cells #[.slice none 0 0] 25)).heap.size = w.heap.size + 5 := by rw [World.size_alloc, hs4]
  generalize (w4.alloc (.cells #[.slice none 0 0] 25)) = w5 at *
  rw [show w.heap.size + 3 + 1 = w.heap.size + 4 from rfl]
  have hu0 : ¬ u2 7 8 0 := by unfold u2; omega
  have H0 : Hid (Col 7 8 w4 (w.heap.size + 4) [] (upd (fun _ => 0) (w.heap.size + 4) 8) w5) := Col.first (by omega) g5 hb45 (fun _ _ => rfl) (fun _ _ => by omega) (fun _ _ _ _ => rfl)
  have HSQ : Hid (SeqE (u2 7 8) Fence.wide 19 16 Tryd.prog 79 #[.pointer (some ⟨w.heap.size + 2, 0, none⟩)] encE l w5 (upd (fun _ => 0) (w.heap.size + 4) 8)) := by
    have hb := HW4.out.bl.trans (hb45.mono (by omega))
    have := all_seq (u2 7 8) hu0 19 (by decide) (upd (fun _ => 0) (w.heap.size + 4) 8) (w.heap.size + 2) K o eb pb w5 (BlkAt.below (BlkAt.up HK.out.1 (fun b hb => by rw [upd_other _ _ (by omega)]; exact hu0)) hb) H0.out.hi ((hb45.cell (p := ⟨w.heap.size + 2, 0, none⟩) (by show w.heap.size + 2 < _; omega)).trans HW4.out.k)
    rw [HK.out.2.1] at this
    exact this
  have qs5 : w4.heap.size ≤ w5.heap.size := by omega
  have HU0 : Hid (¬ u2 7 8 0) := hu0
  have HLL : Hid (l.length = N) := HK.out.2.2.2.symm
  clear g5 hb45 hu0
  refine range_eR rfl (by decide) (gf := 79) (lb := #[.pointer (some ⟨w.heap.size + 2, 0, none⟩)]) rfl trivial (enters_of Tryd.func79 (by kernel_rfl) rfl)
    (u2 7 8) HU0.out (upd (fun _ => 0) (w.heap.size + 4) 8) H0.out.hi HSQ.out (fun _ => rfl)
    (fun es T W => (nn < 1 ∨ (es.length : Int) < nn) ∧ Col 7 8 w4 (w.heap.size + 4) es T W) (fun c es T W => c = .exit 0 ∧ ((es.length : Int) = nn ∧ 0 < nn) ∧ Col 7 8 w4 (w.heap.size + 4) es T W)
    (fun es T A C row h hg hr => ⟨h.1, Col.lasts qs5 es T A C row h.2 hg hr⟩) (fun c es T A C row h hg hr => ⟨h.1, h.2.1, Col.lasts qs5 es T A C row h.2.2 hg hr⟩) ⟨by simp only [List.length_nil]; omega, H0.out⟩
    9 (fun e => #[.string e.1, .int .u64 e.2.1, .bool e.2.2.1, .string e.2.2.2]) 30 ?assign ?body 0 (fun W => ∃ T, Col 7 8 w4 (w.heap.size + 4) (gA nn l) T W) ?done ?stop ?go
  case assign =>
    rintro l_ ⟨ek, es_, ed, ev⟩ es T Wc Kc hi hK
    simp only [encE]
    gi_wp2
    exact ⟨rfl, by simp only [encE, List.zip_toArray, List.zip_cons_cons, List.zip_nil_right, List.foldl_toArray, List.foldl_cons, List.foldl_nil, List.setIfInBounds_toArray, List.set_cons_succ, List.set_cons_zero]⟩
  case body =>
    rintro l_ ⟨ek, es_, ed, ev⟩ es T a' Wc W' Wb hl1 hl2 ⟨ob, ho, hoc⟩ _ ⟨hlim, hcol⟩ hz hN9 ⟨rfl, rfl⟩ hg _
    simp only [encE] at *
    have e0 : Wb.heap[Wc.heap.size]? = some (.cells #[.string ek, .int .u64 es_, .bool ed, .string ev] 30) := (hg.block _ (by simp) (fun e => by cases e; omega)).trans (World.alloc_heap_new _ _)
    have c0 : Wb.cell? ⟨Wc.heap.size, 0, none⟩ = some (.string ek) := by rw [cell_of_obj e0]; rfl
    have c1 : Wb.cell? ⟨Wc.heap.size, 1, none⟩ = some (.int .u64 es_) := by rw [cell_of_obj e0]; rfl
    have c2 : Wb.cell? ⟨Wc.heap.size, 2, none⟩ = some (.bool ed) := by rw [cell_of_obj e0]; rfl
    have c3 : Wb.cell? ⟨Wc.heap.size, 3, none⟩ = some (.string ev) := by rw [cell_of_obj e0]; rfl
    obtain ⟨v, lc, lo⟩ := hcol.l
    obtain ⟨a7, c7, rfl, _⟩ := lo.form
    have lf := hcol.fl
    have hlen : es.length < 1000000000000 := by
      have h1 := hN9.length_le
      have := HLL.out
      simp only [List.length_append, List.length_singleton] at h1
      omega
    have HO : Hid (OwnE 7 T Wb (.slice a7 es.length c7) es) := lo
    have HGI : Hid (Col 7 8 w4 (w.heap.size + 4) es T Wb ∧ (nn < 1 ∨ (es.length : Int) < nn) ∧ Wb.cell? ⟨w.heap.size + 4, 0, none⟩ = some (.slice a7 es.length c7)) := ⟨hcol, hlim, lc⟩
    have HNN : Hid (∀ W es T, Col 7 8 w4 (w.heap.size + 4) es T W → W.cell? ⟨w.heap.size, 0, none⟩ = some (.int .i64 nn)) := fun W es T h => by
      have h1 := (h.bl.block w.heap.size (by omega)).trans HW4.out.n
      rw [cell_of_obj h1]; rfl
    clear hcol hlim hz hN9 hg ho hoc e0 lo
    have HBA : Hid (Below Wb.heap.size Wb (Wb.alloc (.cells #[.string ek, .int .u64 es_, .bool ed, .string ev] 30))) := (Below.refl _ _).alloc (Nat.le_refl _) _
    have HNW : Hid (IsE (Wb.alloc (.cells #[.string ek, .int .u64 es_, .bool ed, .string ev] 30)) (some ⟨Wb.heap.size, 0, none⟩) [(ek, es_, ed, ev)]) := isE_new9 (x := (ek, es_, ed, ev))
    have HLN : Hid (((es ++ [(ek, es_, ed, ev)]).length : Int) = (es.length : Int) + 1) := by show _ = _; simp
    simp only [List.zip_toArray, List.zip_cons_cons, List.zip_nil_right, List.foldl_toArray, List.foldl_cons, List.foldl_nil, List.setIfInBounds_toArray, List.set_cons_succ, List.set_cons_zero]
    gi_wp2_with (gi_at_builtin; go_loud (refine wpListIn_appE _ (by rfl) (.tmp 21) (.tmp 23) 25 (by rfl) i0 Tryd.underlying25 hi0 hz0 hz1 hz2 7 T (.slice a7 es.length c7) es (by rfl) (Erw.OwnE.below HO.out HBA.out) (some ⟨Wb.heap.size, 0, none⟩) 1 1 [(ek, es_, ed, ev)] (by rfl) (by rfl) (by simp) HNW.out (by simp; omega) ?_; intro a9 c9 T9 w9 hown9 hgo9; simp only [List.length_cons, List.length_nil, Nat.zero_add] at hown9 ⊢; obtain ⟨m1, m2, m3, hm⟩ := HGI.out.1.app (B := w5.heap.size) (by omega) (by omega) (by omega) HGI.out.2.2 hown9 hgo9; obtain ⟨T10, hm1, hm2, hm3, hm4⟩ := hm; have hnn := HNN.out _ _ _ hm1; have HM : Hid _ := And.intro hm1 (And.intro hm2 hm3); clear hown9 hgo9 m3 hm1 hm2 hm3 hm4))
    · rename_i hst
      have hst2 : (es.length : Int) + 1 = nn := by simpa using hst
      exact ⟨T10, ⟨rfl, ⟨by rw [HLN.out]; exact hst2, by omega⟩, HM.out.1⟩, HM.out.2.2⟩
    · rename_i hst
      have hst2 : ¬ ((es.length : Int) + 1 = nn) := by simpa using hst
      have := HGI.out.2.1
      exact ⟨T10, ⟨by rw [HLN.out]; omega, HM.out.1⟩, HM.out.2.1, HM.out.1.hi, HM.out.2.2⟩
  case done =>
    rintro T W ⟨h1, h2⟩
    refine ⟨T, ?_⟩
    have : gA nn l = l := by
      unfold gA
      split
      · rfl
      · exact List.take_of_length_le (by omega)
    rw [this]
    exact h2
  case stop =>
    rintro cx es T W hpre ⟨rfl, ⟨h1, h0⟩, h2⟩
    refine ⟨rfl, T, ?_⟩
    have : gA nn l = es := by
      unfold gA
      obtain ⟨t, rfl⟩ := hpre
      split
      · omega
      · rw [show nn.toNat = es.length by omega, List.take_left]
    rw [this]
    exact h2
  case go =>
    rintro ex D W6 hex hD hDd ⟨T6, hc6⟩
    refine inBlock_of hex ?_
    dsimp only
    obtain ⟨a8, c8, y4, hi8, hc8, hn8⟩ := hc6.done
    have hb6 : Below w4.heap.size w4 W6 := hc6.bl
    have z0 := (hb6.block w.heap.size (by omega)).trans HW4.out.n
    have z1 := (hb6.block (w.heap.size + 1) (by omega)).trans HW4.out.l
    have y0 : W6.cell? ⟨w.heap.size, 0, none⟩ = some (.int .i64 nn) := by rw [cell_of_obj z0]; rfl
    have y1 : W6.cell? ⟨w.heap.size + 1, 0, none⟩ = some (.slice a N c) := by rw [cell_of_obj z1]; rfl
    have HB6 : Hid (Below w.heap.size w W6 ∧ Below w4.heap.size w4 W6 ∧ w5.heap.size ≤ D ∧ W6.heap[D]? = some (.deferred (some []))) := ⟨HW4.out.bl.trans (hb6.mono HW4.out.bl.size), hb6, hD, hDd⟩
    clear hc6 z0 z1 hb6 hc8 hn8 H0 HSQ hD hDd
    obtain ⟨G, hG⟩ : ∃ G, (gA nn l).length = G := ⟨_, rfl⟩
    rw [hG] at y4
    have HI8 : Hid (IsE W6 a8 (gA nn l) ∧ (gA nn l).length = G) := ⟨hi8, hG⟩
    clear hi8 hG
    gi_wp2_with fail
    refine wpIn_mono (Q := fun ex a' W' => ex = .normal ∧ (∃ nq, W' = W6.drewN nq) ∧ ∃ u29 u30 u31 u32 u33 u34 u35 u36 u37 u38 u39 u40 u41 u42 u43 u44 u45 u46 u47 u48 u49 u50 u51 u52 u53 u54 u55 u56 u57 u58 u59, a' = { tmps := #[.pointer (some ⟨K, o, none⟩), .int .i64 nn, .slice a N c, undef, .pointer (some ⟨w.heap.size, 0, none⟩), .pointer (some ⟨w.heap.size + 1, 0, none⟩), .bool false, .pointer (some ⟨w.heap.size + 3, 0, none⟩), .pointer (some ⟨w.heap.size + 4, 0, none⟩), undef, undef, undef, undef, undef, undef, .pointer (some ⟨K, o, none⟩), (.func (.func 79) #[] #[.pointer (some ⟨w.heap.size + 2, 0, none⟩)]), (.func (.func 79) #[] #[.pointer (some ⟨w.heap.size + 2, 0, none⟩)]), .bool false, (.func (.func 79) #[] #[.pointer (some ⟨w.heap.size + 2, 0, none⟩)]), undef, undef, undef, undef, undef, undef, undef, undef, undef, u29, u30, u31, u32, u33, u34, u35, u36, u37, u38, u39, u40, u41, u42, u43, u44, u45, u46, u47, u48, u49, u50, u51, u52, u53, u54, u55, u56, u57, u58, u59, .bool false, undef, undef, undef, undef, undef, undef, undef, undef, undef, undef, undef, undef, undef, undef, undef, undef, undef, undef, undef, undef, undef, undef, undef, undef, undef, undef, undef], defers := [{ target := .collected D, args := #[] }] }) ?_ ?_
    · by_cases hA : 0 < nn ∧ nn < N
      · obtain ⟨k, hk⟩ : ∃ k : Nat, nn.toNat = k := ⟨_, rfl⟩
        have HQ : Hid (∀ n, Calls Tryd.prog 17 #[.slice a8 G c8, .slice a k c] (W6.drewN n) fun e w' => e = .returned (.bool true) ∧ ∃ m, w' = (W6.drewN n).drewN m) := fun n => by
          have hg : gA nn l = l.take k := by
            unfold gA
            rw [if_neg (by omega), hk]
          have h1 := HI8.out
          rw [hg] at h1
          have hkl : (l.take k).length = k := by rw [List.length_take]; have := HLL.out; omega
          exact sameEntries_drew a8 a c8 c G k (l.take k) (W6.drewN n) (h1.1.below (below_drewN (Below.refl _ _) n)) (isE_take ((HK.out.2.2.1.below HB6.out.1).below (below_drewN (Below.refl _ _) n)) k) h1.2.symm hkl.symm (by have := h1.2; omega)
        have d1 : decide (0 < nn) = true := decide_eq_true hA.1
        have d2 : decide (nn < (N : Int)) = true := decide_eq_true hA.2
        have d3 : decide (nn < 1) = false := decide_eq_false (by omega)
        have d4 : decide ((N : Int) ≤ nn) = false := decide_eq_false (by omega)
        have r1 : (0 : Int) ≤ nn := by omega
        have r2 : nn ≤ (c : Int) := by omega
        have hA1 := hA.1
        have hA2 := hA.2
        clear hA
        refine wpIn_wide.2 ?_
        go_quiet (first | (go_at_call 17; exact Calls.quiet_of (HQ.out _)))
        exact ⟨rfl, ⟨_, rfl⟩, _, _, _, _, _, _, _, _, _, _, _, _, _, _, _, _, _, _, _, _, _, _, _, _, _, _, _, _, _, _, _, rfl⟩
      · have HQ : Hid (∀ n, Calls Tryd.prog 17 #[.slice a8 G c8, .slice a N c] (W6.drewN n) fun e w' => e = .returned (.bool true) ∧ ∃ m, w' = (W6.drewN n).drewN m) := fun n => by
          have hg : gA nn l = l := by
            unfold gA
            split
            · rfl
            · exact List.take_of_length_le (by have := HLL.out; omega)
          have h1 := HI8.out
          rw [hg] at h1
          exact sameEntries_drew a8 a c8 c G N l (W6.drewN n) (h1.1.below (below_drewN (Below.refl _ _) n)) ((HK.out.2.2.1.below HB6.out.1).below (below_drewN (Below.refl _ _) n)) h1.2.symm HLL.out.symm (by have := h1.2; have := HLL.out; omega)
        by_cases hB : 0 < nn
        · have hC : (N : Int) ≤ nn := by omega
          have d1 : decide (0 < nn) = true := decide_eq_true hB
          have d2 : decide (nn < (N : Int)) = false := decide_eq_false (by omega)
          have d3 : decide (nn < 1) = false := decide_eq_false (by omega)
          have d4 : decide ((N : Int) ≤ nn) = true := decide_eq_true hC
          clear hA
          refine wpIn_wide.2 ?_
          go_quiet (first | (go_at_call 17; exact Calls.quiet_of (HQ.out _)))
          exact ⟨rfl, ⟨_, rfl⟩, _, _, _, _, _, _, _, _, _, _, _, _, _, _, _, _, _, _, _, _, _, _, _, _, _, _, _, _, _, _, _, rfl⟩
        · have hC : nn < 1 := by omega
          have d1 : decide (0 < nn) = false := decide_eq_false hB
          have d3 : decide (nn < 1) = true := decide_eq_true hC
          clear hA
          refine wpIn_wide.2 ?_
          go_quiet (first | (go_at_call 17; exact Calls.quiet_of (HQ.out _)))
          exact ⟨rfl, ⟨_, rfl⟩, _, _, _, _, _, _, _, _, _, _, _, _, _, _, _, _, _, _, _, _, _, _, _, _, _, _, _, _, _, _, _, rfl⟩
    rintro ex a' W7 ⟨rfl, ⟨nq, hw7⟩, u29, u30, u31, u32, u33, u34, u35, u36, u37, u38, u39, u40, u41, u42, u43, u44, u45, u46, u47, u48, u49, u50, u51, u52, u53, u54, u55, u56, u57, u58, u59, rfl⟩
    have hb67 : Below W6.heap.size W6 W7 := by rw [hw7]; exact below_drewN (Below.refl _ _) _
    have HB7 : Hid (Below w.heap.size w W7 ∧ Below w4.heap.size w4 W7 ∧ w5.heap.size ≤ D ∧ W7.heap[D]? = some (.deferred (some []))) := by
      have h := HB6.out
      exact ⟨h.1.trans (hb67.mono h.1.size), h.2.1.trans (hb67.mono h.2.1.size), h.2.2.1, (hb67.block D (Array.getElem?_eq_some_iff.1 h.2.2.2).1).trans h.2.2.2⟩
    clear hw7 hb67 HB6 HI8 y0 y1 y4
    have HY : Hid (∀ W, Below W7.heap.size W7 W → W.cell? ⟨w.heap.size + 1, 0, none⟩ = some (.slice a N c) ∧ W.cell? ⟨w.heap.size + 3, 0, none⟩ = some (.func (.func 79) #[] #[.pointer (some ⟨w.heap.size + 2, 0, none⟩)]) ∧ W.cell? ⟨w.heap.size + 2, 0, none⟩ = some (.pointer (some ⟨K, o, none⟩)) ∧ IsE W a l ∧ Below w.heap.size w W) := fun W hb => by
      have hs := HB7.out.2.1.size
      have z1 := (hb.block (w.heap.size + 1) (by omega)).trans ((HB7.out.2.1.block (w.heap.size + 1) (by omega)).trans HW4.out.l)
      have z3 := (hb.block (w.heap.size + 3) (by omega)).trans ((HB7.out.2.1.block (w.heap.size + 3) (by omega)).trans HW4.out.f)
      have hbw := HB7.out.1.trans (hb.mono HB7.out.1.size)
      exact ⟨by rw [cell_of_obj z1]; rfl, by rw [cell_of_obj z3]; rfl, (hb.cell (p := ⟨w.heap.size + 2, 0, none⟩) (by show w.heap.size + 2 < _; omega)).trans ((HB7.out.2.1.cell (p := ⟨w.heap.size + 2, 0, none⟩) (by show w.heap.size + 2 < _; omega)).trans HW4.out.k), HK.out.2.2.1.below hbw, hbw⟩
    have hbA : Below W7.heap.size W7 ((W7.alloc (.cells #[.slice none 0 0] 25)).alloc (.cells #[.bool true] 4)) := ((Below.refl _ _).alloc (Nat.le_refl _) _).alloc (by simp) _
    have gX : ((W7.alloc (.cells #[.slice none 0 0] 25)).alloc (.cells #[.bool true] 4)).heap[W7.heap.size]? = some (.cells #[.slice none 0 0] 25) := (Below.heap_alloc _ _ _ (by simp)).trans (World.alloc_heap_new _ _)
    have gY : ((W7.alloc (.cells #[.slice none 0 0] 25)).alloc (.cells #[.bool true] 4)).heap[W7.heap.size + 1]? = some (.cells #[.bool true] 4) := by
      have := World.alloc_heap_new (W7.alloc (.cells #[.slice none 0 0] 25)) (.cells #[.bool true] 4)
      rwa [World.size_alloc] at this
    have hsA : ((W7.alloc (.cells #[.slice none 0 0] 25)).alloc (.cells #[.bool true] 4)).heap.size = W7.heap.size + 2 := by simp
    have y3 := (HY.out _ hbA).2.1
    have hw5 : w5.heap.size ≤ W7.heap.size := by have h := HB7.out; have := (Array.getElem?_eq_some_iff.1 h.2.2.2).1; omega
    gi_wp2
    generalize ((W7.alloc (.cells #[.slice none 0 0] 25)).alloc (.cells #[.bool true] 4)) = W9 at *
    have H9 : Hid (Col 7 8 W7 W7.heap.size [] (upd (upd (fun _ => 0) (W7.heap.size + 1) 8) W7.heap.size 8) W9 ∧ Okb 8 (W7.heap.size + 1) (upd (upd (fun _ => 0) (W7.heap.size + 1) 8) W7.heap.size 8) W9) := by
      refine ⟨Col.first (Nat.le_refl _) gX hbA (fun b hb => upd_other _ _ (by omega)) (fun b hb => by rw [upd_other _ _ (by omega)]; omega) (fun b ob h ho => ?_), ⟨by rw [cell_of_obj gY]; rfl, froz_of_obj gY, by rw [upd_other _ _ (by omega), upd_same]⟩⟩
      by_cases hbY : b = W7.heap.size + 1
      · subst hbY; rw [gY] at h; cases h; cases ho
      · exact upd_other _ _ hbY
    have HSQ9 : Hid (SeqE (u2 7 8) Fence.wide 19 16 Tryd.prog 79 #[.pointer (some ⟨w.heap.size + 2, 0, none⟩)] encE l W9 (upd (upd (fun _ => 0) (W7.heap.size + 1) 8) W7.heap.size 8)) := by
      have hy := HY.out W9 hbA
      have hs := hy.2.2.2.2.size
      have hs7 := HB7.out.1.size
      have := all_seq (u2 7 8) HU0.out 19 (by decide) (upd (upd (fun _ => 0) (W7.heap.size + 1) 8) W7.heap.size 8) (w.heap.size + 2) K o eb pb W9 (BlkAt.below (BlkAt.up HK.out.1 (fun b hb => by rw [upd_other _ _ (by omega), upd_other _ _ (by omega)]; exact HU0.out)) hy.2.2.2.2) H9.out.1.hi hy.2.2.1
      rw [HK.out.2.1] at this
      exact this
    have qs9 : W7.heap.size ≤ W9.heap.size := by omega
    clear gX gY hbA
    refine range_eB rfl (by decide) (gf := 79) (lb := #[.pointer (some ⟨w.heap.size + 2, 0, none⟩)]) rfl trivial (enters_of Tryd.func79 (by kernel_rfl) rfl)
      (u2 7 8) HU0.out (upd (upd (fun _ => 0) (W7.heap.size + 1) 8) W7.heap.size 8) H9.out.1.hi HSQ9.out (fun _ => rfl)
      (fun es T W => Col 7 8 W7 W7.heap.size es T W ∧ Okb 8 (W7.heap.size + 1) T W) (fun c es T W => False)
      (fun es T A C row h hg hr => ⟨Col.lasts qs9 es T A C row h.1 hg hr, h.2.grown hg (fun x e => (hr x e).2)⟩) (fun c es T A C row h hg hr => h) H9.out
      12 (fun e => #[.string e.1, .int .u64 e.2.1, .bool e.2.2.1, .string e.2.2.2]) 30 ?assign ?body ?done ?stop
    case assign =>
      rintro l_ ⟨ek, es_, ed, ev⟩ es T Wc Kc hi hK
      simp only [encE]
      gi_wp2
      exact ⟨rfl, by simp only [encE, List.zip_toArray, List.zip_cons_cons, List.zip_nil_right, List.foldl_toArray, List.foldl_cons, List.foldl_nil, List.setIfInBounds_toArray, List.set_cons_succ, List.set_cons_zero]⟩
    case body =>
      rintro l_ ⟨ek, es_, ed, ev⟩ es T a' Wc W' Wb hl1 hl2 ⟨ob, ho, hoc⟩ _ ⟨hcol, hok⟩ hz hN9 ⟨rfl, rfl⟩ hg ⟨rl, hrl⟩
      simp only [encE] at *
      have e0 : Wb.heap[Wc.heap.size]? = some (.cells #[.string ek, .int .u64 es_, .bool ed, .string ev] 30) := (hg.block _ (by simp) (fun e => by cases e; omega)).trans (World.alloc_heap_new _ _)
      have c0 : Wb.cell? ⟨Wc.heap.size, 0, none⟩ = some (.string ek) := by rw [cell_of_obj e0]; rfl
      have c1 : Wb.cell? ⟨Wc.heap.size, 1, none⟩ = some (.int .u64 es_) := by rw [cell_of_obj e0]; rfl
      have c2 : Wb.cell? ⟨Wc.heap.size, 2, none⟩ = some (.bool ed) := by rw [cell_of_obj e0]; rfl
      have c3 : Wb.cell? ⟨Wc.heap.size, 3, none⟩ = some (.string ev) := by rw [cell_of_obj e0]; rfl
      obtain ⟨v, lc, lo⟩ := hcol.l
      obtain ⟨a7, c7, rfl, _⟩ := lo.form
      have lf := hcol.fl
      have hlen : es.length < 1000000000000 := by
        have h1 := hN9.length_le
        have := HLL.out
        simp only [List.length_append, List.length_singleton] at h1
        omega
      have HO : Hid (OwnE 7 T Wb (.slice a7 es.length c7) es) := lo
      have HGI : Hid (Col 7 8 W7 W7.heap.size es T Wb ∧ Okb 8 (W7.heap.size + 1) T Wb ∧ Wb.cell? ⟨W7.heap.size, 0, none⟩ = some (.slice a7 es.length c7) ∧ Wb.heap[l_]? = some (.loop rl)) := ⟨hcol, hok, lc, hrl⟩
      clear hcol hok hz hN9 hg ho hoc e0 lo hrl
      have HBA : Hid (Below Wb.heap.size Wb (Wb.alloc (.cells #[.string ek, .int .u64 es_, .bool ed, .string ev] 30))) := (Below.refl _ _).alloc (Nat.le_refl _) _
      have HNW : Hid (IsE (Wb.alloc (.cells #[.string ek, .int .u64 es_, .bool ed, .string ev] 30)) (some ⟨Wb.heap.size, 0, none⟩) [(ek, es_, ed, ev)]) := isE_new9 (x := (ek, es_, ed, ev))
      simp only [encE, List.zip_toArray, List.zip_cons_cons, List.zip_nil_right, List.foldl_toArray, List.foldl_cons, List.foldl_nil, List.setIfInBounds_toArray, List.set_cons_succ, List.set_cons_zero]
      by_cases h2 : es.length ≤ 1
      · have q2 : (es.length : Int) + 1 ≤ 2 := by omega
        gi_wp2_with (gi_at_builtin; go_loud (refine wpListIn_appE _ (by rfl) (.tmp 63) (.tmp 65) 25 (by rfl) i0 Tryd.underlying25 hi0 hz0 hz1 hz2 7 T (.slice a7 es.length c7) es (by rfl) (Erw.OwnE.below HO.out HBA.out) (some ⟨Wb.heap.size, 0, none⟩) 1 1 [(ek, es_, ed, ev)] (by rfl) (by rfl) (by simp) HNW.out (by simp; omega) ?_; intro a9 c9 T9 w9 hown9 hgo9; simp only [List.length_cons, List.length_nil, Nat.zero_add] at hown9 ⊢; obtain ⟨m1, m2, m3, hm⟩ := HGI.out.1.app (B := W7.heap.size + 2) (by omega) (by omega) (by omega) HGI.out.2.2.1 hown9 hgo9; obtain ⟨T10, hm1, hm2, hm3, hm4⟩ := hm; have hok9 := okb_app HGI.out.2.1 (by omega) (by omega) hm4; have f3 := (HY.out _ (hm1.bl.trans (((Below.refl _ _).alloc (Nat.le_refl _) (.cells #[.slice none 0 0] 25)).mono hm1.bl.size))).2.1; have HM : Hid _ := And.intro hm1 (And.intro hm2 (And.intro hm3 hok9)); clear hown9 hgo9 m3 hm1 hm2 hm3 hm4 hok9))
        have HRL : Hid ((w9.setCell ⟨W7.heap.size, 0, none⟩ (.slice a9 (es.length + 1) c9)).heap[l_]? = some (.loop rl)) := HM.out.2.2.1.same l_ _ (by omega) HGI.out.2.2.2 rfl
        have hZn : (w9.setCell ⟨W7.heap.size, 0, none⟩ (.slice a9 (es.length + 1) c9)).heap.size = w9.heap.size := by simp
        generalize (w9.setCell ⟨W7.heap.size, 0, none⟩ (.slice a9 (es.length + 1) c9)) = Wn at *
        clear m1 m2
        generalize w9.heap.size = Z at *
        have gZ : (Wn.alloc (.cells #[.slice none 0 0] 25)).heap[Z]? = some (.cells #[.slice none 0 0] 25) := by rw [← hZn]; exact World.alloc_heap_new _ _
        have hbZ : Below Wn.heap.size Wn (Wn.alloc (.cells #[.slice none 0 0] 25)) := (Below.refl _ _).alloc (Nat.le_refl _) _
        have hsZ : (Wn.alloc (.cells #[.slice none 0 0] 25)).heap.size = Z + 1 := by rw [World.size_alloc, hZn]
        generalize (Wn.alloc (.cells #[.slice none 0 0] 25)) = W10 at *
        have H10 : Hid (Col 7 8 Wn Z [] (upd (fun _ => 0) Z 8) W10) := Col.first (by omega) gZ hbZ (fun _ _ => rfl) (fun _ _ => by omega) (fun _ _ _ _ => rfl)
        have HB7n : Hid (Below W7.heap.size W7 Wn) := HM.out.1.bl
        have HB710 : Hid (Below W7.heap.size W7 W10 ∧ Below Wn.heap.size Wn W10) := ⟨HB7n.out.trans (hbZ.mono HB7n.out.size), hbZ⟩
        have HRL10 : Hid (W10.heap[l_]? = some (.loop rl)) := (hbZ.block l_ (Array.getElem?_eq_some_iff.1 HRL.out).1).trans HRL.out
        have HSI : Hid (SeqE (u2 7 8) (Fence.wide.inRound l_) 15 12 Tryd.prog 79 #[.pointer (some ⟨w.heap.size + 2, 0, none⟩)] encE l W10 (upd (fun _ => 0) Z 8)) := by
          have hy := HY.out W10 HB710.out.1
          have hs7 := HB7.out.1.size
          have hs8 := HB7n.out.size
          have := all_seq (u2 7 8) HU0.out 15 (by decide) (upd (fun _ => 0) Z 8) (w.heap.size + 2) K o eb pb W10 (BlkAt.below (BlkAt.up HK.out.1 (fun b hb => by rw [upd_other _ _ (by omega)]; exact HU0.out)) hy.2.2.2.2) H10.out.hi hy.2.2.1
          rw [HK.out.2.1] at this
          exact this
        have qs10 : Wn.heap.size ≤ W10.heap.size := by omega
        clear gZ hbZ f3 q2 h2 HRL
        refine range_nB (l₀ := l_) (r₀ := rl) rfl HRL10.out (by decide) (gf := 79) (lb := #[.pointer (some ⟨w.heap.size + 2, 0, none⟩)]) rfl trivial (enters_of Tryd.func79 (by kernel_rfl) rfl)
          (u2 7 8) HU0.out (upd (fun _ => 0) Z 8) H10.out.hi HSI.out (fun _ => rfl)
          (fun es T W => Col 7 8 Wn Z es T W) (fun c es T W => False)
          (fun es T A C row h hg hr => Col.lasts qs10 es T A C row h hg hr) (fun c es T A C row h hg hr => h) H10.out
          14 (fun e => #[.string e.1, .int .u64 e.2.1, .bool e.2.2.1, .string e.2.2.2]) 30 ?assign2 ?body2 ?done2 ?stop2
        case assign2 =>
          rintro l2 ⟨fk, fs, fd, fv⟩ gs Tn Wcc Kc hi hK
          simp only [encE]
          gi_wp2
          exact ⟨rfl, by simp only [encE, List.zip_toArray, List.zip_cons_cons, List.zip_nil_right, List.foldl_toArray, List.foldl_cons, List.foldl_nil, List.setIfInBounds_toArray, List.set_cons_succ, List.set_cons_zero]⟩
        case body2 =>
          rintro l2 ⟨fk, fs, fd, fv⟩ gs Tn a' Wcc W' Wbb hl3 hl4 ⟨ob, ho, hoc⟩ _ hcol hz hN9 ⟨rfl, rfl⟩ hg
          simp only [encE] at *
          have e0 : Wbb.heap[Wcc.heap.size]? = some (.cells #[.string fk, .int .u64 fs, .bool fd, .string fv] 30) := (hg.block _ (by simp) (fun e => by cases e; omega)).trans (World.alloc_heap_new _ _)
          have b0 : Wbb.cell? ⟨Wcc.heap.size, 0, none⟩ = some (.string fk) := by rw [cell_of_obj e0]; rfl
          have b1 : Wbb.cell? ⟨Wcc.heap.size, 1, none⟩ = some (.int .u64 fs) := by rw [cell_of_obj e0]; rfl
          have b2 : Wbb.cell? ⟨Wcc.heap.size, 2, none⟩ = some (.bool fd) := by rw [cell_of_obj e0]; rfl
          have b3 : Wbb.cell? ⟨Wcc.heap.size, 3, none⟩ = some (.string fv) := by rw [cell_of_obj e0]; rfl
          obtain ⟨v, kc, ko⟩ := hcol.l
          obtain ⟨a6, c6, rfl, _⟩ := ko.form
          have kf := hcol.fl
          have hlen2 : gs.length < 1000000000000 := by
            have h1 := hN9.length_le
            have := HLL.out
            simp only [List.length_append, List.length_singleton] at h1
            omega
          have HO2 : Hid (OwnE 7 Tn Wbb (.slice a6 gs.length c6) gs) := ko
          have HGI2 : Hid (Col 7 8 Wn Z gs Tn Wbb ∧ Wbb.cell? ⟨Z, 0, none⟩ = some (.slice a6 gs.length c6)) := ⟨hcol, kc⟩
          clear hcol hz hN9 hg ho hoc e0 ko
          have HBA2 : Hid (Below Wbb.heap.size Wbb (Wbb.alloc (.cells #[.string fk, .int .u64 fs, .bool fd, .string fv] 30))) := (Below.refl _ _).alloc (Nat.le_refl _) _
          have HNW2 : Hid (IsE (Wbb.alloc (.cells #[.string fk, .int .u64 fs, .bool fd, .string fv] 30)) (some ⟨Wbb.heap.size, 0, none⟩) [(fk, fs, fd, fv)]) := isE_new9 (x := (fk, fs, fd, fv))
          simp only [encE, List.zip_toArray, List.zip_cons_cons, List.zip_nil_right, List.foldl_toArray, List.foldl_cons, List.foldl_nil, List.setIfInBounds_toArray, List.set_cons_succ, List.set_cons_zero]
          gi_wp2_with (gi_at_builtin; go_loud (refine wpListIn_appE _ (by rfl) (.tmp 72) (.tmp 74) 25 (by rfl) i0 Tryd.underlying25 hi0 hz0 hz1 hz2 7 Tn (.slice a6 gs.length c6) gs (by rfl) (Erw.OwnE.below HO2.out HBA2.out) (some ⟨Wbb.heap.size, 0, none⟩) 1 1 [(fk, fs, fd, fv)] (by rfl) (by rfl) (by simp) HNW2.out (by simp; omega) ?_; intro a9 c9 T9 w9 hown9 hgo9; simp only [List.length_cons, List.length_nil, Nat.zero_add] at hown9 ⊢; obtain ⟨m1, m2, m3, hm⟩ := HGI2.out.1.app (B := W10.heap.size) (by omega) (by omega) (by omega) HGI2.out.2 hown9 hgo9; obtain ⟨T11, hm1, hm2, hm3, hm4⟩ := hm; have HM2 : Hid _ := And.intro hm1 (And.intro hm2 hm3); clear hown9 hgo9 m3 hm1 hm2 hm3 hm4))
          exact ⟨T11, HM2.out.1, HM2.out.2.1, HM2.out.1.hi, HM2.out.2.2⟩
        case done2 =>
          rintro Tq Wq hq
          have hfS : Fence.wide.fn 17 := trivial
          obtain ⟨aq, cq, yq, hiq, _, _⟩ := hq.done
          rw [HLL.out] at yq
          have hbq : Below Wn.heap.size Wn Wq := hq.bl
          have HB7q : Hid (Below W7.heap.size W7 Wq ∧ Below Wn.heap.size Wn Wq) := ⟨HB7n.out.trans (hbq.mono HB7n.out.size), hbq⟩
          have kY := (HM.out.2.2.2.below hbq).c
          have kF := (HM.out.2.2.2.below hbq).f
          have kW := (HY.out Wq HB7q.out.1).1
          have HSE : Hid (Calls Tryd.prog 17 #[.slice aq N cq, .slice a N c] Wq fun e w' => e = .returned (.bool true) ∧ ∃ m, w' = Wq.drewN m) := sameEntries_drew aq a cq c N N l Wq hiq (HY.out Wq HB7q.out.1).2.2.2.1 HLL.out.symm HLL.out.symm (by omega)
          clear hq hbq hiq
          gi_wp2_with (gi_at_call 17; go_loud (refine CallsIn.mono (callsIn_wide.2 HSE.out) ?_; rintro e w11 ⟨rfl, q11, hq11⟩; have jY : w11.cell? ⟨W7.heap.size + 1, 0, none⟩ = some (.bool true) := (by rw [hq11]; exact kY); have jF : w11.frozen? ⟨W7.heap.size + 1, 0, none⟩ = false := (by rw [hq11]; exact kF); have HB11 : Hid (Below Wn.heap.size Wn w11) := (by rw [hq11]; exact below_drewN HB7q.out.2 _); clear hq11))
          have hcl := HM.out.1.below HB11.out
          have hgo := HM.out.2.1.trans ((Goes.below (t := u2 7 8) HB11.out).trans (Goes.setCell (T := T10) (w := w11) (p := W7.heap.size + 1) (j := 0) (v := .bool true) (.inr HM.out.2.2.2.tg)))
          exact ⟨T10, ⟨hcl.set2 jY (by omega) HM.out.2.2.2.tg (by omega) (by omega), (HM.out.2.2.2.below HB11.out).set⟩, hgo, fun b hb => hcl.hi b (by simpa using hb), keeps_of hgo HGI.out.1.nc HU0.out _⟩
        case stop2 =>
          rintro c' gs Tq Wq _ h
          exact h.elim
      · have q2 : ¬ ((es.length : Int) + 1 ≤ 2) := by omega
        gi_wp2_with (gi_at_builtin; go_loud (refine wpListIn_appE _ (by rfl) (.tmp 63) (.tmp 65) 25 (by rfl) i0 Tryd.underlying25 hi0 hz0 hz1 hz2 7 T (.slice a7 es.length c7) es (by rfl) (Erw.OwnE.below HO.out HBA.out) (some ⟨Wb.heap.size, 0, none⟩) 1 1 [(ek, es_, ed, ev)] (by rfl) (by rfl) (by simp) HNW.out (by simp; omega) ?_; intro a9 c9 T9 w9 hown9 hgo9; simp only [List.length_cons, List.length_nil, Nat.zero_add] at hown9 ⊢; obtain ⟨m1, m2, m3, hm⟩ := HGI.out.1.app (B := W7.heap.size + 2) (by omega) (by omega) (by omega) HGI.out.2.2.1 hown9 hgo9; obtain ⟨T10, hm1, hm2, hm3, hm4⟩ := hm; have hok9 := okb_app HGI.out.2.1 (by omega) (by omega) hm4; have HM : Hid _ := And.intro hm1 (And.intro hm2 (And.intro hm3 hok9)); clear hown9 hgo9 m3 hm1 hm2 hm3 hm4 hok9))
        exact ⟨T10, ⟨HM.out.1, HM.out.2.2.2⟩, HM.out.2.1, HM.out.1.hi, HM.out.2.2.1⟩
    case done =>
      rintro D2 T Wd hD2 ⟨hcol, hok⟩ hDd2
      have hfS : Fence.wide.fn 17 := trivial
      obtain ⟨aq, cq, yq, hiq, _, _⟩ := hcol.done
      rw [HLL.out] at yq
      have hbq : Below W7.heap.size W7 Wd := hcol.bl
      have kY := hok.c
      have kW := (HY.out Wd hbq).1
      have HSE : Hid (Calls Tryd.prog 17 #[.slice aq N cq, .slice a N c] Wd fun e w' => e = .returned (.bool true) ∧ ∃ m, w' = Wd.drewN m) := sameEntries_drew aq a cq c N N l Wd hiq (HY.out Wd hbq).2.2.2.1 HLL.out.symm HLL.out.symm (by omega)
      have HBD : Hid (Below w.heap.size w Wd ∧ Wd.heap[D]? = some (.deferred (some [])) ∧ Wd.heap[D2]? = some (.deferred (some [])) ∧ w.heap.size ≤ D ∧ w.heap.size ≤ D2 ∧ D ≠ D2) := by
        have h := HB7.out
        have hlt := (Array.getElem?_eq_some_iff.1 h.2.2.2).1
        have hs := h.1.size
        exact ⟨(HY.out Wd hbq).2.2.2.2, (hbq.block D hlt).trans h.2.2.2, hDd2, by have := h.2.2.1; omega, by omega, by omega⟩
      clear hcol hok hbq hiq hDd2 hD2
      dsimp only
      gi_wp2_with (gi_at_call 17; go_loud (refine CallsIn.mono (callsIn_wide.2 HSE.out) ?_; rintro e w11 ⟨rfl, q11, hq11⟩; have HB11 : Hid (Below w.heap.size w w11 ∧ w11.heap[D]? = some (.deferred (some [])) ∧ w11.heap[D2]? = some (.deferred (some []))) := (by rw [hq11]; exact ⟨below_drewN HBD.out.1 _, HBD.out.2.1, HBD.out.2.2.1⟩); clear hq11))
      refine leaves_marks (B0 := w.heap.size) [D2, D] _ (by
        intro E hE
        rcases List.mem_cons.1 hE with rfl | hE
        · exact ⟨HBD.out.2.2.2.2.1, HB11.out.2.2⟩
        · rw [List.mem_singleton.1 hE]
          exact ⟨HBD.out.2.2.2.1, HB11.out.2.1⟩) (by have := HBD.out.2.2.2.2.2; simp; omega) (fun w' hb hk => ?_)
      refine ⟨.bool true, ?_, rfl, HB11.out.1.trans hb⟩
      simp [results, Tryd.results24, go_sem]
    case stop =>
      rintro D2 c' es T W hD hpre h
      exact h.elim
end Qb
end Go.Proofs.YtkebbmdghnplmaaDoor
