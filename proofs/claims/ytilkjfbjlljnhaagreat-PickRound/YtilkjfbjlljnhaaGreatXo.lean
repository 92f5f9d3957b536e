import Derived.Test.YtilkjfbjlljnhaaGreatXn
namespace Go.Proofs.YtilkjfbjlljnhaaGreat
namespace Vr
open Go.Shelf Go.RowKit Go.Lib Go.Sort Go.Maps Go.ChangeMaps Go.MapKept Laws Irw Crw
set_option linter.unusedVariables false
set_option linter.unusedSimpArgs false
set_option maxRecDepth 20000
theorem VAt.apart' {w w' : World} {A vb : Nat} {V : Lv} (h : VAt w vb V) (hA : ∀ off v, w.cell? ⟨A, off, none⟩ = some v → NoVer v) (hk : ∀ b, b < w.heap.size → b ≠ A → w'.heap[b]? = w.heap[b]?) (hs : w.heap.size ≤ w'.heap.size) : VAt w' vb V := by
  obtain ⟨hf, s, hz, h1, vs, h2, h3, h4⟩ := h
  refine ⟨hf, s, hz.keep (hk vb hz.1 ?_) hs, h1, vs, h2, fun hne => ?_, fun i v l hv hl => ?_⟩
  · rintro rfl
    exact (hA 0 _ (hz.2.1 0 _ rfl)).1 _ _ _ rfl
  · obtain ⟨b, off, e, hr⟩ := h3 hne
    refine ⟨b, off, e, hr.keep (hk b hr.1 ?_) hs⟩
    rintro rfl
    obtain ⟨x, hx⟩ : ∃ x, vs[0]? = some x := by
      cases vs with
      | nil => exact absurd rfl hne
      | cons x r => exact ⟨x, rfl⟩
    exact (hA _ _ (hr.2 0 x hx 0 _ rfl)).1 _ _ _ rfl
  · have hL := h4 i v l hv hl
    refine ⟨fun hne => ?_, hL.2⟩
    obtain ⟨b, off, e, hr⟩ := hL.1 hne
    refine ⟨b, off, e, hr.keep (hk b hr.1 ?_) hs⟩
    rintro rfl
    obtain ⟨x, hx⟩ : ∃ x, l[0]? = some x := by
      cases l with
      | nil => exact absurd rfl hne
      | cons x r => exact ⟨x, rfl⟩
    exact (hA _ _ (hr.2 0 x hx 0 _ rfl)).2 _ rfl
/-- the tables that were told in k calls -/
def tk (L : List Tb) (j k : Nat) : List Tb := (List.range k).map fun m => L.getD (turn L j m) noT
theorem tk_len (L : List Tb) (j k : Nat) : (tk L j k).length = k := by simp [tk]
theorem tk_succ {L : List Tb} {j k : Nat} {t : Tb} (h : L[turn L j k]? = some t) : tk L j (k + 1) = tk L j k ++ [t] := by
  unfold tk
  rw [List.range_succ, List.map_append]
  congr 1
  simp [List.getD, h]
theorem tk_new {L : List Tb} {j k : Nat} {t : Tb} (hn : (L.map Tb.no).Nodup) (hj : j < L.length) (hk : k < L.length) (h : L[turn L j k]? = some t) : tin (tk L j k) t.no = false := by
  unfold tin
  rw [decide_eq_false_iff_not]
  intro hm
  rw [List.mem_map] at hm
  obtain ⟨x, hx, he⟩ := hm
  unfold tk at hx
  rw [List.mem_map] at hx
  obtain ⟨m, hm, rfl⟩ := hx
  rw [List.mem_range] at hm
  have h1 := turn_lt (l := L) (j := j) (k := m) hj (by omega)
  have h2 := turn_lt (l := L) (j := j) (k := k) hj hk
  have e1 : L.getD (turn L j m) noT = L[turn L j m] := by simp [List.getD, h1]
  have e2 : L[turn L j k] = t := by
    have := List.getElem?_eq_some_iff.1 h
    exact this.2
  rw [e1, ← e2] at he
  have hp := List.pairwise_iff_getElem.1 hn
  have hne : turn L j m ≠ turn L j k := fun e => by
    have := turn_inj hj (by omega) hk e
    omega
  rcases Nat.lt_or_gt_of_ne hne with hh | hh
  · exact hp _ _ (by simpa using h1) (by simpa using h2) hh (by simpa using he)
  · exact hp _ _ (by simpa using h2) (by simpa using h1) hh (by simpa using he.symm)
/-- the pointers: all empty but one -/
def pts (n i : Nat) (q : ByteArray) : List ByteArray := (List.replicate n ⟨#[]⟩).set i q
theorem pts_len (n i : Nat) (q : ByteArray) : (pts n i q).length = n := by simp [pts]
theorem pts_at {n i : Nat} (h : i < n) (q : ByteArray) : ptr (pts n i q) i = q := by simp [ptr, pts, h]
theorem pts_set (n i : Nat) (q q' : ByteArray) : (pts n i q).set i q' = pts n i q' := by simp [pts]
theorem kT_cells (l : List ByteArray) : kT.cells l = l.map Value.string := by
  induction l with
  | nil => rfl
  | cons x r ih => rw [Knd.cells, ih]; rfl
theorem cells_pts (n i : Nat) (q q' : ByteArray) : (kT.cells (pts n i q)).set i (.string q') = kT.cells (pts n i q') := by
  rw [kT_cells, kT_cells, ← List.map_set, pts_set]
/-- what stands while it is asked round and round -/
structure PS (w w7 : World) (c : Cf) (P B vb : Nat) (V : Lv) (n i : Nat) (L : List Tb) (j k : Nat) (T : Nat → Nat) (s : Sv) (q : ByteArray) (W : World) : Prop where
  keep : ∀ b, b < w7.heap.size → b ≠ P → W.heap[b]? = w7.heap[b]?
  size : w7.heap.size ≤ W.heap.size
  p : Zb W P (kT.cells (pts n i q))
  own : OwnK kTb 3 T W (svV s) (tk L j k)
  zero : ∀ b, b < w7.heap.size ∨ W.heap.size ≤ b → T b = 0
  bw : RowKit.Below w.heap.size w W ∧ w.heap.size ≤ P ∧ w.heap.size ≤ w7.heap.size
  next : k < L.length → beh L q = turn L j k
/-- .. and ahead of it -/
structure P7 (w7 : World) (c : Cf) (P B vb : Nat) (V : Lv) : Prop where
  v : VAt w7 vb V
  c : Lc w7 B c
  b : B < w7.heap.size
  bp : B ≠ P
  pl : P < w7.heap.size
  pn : ∀ off v, w7.cell? ⟨P, off, none⟩ = some v → NoVer v
theorem PS.ver {w w7 W : World} {c : Cf} {P B vb : Nat} {V : Lv} {n i : Nat} {L : List Tb} {j k : Nat} {T : Nat → Nat} {s : Sv} {q : ByteArray} (h : PS w w7 c P B vb V n i L j k T s q W) (h7 : P7 w7 c P B vb V) : VAt W vb V := h7.v.apart' h7.pn h.keep h.size
theorem PS.cfg {w w7 W : World} {c : Cf} {P B vb : Nat} {V : Lv} {n i : Nat} {L : List Tb} {j k : Nat} {T : Nat → Nat} {s : Sv} {q : ByteArray} (h : PS w w7 c P B vb V n i L j k T s q W) (h7 : P7 w7 c P B vb V) : Lc W B c := fun m v hv => (World.cell?_of_block (a := ⟨B, 0 + m, none⟩) (h.keep B h7.b h7.bp)).trans (h7.c m v hv)
theorem PS.ptrs {w w7 W : World} {c : Cf} {P B vb : Nat} {V : Lv} {n i : Nat} {L : List Tb} {j k : Nat} {T : Nat → Nat} {s : Sv} {q : ByteArray} (h : PS w w7 c P B vb V n i L j k T s q W) : Ls kT W (some ⟨P, 0, none⟩, n, n) (pts n i q) := ⟨isK_zb h.p, (pts_len n i q).symm, by simp, by rw [pts_len]; exact Nat.le_refl _, .inr ⟨_, _, rfl⟩⟩
theorem PS.below {w w7 W W' : World} {c : Cf} {P B vb : Nat} {V : Lv} {n i : Nat} {L : List Tb} {j k : Nat} {T : Nat → Nat} {s : Sv} {q : ByteArray} (h : PS w w7 c P B vb V n i L j k T s q W) (hb : RowKit.Below W.heap.size W W') : PS w w7 c P B vb V n i L j k T s q W' :=
  ⟨fun b hb' hP => (hb.block b (Nat.lt_of_lt_of_le hb' h.size)).trans (h.keep b hb' hP), Nat.le_trans h.size hb.size, h.p.below hb, h.own.below hb, fun b hb' => h.zero b (by rcases hb' with h1 | h1; exact .inl h1; exact .inr (Nat.le_trans hb.size h1)), ⟨h.bw.1.trans (hb.mono h.bw.1.size), h.bw.2⟩, h.next⟩
/-- one table more, and the pointer behind it -/
theorem PS.turn {w w7 W W' : World} {c : Cf} {P B vb : Nat} {V : Lv} {n i : Nat} {L : List Tb} {j k : Nat} {T T' : Nat → Nat} {s : Sv} {q : ByteArray} {t : Tb} {a : Option Addr} {ca : Nat} (h : PS w w7 c P B vb V n i L j k T s q W) (h7 : P7 w7 c P B vb V) (hi : i < n) (ht : L[turn L j k]? = some t) (hj : j < L.length) (hA : Apart L) (hH : Hull L)
    (ho : OwnK kTb 3 T' W' (.slice a (k + 1) ca) (tk L j k ++ [t])) (hg : Goes (· = 3) T W T' W') : PS w w7 c P B vb V n i L j (k + 1) T' (a, k + 1, ca) t.gr (W'.setCell ⟨P, i, none⟩ (.string t.gr)) := by
  have hTP : T P = 0 := h.zero P (.inl h7.pl)
  have hP' : T' P = 0 := (hg.tag P h.p.1 (by rw [hTP]; decide)).trans hTP
  have hp : Zb W' P (kT.cells (pts n i q)) := h.p.goes hg (by rw [hTP]; decide)
  have hgs : Goes (· = 0) T' W' T' (W'.setCell ⟨P, i, none⟩ (.string t.gr)) := Goes.setCell hP'
  refine ⟨fun b hb hne => ?_, ?_, ?_, ?_, fun b hb => ?_, ⟨(below_goes h.bw.1 (fun b hb => h.zero b (.inl (Nat.lt_of_lt_of_le hb h.bw.2.2))) hg (by decide)).setCell (p := ⟨P, i, none⟩) h.bw.2.1 _, h.bw.2⟩, fun hk => turn_next hA hH hj hk ht⟩
  · rw [Below.heap_setCell W' _ _ b hne]
    exact (hg.block b (Nat.lt_of_lt_of_le hb h.size) (by rw [h.zero b (.inl hb)]; decide)).trans (h.keep b hb hne)
  · have := hg.size
    have := h.size
    simp
    omega
  · rw [← cells_pts n i q t.gr]
    exact hp.set i _
  · rw [tk_succ ht]
    exact ho.goes hgs (by decide)
  · rcases hb with hb | hb
    · exact (hg.tag b (Nat.lt_of_lt_of_le hb h.size) (by rw [h.zero b (.inl hb)]; decide)).trans (h.zero b (.inl hb))
    · have hb2 : W'.heap.size ≤ b := by simpa using hb
      exact hg.high b hb2 (h.zero b (.inr (Nat.le_trans hg.size hb2)))
set_option maxHeartbeats 4000000 in
theorem round_any (c : Cf) (hR : In64 c) (la : Option Addr) (ll lc : Nat) (l : List Pi) (p : ByteArray) (at_ : Int) (w : World) (hl : IsK kPi w la l) (hll : l.length = ll) (hmx : ll ≤ Z48) (hp : PiR l) (hps : p.size ≤ Z48) (hat : R64 at_) :
    Calls Tryz.prog 3 #[.agg (cfgA c), .slice la ll lc, .string p, .int .i64 at_] w fun e w' => e = .returned (.bool true) ∧ RowKit.Below w.heap.size w w' := by
  obtain ⟨iz, hi, hz0, hz1, hz2⟩ := info_parts infoTb
  obtain ⟨W0, hW0⟩ : ∃ X, w.alloc (Obj.cells (cfgA c) 23) = X := ⟨_, rfl⟩
  have H0 : Hid (RowKit.Below w.heap.size w W0 ∧ Zb W0 w.heap.size (cfgA c).toList) := by
    subst hW0
    exact ⟨(Below.refl _ _).alloc (Nat.le_refl _) _, Zb.new w _ _⟩
  have HA := hidV (And.intro hl (And.intro hp (And.intro hps hat)))
  have HR := hidV hR
  have HKn := hidV (known_any W0)
  clear hl hp hps hat hR
  go_enter Tryz.func3, Tryz.ntmps3
  go_upto_region 1 with (fail)
  (try rw [hW0])
  clear hW0
  go_upto_region 3 with (go_at_call 4; go_loud (refine HKn.out.mono ?_; rintro e w1 ⟨rfl, hb1⟩; have H1 := hidV hb1; clear hb1))
  clear HKn
  have HFw : Hid (Calls Tryz.prog 5 #[.slice la ll lc, .slice (some ⟨w1.heap.size, 0, none⟩) 1 1] (w1.alloc (Obj.cells #[.string p] 9)) fun e w' => FwIs ll (w1.alloc (Obj.cells #[.string p] 9)) e w') := few_any la ll lc (some ⟨w1.heap.size, 0, none⟩) 1 [p] _ (ls_strs w1 [p] _ rfl 1 rfl) hmx (by unfold Z48; simp) (fun x hx => by simp at hx; subst hx; exact HA.out.2.2.1)
  go_upto_if 23 with (go_at_call 5; go_loud (refine HFw.out.mono ?_; rintro e w2 ⟨bo, rfl, hbo, hb2⟩; have H2 : Hid ((bo = true → ll ≤ 10000) ∧ RowKit.Below w1.heap.size w1 w2) := ⟨hbo, ((Below.refl _ _).alloc (Nat.le_refl _) _).trans (hb2.mono (by simp))⟩; clear hbo hb2))
  clear HFw
  cases bo with
  | false =>
    have HBf : Hid (RowKit.Below w.heap.size w w2) := by
      have h1 := H1.out.trans (H2.out.2.mono H1.out.size)
      exact H0.out.1.trans (h1.mono H0.out.1.size)
    go_wp2
    go_ret
    exact ⟨rfl, HBf.out⟩
  | true =>
    have hl4 : ll ≤ 10000 := H2.out.1 rfl
    have HB2 : Hid (RowKit.Below W0.heap.size W0 w2) := H1.out.trans (H2.out.2.mono H1.out.size)
    have hLc : Lc w2 w.heap.size c := fun j v hv => by rw [Nat.zero_add]; exact (H0.out.2.below HB2.out).2.1 j v hv
    have HRi := hidV (right_any c HR.out w2)
    go_upto_region 6 with (first
      | (refine wpList_cfg (by rfl) _ (by rfl) (by rfl) hLc ?_)
      | (go_at_call 6; go_loud (refine HRi.out.mono ?_; rintro e w4 ⟨c', n, rfl, hcr, hin, hb4⟩; have H4 : Hid (Zb w4 w.heap.size (cfgA c).toList ∧ Cr c' n ∧ RowKit.Below w.heap.size w w4) := ⟨(H0.out.2.below HB2.out).below hb4, hcr, (H0.out.1.trans (HB2.out.mono H0.out.1.size)).trans (hb4.mono (Nat.le_trans H0.out.1.size HB2.out.size))⟩; have hth : w4.there w.heap.size 0 (cfgA c').size := (fun j hj => (by rw [Nat.zero_add]; obtain ⟨u, hu⟩ := H4.out.1.some (k := j) (by rw [cfgA_len]; exact hj); exact ⟨by rw [hu]; rfl, H4.out.1.2.2 j⟩)); clear hcr hin hb4))
      | (refine wpList_store_mid (by rfl) 23 _ _ (by rfl) w.heap.size 0 (cfgA c') (by rfl) (by rfl) hth (by rw [← Array.length_toList]; exact Lc.info c') (by simp [cfgA, Value.oneCell']) ?_))
    obtain ⟨w5, hw5⟩ : ∃ X, w4.setCells w.heap.size 0 (cfgA c').toList = X := ⟨_, rfl⟩
    have H5 : Hid (Zb w5 w.heap.size (cfgA c').toList ∧ RowKit.Below w.heap.size w w5) := by
      subst hw5
      rw [setCells_sets]
      exact ⟨H4.out.1.sets (by rw [cfgA_len, cfgA_len]; exact Nat.le_refl _), below_sets (Nat.le_refl _) _ _ _ H4.out.2.2⟩
    rw [hw5]
    have HCr := hidV H4.out.2.1
    clear hw5 hth hLc HRi H4 HB2
    have hL5 : Lc w5 w.heap.size c' := fun j v hv => by rw [Nat.zero_add]; exact H5.out.1.2.1 j v hv
    have HBu := hidV (built_any c' n HCr.out la ll lc l w5 (HA.out.1.below H5.out.2) hll (by omega) HA.out.2.1)
    go_upto_region 9 with (first
      | (refine wpList_cfg (by rfl) _ (by rfl) (by rfl) hL5 ?_)
      | (go_at_call 7; go_loud (refine HBu.out.mono ?_; rintro e w6 ⟨vb, V, ⟨sa, sn, sc⟩, rfl, hv6, hbl, hb6⟩; have H6 : Hid (VAt w6 vb V ∧ Bl V n 400 ∧ Zb w6 w.heap.size (cfgA c').toList) := ⟨hv6, hbl, H5.out.1.below hb6⟩; have H6b : Hid (RowKit.Below w.heap.size w w6) := H5.out.2.trans (hb6.mono H5.out.2.size); clear hv6 hbl hb6; simp only [svV])))
    clear hL5 HBu H5
    have hn3 := HCr.out.n3
    have hn5 := HCr.out.n5
    have c8 : w6.cell? ⟨w.heap.size, 8, none⟩ = some (.int .i64 (n : Int)) := by
      have := H6.out.2.2.2.1 8 (.int .i64 (n : Int)) (by rw [← HCr.out.lv]; rfl)
      exact this
    obtain ⟨i, hi1, hi2, hiw, hPl⟩ : ∃ i : Nat, 1 ≤ i ∧ i + 1 < n ∧ ∃ q : Int, IntKind.i64.wrap (1 + q) = (i : Int) ∧ ∀ W, Calls Tryz.prog 8 #[.int .i64 at_, .int .i64 ((n : Int) - 2)] W fun e w' => e = .returned (.int .i64 q) ∧ w' = W := by
      have hq := plc_lt at_ (show 0 < (n : Int) - 2 by omega)
      refine ⟨(1 + plc at_ ((n : Int) - 2)).toNat, by omega, by omega, plc at_ ((n : Int) - 2), ?_, fun W => place_any at_ _ W HA.out.2.2.2 (by omega)⟩
      rw [IntWalk.i64_in _ (by omega)]
      omega
    obtain ⟨qw, HPl⟩ := hPl
    have HPl2 := hidV HPl
    clear HPl
    have qn : IntKind.i64.wrap ((n : Int) - 2) = (n : Int) - 2 := IntWalk.i64_in _ (by omega)
    have hVl : V.length = n := H6.out.2.1.len
    obtain ⟨L, hL⟩ : ∃ L, V[i]? = some L := ⟨_, List.getElem?_eq_getElem (by omega)⟩
    have HL := hidV hL
    have HTb : Hid (Calls Tryz.prog 9 #[.pointer (some ⟨vb, 0, none⟩), .int .i64 (i : Int)] w6 fun e w' => ∃ G, e = .returned (.slice (some ⟨G, 0, none⟩) L.length L.length) ∧ RowKit.Below w6.heap.size w6 w') := (tables_any vb V i w6 H6.out.1).mono fun e w' ⟨s, he, ⟨G, hs, _⟩, hb⟩ => by
      rw [lev_in HL.out] at hs
      subst hs
      exact ⟨G, he, hb⟩
    have hlen : L.length ≤ 1000000 := H6.out.1.1.2 L (List.mem_of_getElem? hL)
    have k2 := run_make_row' (P := Tryz.prog) 27 9 (.string ⟨#[]⟩) 16 Tryz.underlying27 infoT rfl .i64 .i64 n (by omega) (by omega)
    clear hL
    go_upto_region 10 with (go_at_call 8; go_loud (refine (HPl2.out _).mono ?_; rintro e w99 ⟨rfl, hw99⟩; have hw98 := hw99.symm; clear hw99; subst hw98))
    go_upto_region 11 with (go_at_call 9; go_loud (refine HTb.out.mono ?_; rintro e w7 ⟨G, rfl, hb7⟩; have H7 := hidV hb7; have d8 : w7.cell? ⟨w.heap.size, 8, none⟩ = some (.int .i64 (n : Int)) := (hb7.cell (p := ⟨w.heap.size, 8, none⟩) H6.out.2.2.1).trans c8; clear hb7))
    clear HTb
    go_upto_region 12 with (fail)
    obtain ⟨W8, hW8⟩ : ∃ X, w7.alloc (Obj.cells (madeCells #[.string ⟨#[]⟩] n) 9) = X := ⟨_, rfl⟩
    have H8 : Hid (RowKit.Below w7.heap.size w7 W8 ∧ Zb W8 w7.heap.size (kT.cells (List.replicate n ⟨#[]⟩)) ∧ W8.heap[w7.heap.size]? = some (Obj.cells (madeCells #[.string ⟨#[]⟩] n) 9)) := by
      subst hW8
      refine ⟨(Below.refl _ _).alloc (Nat.le_refl _) _, ?_, World.alloc_heap_new _ _⟩
      have := Zb.new w7 (madeCells #[.string ⟨#[]⟩] n) 9
      rw [toList_madeCells_one] at this
      rw [cellsT_nil]
      exact this
    rw [hW8]
    clear hW8
    have m0 : W8.cell? ⟨w7.heap.size, i, none⟩ = some (.string ⟨#[]⟩) := H8.out.2.1.2.1 i _ (by rw [cellsT_nil, List.getElem?_replicate, if_pos (by omega)])
    have f0 := H8.out.2.1.2.2 i
    have qi : (i : Int) < (n : Int) := by omega
    go_upto_region 13 with (fail)
    obtain ⟨W9, hW9⟩ : ∃ X, W8.setCell ⟨w7.heap.size, i, none⟩ (.string p) = X := ⟨_, rfl⟩
    obtain ⟨j, hj⟩ : ∃ j, beh L p = j := ⟨_, rfl⟩
    have H9 : Hid (P7 W9 c' w7.heap.size w.heap.size vb V ∧ PS w W9 c' w7.heap.size w.heap.size vb V n i L j 0 (fun _ => 0) nS p W9 ∧ (0 < L.length → j < L.length)) := by
      have hb9 : RowKit.Below w7.heap.size w7 W9 := by rw [← hW9]; exact H8.out.1.setCell (p := ⟨w7.heap.size, i, none⟩) (Nat.le_refl _) _
      have hw : w.heap.size < w7.heap.size := Nat.lt_of_lt_of_le H6.out.2.2.1 H7.out.size
      have hbw9 : RowKit.Below w.heap.size w W9 := by
        have h1 := H7.out.trans (hb9.mono H7.out.size)
        exact H6b.out.trans (h1.mono H6b.out.size)
      have hzp : Zb W9 w7.heap.size (kT.cells (pts n i p)) := by
        rw [← hW9]
        have h1 := H8.out.2.1.set i (.string p)
        have e : (kT.cells (List.replicate n ⟨#[]⟩)).set i (.string p) = kT.cells (pts n i p) := by rw [kT_cells, kT_cells, ← List.map_set]; rfl
        rw [e] at h1
        exact h1
      refine ⟨⟨(H6.out.1.below H7.out).below hb9, ?_, Nat.lt_of_lt_of_le hw hb9.size, by omega, hzp.1, fun off v hv => ?_⟩, ⟨fun _ _ _ => rfl, Nat.le_refl _, hzp, OwnK.empty _ _ _, fun _ _ => rfl, ⟨hbw9, by omega, hbw9.size⟩, fun hk => ?_⟩, fun hk => ?_⟩
      · intro m v hv
        rw [Nat.zero_add]
        exact ((H6.out.2.2.below H7.out).below hb9).2.1 m v hv
      · rw [← hW9] at hv
        by_cases ho : off = i
        · subst ho
          rw [World.cell?_setCell_same _ _ _ m0] at hv
          cases hv
          exact ⟨fun _ _ _ h => (by cases h), fun _ h => (by cases h)⟩
        · rw [World.cell?_setCell_other _ _ _ _ (by intro e; exact ho (congrArg Addr.off e).symm)] at hv
          have e1 : W8.cell? ⟨w7.heap.size, off, none⟩ = (madeCells #[.string ⟨#[]⟩] n)[off]? := by simp [World.cell?, H8.out.2.2]
          rw [e1, ← Array.getElem?_toList, toList_madeCells_one] at hv
          have := List.eq_of_mem_replicate (List.mem_of_getElem? hv)
          subst this
          exact ⟨fun _ _ _ h => (by cases h), fun _ h => (by cases h)⟩
      · rw [hj]
        have := beh_lt (l := L) p hk
        unfold turn
        rw [if_pos (by omega)]
        rfl
      · rw [← hj]
        exact beh_lt p hk
    rw [hW9]
    have HG := hidV (And.intro H6.out.2.1.gd H6.out.2.1.no)
    have hf : c' 12 = ((c' 12).toNat : Int) := by have := HCr.out.fa; omega
    have HF := hidV hf
    clear hW9 m0 f0 H8 H7 H6 c8 d8 k2 HPl2 hj hf H0 H1 H2
    generalize w7.heap.size = P at *
    go_upto_region 15 with (fail)
    go_loopw [13, 14] (fun o i2 wr => ∃ (k : Nat) (s : Sv) (T : Nat → Nat) (q : ByteArray), k ≤ L.length ∧ o = .slice s.1 s.2.1 s.2.2 ∧ i2 = .int .i64 (k : Int) ∧ Hid (PS w W9 c' P w.heap.size vb V n i L j k T s q wr)) (fun _ i2 _ => L.length - (intOf i2).toNat)
    case atStart => exact ⟨0, nS, fun _ => 0, p, Nat.zero_le _, rfl, rfl, H9.out.2.1⟩
    case round =>
      obtain ⟨k, ⟨ra, rn, rc⟩, T, q, hk, rfl, rfl, HX⟩ := hrel
      simp only at *
      have hrn : rn = (tk L j k).length := (Ls.own HX.out.own).2.1
      subst hrn
      by_cases hlt : k < L.length
      · have q1 : (k : Int) < (L.length : Int) := by omega
        have hjl := H9.out.2.2 (by omega)
        have htl := turn_lt (l := L) (j := j) (k := k) hjl hlt
        obtain ⟨t, ht⟩ : ∃ t, L[turn L j k]? = some t := ⟨_, List.getElem?_eq_getElem htl⟩
        have HT := hidV (And.intro ht (And.intro hjl hlt))
        have HIn : Hid (Calls Tryz.prog 10 #[.agg (cfgA c'), .pointer (some ⟨vb, 0, none⟩), .slice (some ⟨P, 0, none⟩) n n, .int .i64 (i : Int)] wr fun e w' => ∃ J : Jb, J.up = [t] ∧ JnIs wr J true e w') := by
          have hcr := HCr.out
          rw [← hVl] at hcr
          have h := inputsI_any c' vb V (some ⟨P, 0, none⟩) n (pts n i q) i (c' 12).toNat L t wr (HX.out.ver H9.out.1) hcr HG.out.2 (by rw [pts_len]; exact HX.out.ptrs) (by rw [pts_len]; omega) HF.out hi1 (by omega) HL.out (by omega) (by rw [pts_at (by omega), HX.out.next hlt]; exact ht)
          rw [pts_len] at h
          exact h.mono fun e w' hq => ⟨_, rfl, hq⟩
        have hLk := HX.out.cfg H9.out.1
        clear ht hjl htl
        go_upto_region 18 with (first
          | (refine wpList_cfg (by rfl) _ (by rfl) (by rfl) hLk ?_)
          | (go_at_call 10; go_loud (refine HIn.out.mono ?_; rintro e w2 ⟨J, hJ, ⟨ua, un, uc⟩, ⟨va, vn, vc⟩, rfl, hj2, hb2, hfu, hfl⟩; have H2 : Hid (Ls kTb w2 (ua, un, uc) [t] ∧ RowKit.Below wr.heap.size wr w2 ∧ ∀ b off, ua = some ⟨b, off, none⟩ → wr.heap.size ≤ b) := ⟨by rw [← hJ]; exact hj2.1, hb2, hfu⟩; clear hj2 hb2 hfu hfl hJ; unfold jbV; simp only)))
        clear hLk HIn
        obtain ⟨W3, hW3⟩ : ∃ X, w2.alloc (Obj.cells #[.int .i64 J.lv, .slice ua un uc, .slice va vn vc, .string J.cut, .bool J.mv] 37) = X := ⟨_, rfl⟩
        have eun : un = 1 := H2.out.1.2.1
        subst eun
        have H3 : Hid (RowKit.Below wr.heap.size wr W3 ∧ Zb W3 w2.heap.size (jbC J.lv (ua, 1, uc) (va, vn, vc) J.cut J.mv) ∧ Ls kTb W3 (ua, 1, uc) [t]) := by
          subst hW3
          have hb := H2.out.2.1.alloc H2.out.2.1.size (Obj.cells #[.int .i64 J.lv, .slice ua 1 uc, .slice va vn vc, .string J.cut, .bool J.mv] 37)
          exact ⟨hb, Zb.new w2 _ _, H2.out.1.below ((Below.refl _ _).alloc (Nat.le_refl _) _)⟩
        rw [hW3]
        clear hW3
        obtain ⟨b1, o1, e1, hb1, hc1⟩ := H3.out.2.2.cell (i := 0) (x := t) rfl
        change ua = _ at e1
        subst e1
        have HTg : Hid (T w2.heap.size = 0 ∧ T b1 = 0 ∧ T P = 0) := ⟨HX.out.zero _ (.inr H2.out.2.1.size), HX.out.zero _ (.inr (H2.out.2.2 b1 o1 rfl)), HX.out.zero _ (.inl H9.out.1.pl)⟩
        obtain ⟨tn, tw, tb, te, tl, tg⟩ := t
        have t0 : W3.cell? ⟨b1, o1, none⟩ = some (.int .u64 (tn : Int)) := hc1 0 _ rfl
        have t1 : W3.cell? ⟨b1, o1 + 1, none⟩ = some (.int .i64 tw) := hc1 1 _ rfl
        have t2 : W3.cell? ⟨b1, o1 + 2, none⟩ = some (.int .i64 tb) := hc1 2 _ rfl
        have t3 : W3.cell? ⟨b1, o1 + 3, none⟩ = some (.int .i64 te) := hc1 3 _ rfl
        have t4 : W3.cell? ⟨b1, o1 + 4, none⟩ = some (.string tl) := hc1 4 _ rfl
        have t5 : W3.cell? ⟨b1, o1 + 5, none⟩ = some (.string tg) := hc1 5 _ rfl
        clear hc1
        have y1 : W3.cell? ⟨w2.heap.size, 1, none⟩ = some (.slice (some ⟨b1, o1, none⟩) 1 uc) := H3.out.2.1.2.1 1 _ rfl
        have HIq : Hid (Calls Tryz.prog 11 #[.slice ra (tk L j k).length rc, .int .u64 (tn : Int)] W3 fun e w' => e = .returned (.bool false) ∧ w' = W3) := by
          have h := in_any ra rc (tk L j k) tn W3 ((Ls.own HX.out.own).below H3.out.1) (by rw [tk_len]; omega)
          rw [tk_new (level_nodup HG.out.1.nod HL.out) HT.out.2.1 HT.out.2.2 HT.out.1] at h
          exact h
        obtain ⟨W4, hW4⟩ : ∃ X, W3.alloc (Obj.cells #[.int .u64 (tn : Int), .int .i64 tw, .int .i64 tb, .int .i64 te, .string tl, .string tg] 43) = X := ⟨_, rfl⟩
        have H4 : Hid (Zb W4 w2.heap.size (jbC J.lv (some ⟨b1, o1, none⟩, 1, uc) (va, vn, vc) J.cut J.mv) ∧ W4.cell? ⟨b1, o1 + 5, none⟩ = some (.string tg) ∧ b1 < W4.heap.size ∧ PS w W9 c' P w.heap.size vb V n i L j k T (ra, (tk L j k).length, rc) q W4 ∧ RowKit.Below W3.heap.size W3 W4) := by
          have hb : RowKit.Below W3.heap.size W3 W4 := by rw [← hW4]; exact (Below.refl _ _).alloc (Nat.le_refl _) _
          exact ⟨H3.out.2.1.below hb, (hb.cell (p := ⟨b1, o1 + 5, none⟩) hb1).trans t5, Nat.lt_of_lt_of_le hb1 hb.size, (HX.out.below H3.out.1).below hb, hb⟩
        go_upto_region 20 with (go_at_call 11; go_loud (refine HIq.out.mono ?_; rintro e w99 ⟨rfl, hw99⟩; have hw98 := hw99.symm; clear hw99; subst hw98))
        clear HIq
        have HIsk : Hid (IsK kTb W4 (some ⟨W3.heap.size, 0, none⟩) [⟨tn, tw, tb, te, tl, tg⟩]) := by rw [← hW4]; exact isK_new W3 ⟨tn, tw, tb, te, tl, tg⟩
        go_upto_region 21 with (at_builtin; go_loud ((try rw [hW4]); refine wpList_appK kTb _ (by rfl) (.tmp 81) (.tmp 86) 34 (by rfl) iz Tryz.underlying34 hi hz0 hz1 hz2 3 T (.slice ra (tk L j k).length rc) (tk L j k) (by rfl) H4.out.2.2.2.1.own (some ⟨W3.heap.size, 0, none⟩) 1 1 [⟨tn, tw, tb, te, tl, tg⟩] (by rfl) rfl (by simp) HIsk.out (by rw [tk_len]; simp; omega) ?_; intro a' cc' T' w5 ho5 hg5; have HY : Hid (OwnK kTb 3 T' w5 (.slice a' ((tk L j k).length + 1) cc') (tk L j k ++ [⟨tn, tw, tb, te, tl, tg⟩]) ∧ Goes (· = 3) T W4 T' w5) := ⟨ho5, hg5⟩; clear ho5 hg5; simp only [List.length_singleton]))
        clear hW4 t0 t1 t2 t3 t4 t5 y1 hb1
        have z1 : w5.cell? ⟨w2.heap.size, 1, none⟩ = some (.slice (some ⟨b1, o1, none⟩) 1 uc) := (H4.out.1.goes HY.out.2 (by rw [HTg.out.1]; decide)).2.1 1 _ rfl
        have z5 : w5.cell? ⟨b1, o1 + 5, none⟩ = some (.string tg) := (World.cell?_of_block (a := ⟨b1, o1 + 5, none⟩) (HY.out.2.block b1 H4.out.2.2.1 (by rw [HTg.out.2.1]; decide))).trans H4.out.2.1
        have hzp := H4.out.2.2.2.1.p.goes HY.out.2 (by rw [HTg.out.2.2]; decide)
        obtain ⟨u9, zp⟩ := hzp.some (k := i) (by rw [kT_cells, List.length_map, pts_len]; omega)
        have fp := hzp.2.2 i
        have qi2 : (i : Int) < (n : Int) := by omega
        go_wp2
        go_roundw
        case rel =>
          have h := PS.turn (a := a') (ca := cc') H4.out.2.2.2.1 H9.out.1 (by omega) HT.out.1 HT.out.2.1 (HG.out.1.apart i L hi1 HL.out) (HG.out.1.hull L (List.mem_of_getElem? HL.out)) (by have h5 := HY.out.1; rw [tk_len] at h5; exact h5) HY.out.2
          exact ⟨k + 1, (a', k + 1, cc'), T', tg, by omega, by rw [tk_len], by go_num, h⟩
        case measure => simp [intOf]; omega
      · have q1 : ¬ (k : Int) < (L.length : Int) := by omega
        have HKL : Hid ((tk L j k).length = L.length) := by show _ = _; rw [tk_len]; omega
        have qk : ((tk L j k).length : Int) = (L.length : Int) := by rw [HKL.out]
        go_wp2
        go_ret
        exact ⟨by simp [HKL.out], HX.out.bw.1⟩
end Vr
end Go.Proofs.YtilkjfbjlljnhaaGreat
