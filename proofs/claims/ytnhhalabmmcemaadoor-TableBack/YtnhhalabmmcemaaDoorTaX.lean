import Derived.Test.YtnhhalabmmcemaaDoorTaV
import Derived.BigQuiet
namespace Go.Proofs.YtnhhalabmmcemaaDoor
namespace Tbl
open Go.RowKit CMath Byt Laws Irw Crw Cod Qb
set_option linter.unusedVariables false
set_option linter.unusedSimpArgs false
set_option maxRecDepth 20000

/-- The chapter's entry. -/
def e1 : En := (⟨#[97]⟩, 1, false, ⟨#[120]⟩)
theorem e1_chain : chain ⟨#[]⟩ [e1] := ⟨by decide, trivial⟩
theorem mds_e1 : mds [e1] = [e1] := mds_chain e1_chain
theorem css_one {css : List (List En)} (h : css.flatten = [e1]) (hne : ∀ cs ∈ css, cs ≠ []) : css = [[e1]] := by
  cases css with
  | nil => simp at h
  | cons c css =>
    cases c with
    | nil => exact absurd rfl (hne [] (by simp))
    | cons x c =>
      simp only [List.flatten_cons, List.cons_append, List.cons.injEq] at h
      obtain ⟨rfl, h2⟩ := h
      have h3 := List.append_eq_nil_iff.1 h2
      cases css with
      | nil => rw [h3.1]
      | cons d css =>
        have h4 := h3.2
        simp only [List.flatten_cons, List.append_eq_nil_iff] at h4
        exact absurd h4.1 (hne d (by simp))
theorem wt_e1 : (mtF [e1]).wt = 451 := by
  show wrap64 (0 + Wei.wt ⟨#[97]⟩ false ⟨#[120]⟩) = 451
  show wrap64 (0 + wrap64 (wrap64 (wrap64 (2 * ((1 : Nat) : Int)) + ((1 : Nat) : Int)) + 448)) = 451
  unfold wrap64
  omega
theorem num451 : (num 451).length = 2 := by
  rw [num, if_neg (by omega), num_small (by omega)]
  rfl
theorem known_len {L : Ts} (h : Inv (Rn 2) 10 L [[e1]] []) : (whole 10 L).length = 65 := by
  have hR : Rn 2 = 2 := rfl
  have k0 : (entB 0 e1).length = 6 := by
    unfold entB
    simp only [List.length_append]
    rw [show tag e1 = 2 from rfl, show (kB e1).length = 1 from rfl, num_small (by omega), num_small (by omega), num_small (by omega), show (kB e1).drop 0 = [97] from rfl, show (if e1.2.2.1 then [] else words (vB e1)) = words (vB e1) from rfl]
    unfold words
    rw [List.length_append, show (vB e1).length = 1 from rfl, num_small (by omega)]
    rfl
  have hb1 : (blk (pushes (Rn 2) st0 [e1])).length = 18 := by
    rw [blk_len]
    show ([] ++ entB (sh (Rn 2) st0 e1) e1).length + (Qb.plc (Rn 2) st0).length + 8 = 18
    have h1 : sh (Rn 2) st0 e1 = 0 := by unfold sh; rw [if_pos (by show 0 % Rn 2 = 0; simp)]
    have h2 : Qb.plc (Rn 2) st0 = [] ++ four 0 := by unfold Qb.plc; rw [if_pos (by show 0 % Rn 2 = 0; simp)]; rfl
    rw [h1, h2, List.nil_append, k0]
    rfl
  have hixs : ixs (Rn 2) 0 [[e1]] = [(⟨#[97]⟩, 0, false, ixV 0 18)] := by
    show [(lastE ⟨#[]⟩ [e1], 0, false, ixV 0 (blk (pushes (Rn 2) st0 [e1])).length)] = _
    rw [hb1]
    rfl
  have hv : (ixV 0 18).size = 2 := by
    rw [← strB_length, ixV, strB_ofB (byte_app (num_byte 0) (num_byte 18)), num_small (by omega), num_small (by omega)]
    rfl
  have k1 : (entB 0 (⟨#[97]⟩, 0, false, ixV 0 18)).length = 7 := by
    unfold entB
    simp only [List.length_append]
    rw [show tag ((⟨#[97]⟩, 0, false, ixV 0 18) : En) = 0 from rfl, show (kB ((⟨#[97]⟩, 0, false, ixV 0 18) : En)).length = 1 from rfl, num_small (by omega), num_small (by omega), show (kB ((⟨#[97]⟩, 0, false, ixV 0 18) : En)).drop 0 = [97] from rfl]
    show 1 + (1 + (1 + (1 + (words (vB ((⟨#[97]⟩, 0, false, ixV 0 18) : En))).length))) = 7
    unfold words
    rw [List.length_append, show (vB ((⟨#[97]⟩, 0, false, ixV 0 18) : En)).length = 2 by unfold vB; rw [strB_length]; exact hv, num_small (by omega)]
    rfl
  have hb2 : (blk L.idx).length = 19 := by
    rw [h.idx, hixs, blk_len]
    show ([] ++ entB (sh (Rn 2) st0 (⟨#[97]⟩, 0, false, ixV 0 18)) (⟨#[97]⟩, 0, false, ixV 0 18)).length + (Qb.plc (Rn 2) st0).length + 8 = 19
    have h1 : sh (Rn 2) st0 (⟨#[97]⟩, 0, false, ixV 0 18) = 0 := by unfold sh; rw [if_pos (by show 0 % Rn 2 = 0; simp)]
    have h2 : Qb.plc (Rn 2) st0 = [] ++ four 0 := by unfold Qb.plc; rw [if_pos (by show 0 % Rn 2 = 0; simp)]; rfl
    rw [h1, h2, List.nil_append, k1]
    rfl
  have hl : L.laid.length = 18 := by rw [h.laid]; simp [laidOf, hb1]
  have hk : L.keys = [⟨#[97]⟩] := by rw [h.keys]; rfl
  have hf : (BMath.mk (L.keys.map strB) 10).length = 9 := by
    rw [hk]
    unfold BMath.mk
    rw [if_neg (by simp)]
    rw [List.length_append, BMath.body_length]
    rfl
  have hm := h.mt
  have hw : L.mt.wt = 451 := by rw [hm]; exact wt_e1
  have hn : L.mt.n = 1 := by rw [hm]; rfl
  have hlo : L.mt.lo = ⟨#[97]⟩ := by rw [hm]; rfl
  have hhi : L.mt.hi = ⟨#[97]⟩ := by rw [hm]; rfl
  have hft : (foot 18 19 9 L.mt).length = 15 := by
    unfold foot footB
    simp only [List.length_append, List.length_cons, List.length_nil, words_len', hlo, hhi, hn, hw]
    have hp : (pre [((18 : Nat) : Int), ((19 : Nat) : Int), ((9 : Nat) : Int), ((1 : Nat) : Int), 451] 5).length = 6 := by
      unfold pre
      simp only [List.take_succ_cons, List.take_zero, List.map_cons, List.map_nil, List.flatten_cons, List.flatten_nil, List.length_append, List.length_nil]
      rw [show u64 ((18 : Nat) : Int) = 18 from rfl, show u64 ((19 : Nat) : Int) = 19 from rfl, show u64 ((9 : Nat) : Int) = 9 from rfl, show u64 ((1 : Nat) : Int) = 1 from rfl, show u64 451 = 451 from rfl, num451, num_small (by omega), num_small (by omega), num_small (by omega), num_small (by omega)]
      rfl
    have hs : ((⟨#[97]⟩ : ByteArray)).size = 1 := rfl
    rw [hp, hs, num_small (by omega)]
    rfl
  unfold whole whole0
  simp only [List.length_append, Qb.four_len]
  rw [hl, hb2, hf, hft]

end Tbl
end Go.Proofs.YtnhhalabmmcemaaDoor
namespace Go.Proofs.YtnhhalabmmcemaaDoor
namespace Tbl
open Go.RowKit CMath Byt Laws Irw Crw Cod Qb
set_option linter.unusedVariables false
set_option linter.unusedSimpArgs false
set_option maxRecDepth 20000

structure Und (w : World) where
  W : World
  ok : Below w.heap.size w W
theorem Und.non (w : World) : Nonempty (Und w) := ⟨⟨w, Below.refl _ _⟩⟩
/-- A region that draws its order, whose operations read what was there before and whose calls turn nothing of it. -/
theorem wp_region_und {P : Program} {id : Nat} {Q : Exit → Act → World → Prop} {a : Act} {w : World} {l : List Oper} (hm : P.follows .mixedOrders = true) (hB : Region.lexB .any l.toArray = true)
    (h : wpQuiet P l.toArray (fun w' => ∃ V : Und w, w' = V.W) (fun a' => ∀ w', Below w.heap.size w w' → Q .normal a' w') l a) : (Code.region id l.toArray true).wp P Q a w := by
  have e : (fun a' => ∀ w', Below w.heap.size w w' → Q .normal a' w') = (fun a' => ∀ w', (∃ V : Und w, w' = V.W) → Q .normal a' w') := by
    funext a'
    exact propext ⟨fun k w' ⟨V, e⟩ => k w' (e ▸ V.ok), fun k w' hb => k w' ⟨⟨w', hb⟩, rfl⟩⟩
  rw [e] at h
  exact wp_region_quiet (C := fun w' => ∃ V : Und w, w' = V.W) hm hB ⟨⟨w.drew, (Below.refl _ _).drew⟩, rfl⟩ (by simpa using h)
theorem Und.cell {w : World} {p : Addr} {v : Value} (h : w.cell? p = some v) (V : Und w) : V.W.cell? p = some v := (V.ok.cell (World.block_lt_of_cell? w _ h)).trans h
theorem Und.call {P : Program} {f : Nat} {args : Array Value} {w : World} {V : Und w} {v : Value} (h : Calls P f args V.W fun e w' => e = .returned v ∧ Below V.W.heap.size V.W w') : Calls P f args V.W fun e w'' => e = .returned v ∧ ∃ V' : Und w, w'' = V'.W :=
  h.mono fun _ w' ⟨he, hb⟩ => ⟨he, ⟨w', bl_step V.ok hb⟩, rfl⟩
/-- What made answers of the chapter's entry. -/
def KmIs (w : World) (e : Ending) (w' : World) : Prop := ∃ L g o c g' o' c', e = .returned (.tuple #[.slice (some ⟨g, o, none⟩) 65 c, .slice (some ⟨g', o', none⟩) 1 c', .agg #[.int .u64 0, .int .i64 451, .int .i64 65, .int .i64 1, .string ⟨#[97]⟩, .string ⟨#[97]⟩], .bool true]) ∧ Wh (Rn 2) 10 L [[e1]] ∧ (whole 10 L).length = 65 ∧ IsB w' (some ⟨g, o, none⟩) (whole 10 L) ∧ 65 ≤ c ∧ c ≤ 9223372036854775807 ∧ Erw.IsE w' (some ⟨g', o', none⟩) [e1] ∧ Below w.heap.size w w'
theorem km_of {w : World} {e : Ending} {w' : World} (h : MdT w 64 2 10 [e1] e w') : KmIs w e w' := by
  obtain ⟨hb, h⟩ := h
  rcases h with ⟨h1, _⟩ | ⟨h1, L, css, T, a, c, a', c', m, hm, he, hinv, hfl, ho, hoe, _⟩
  · rw [mds_e1] at h1; cases h1
  rw [mds_e1] at hfl he hoe
  have hcs := css_one hfl hinv.ne
  subst hcs
  have hl := known_len hinv
  rw [hl] at he hm ho
  obtain ⟨x, c9, e9, hi9, hc9, _, hm9, _⟩ := ho.form
  simp only [Value.slice.injEq] at e9
  obtain ⟨rfl, _, rfl⟩ := e9
  obtain ⟨g, o, rfl, _⟩ := hi9.1 (by intro z; rw [z] at hl; simp at hl)
  obtain ⟨y, d9, f9, hj9, _⟩ := hoe.form
  simp only [Value.slice.injEq] at f9
  obtain ⟨rfl, _, rfl⟩ := f9
  obtain ⟨g', o', rfl, _⟩ := hj9 (by simp)
  have hmm : m = ⟨451, 65, 1, ⟨#[97]⟩, ⟨#[97]⟩⟩ := by
    rw [hm]
    show (⟨L.mt.wt, ((65 : Nat) : Int), L.mt.n, L.mt.lo, L.mt.hi⟩ : Mt) = _
    rw [hinv.mt]
    show (⟨(mtF [e1]).wt, ((65 : Nat) : Int), 1, ⟨#[97]⟩, ⟨#[97]⟩⟩ : Mt) = _
    rw [wt_e1]
    rfl
  rw [hmm] at he
  rw [hl] at hc9
  exact ⟨L, g, o, c, g', o', c', he, ⟨hinv, by decide, by simp, by simp⟩, hl, hi9, hc9, hm9, hj9, hb⟩
theorem ger_aa : ger ⟨#[97]⟩ ⟨#[97]⟩ = true := by
  unfold ger
  simp only [ByteArray.toList_eq]
  decide
theorem ger_ab : ger ⟨#[97]⟩ ⟨#[98]⟩ = false := by
  unfold ger
  simp only [ByteArray.toList_eq]
  decide
theorem gtC_a : gtC [e1] ⟨#[97]⟩ = some e1 := by
  have h : skE [e1] ⟨#[97]⟩ = some e1 := by
    unfold skE
    simp only [List.find?_cons, ByteArray.toList_eq]
    rfl
  unfold gtC
  rw [h]
  exact if_pos rfl
theorem get_a {F : List Nat} {ps : List (ByteArray × Nat)} {w w' : World} {e : Ending} (hp : ∃ K, ps = [(⟨#[97]⟩, K)]) (hm : BMath.may F (strB ⟨#[97]⟩) = true) (h : GtIs ps [[e1]] F ⟨#[97]⟩ w e w') : e = .returned (.tuple #[.agg #[.string ⟨#[97]⟩, .int .u64 1, .bool false, .string ⟨#[120]⟩], .bool true]) ∧ Below w.heap.size w w' := by
  obtain ⟨K, rfl⟩ := hp
  obtain ⟨j, h1, h2, h3, h4, h5⟩ := h
  have hj : j = 0 := by
    rcases Nat.eq_zero_or_pos j with h0 | h0
    · exact h0
    · have := h2 0 _ h0 rfl
      rw [ger_aa] at this; cases this
  subst hj
  refine ⟨?_, h5⟩
  rw [h4]
  have : gtR [[e1]] F 0 ⟨#[97]⟩ = some e1 := by
    show (if BMath.may F (strB ⟨#[97]⟩) = true then gtC [e1] ⟨#[97]⟩ else none) = _
    rw [if_pos hm]
    exact gtC_a
  rw [this]
  rfl
theorem get_b {F : List Nat} {ps : List (ByteArray × Nat)} {w w' : World} {e : Ending} (hp : ∃ K, ps = [(⟨#[97]⟩, K)]) (h : GtIs ps [[e1]] F ⟨#[98]⟩ w e w') : e = .returned (.tuple #[.agg #[.string ⟨#[]⟩, .int .u64 0, .bool false, .string ⟨#[]⟩], .bool false]) ∧ Below w.heap.size w w' := by
  obtain ⟨K, rfl⟩ := hp
  obtain ⟨j, h1, h2, h3, h4, h5⟩ := h
  have hj : j = 1 := by
    have h1' : j ≤ 1 := h1
    rcases Nat.eq_zero_or_pos j with h0 | h0
    · subst h0
      have := h3 0 _ (Nat.le_refl _) rfl
      rw [ger_ab] at this; cases this
    · omega
  subst hj
  exact ⟨h4, h5⟩
theorem ps_one {R : Nat} {T : Nat → Nat} {w : World} {ps : List (ByteArray × Nat)} (h : PsAt R T w ps [[e1]]) : ∃ K, ps = [(⟨#[97]⟩, K)] := by
  cases ps with
  | nil => exact h.elim
  | cons p ps =>
    cases ps with
    | nil => exact ⟨p.2, by rw [show (⟨#[97]⟩ : ByteArray) = p.1 from h.1.symm]⟩
    | cons q ps => exact h.2.2.elim
/-- What Get answers of it. -/
theorem known_get {L : Ts} (hW : Wh (Rn 2) 10 L [[e1]]) {T : Nat → Nat} {w : World} {B : Nat} {ps : List (ByteArray × Nat)} {m : Mt} (h : TbO 20 T w B ps (FiO 10 L) m) (hps : PsAt (Rn 2) T w ps [[e1]]) (ht : Tab w) (W : World) (hb : Below w.heap.size w W) :
    (Calls Tryd.prog 15 #[.pointer (some ⟨B, 0, none⟩), .string ⟨#[97]⟩] W fun e w' => e = .returned (.tuple #[.agg #[.string ⟨#[97]⟩, .int .u64 1, .bool false, .string ⟨#[120]⟩], .bool true]) ∧ Below W.heap.size W w') ∧
    (Calls Tryd.prog 15 #[.pointer (some ⟨B, 0, none⟩), .string ⟨#[98]⟩] W fun e w' => e = .returned (.tuple #[.agg #[.string ⟨#[]⟩, .int .u64 0, .bool false, .string ⟨#[]⟩], .bool false]) ∧ Below W.heap.size W w') := by
  obtain ⟨hok, hcl, hch, _, _, _, l3, _⟩ := hW.facts
  have hp := ps_one hps
  have hrise : ∀ (key : ByteArray) (a b : Nat) (x y : ByteArray × Nat), a ≤ b → ps[a]? = some x → ps[b]? = some y → ger x.1 key = true → ger y.1 key = true := by
    obtain ⟨K, rfl⟩ := hp
    intro key a b x y hab hx hy hg
    have ha := (List.getElem?_eq_some_iff.1 hx).1
    have hb' := (List.getElem?_eq_some_iff.1 hy).1
    simp at ha hb'
    subst ha; subst hb'
    rw [hx] at hy; cases hy; exact hg
  have hF : (FiO 10 L).length ≤ 1000000000 := by unfold FiO; omega
  have hT := ht.below hb ht.lt
  have hps' : PsAt (Rn 2) T W ps [[e1]] := hps.goes (Goes.below (t := fun _ => False) hb) (fun z => z)
  refine ⟨(get_any T W B ⟨#[97]⟩ (FiO 10 L) m ps (Rn 2) [[e1]] (h.below hb) hps' hch (fun e he => (hok e he).2) (by simp) (by simp) hF (by decide) hT (hrise _)).mono fun e w' hg => get_a hp ?_ hg, (get_any T W B ⟨#[98]⟩ (FiO 10 L) m ps (Rn 2) [[e1]] (h.below hb) hps' hch (fun e he => (hok e he).2) (by simp) (by simp) hF (by decide) hT (hrise _)).mono fun e w' hg => get_b hp hg⟩
  have := hW.may e1 (by simp)
  exact this
set_option maxHeartbeats 1000000 in
theorem known_any (w : World) (ht : Tab w) :
    Calls Tryd.prog 7 #[] w fun e w' => e = .returned (.bool true) ∧ Below w.heap.size w w' := by
  have HT := Qb.hid ht
  clear ht
  go_enter Tryd.func7, Tryd.ntmps7
  go_wp2_with (first
    | (go_at_call 9; go_loud (refine (config_any 64 2 10 w).mono ?_; rintro e w1 ⟨f, rfl, h13, h14, h15, hb1⟩; have HF := Qb.hid (And.intro h13 (And.intro h14 h15)); have HB1 := Qb.hid hb1; generalize hV : cfgA f = V; have HV := Qb.hid hV.symm; clear h13 h14 h15 hb1 hV))
    | (go_at_call 8; go_loud (refine (tmade_any _ f V HV.out (some ⟨w1.heap.size, 0, none⟩) 1 1 [e1] ((HT.out.below HB1.out HT.out.lt).below ((Below.refl _ _).alloc (Nat.le_refl _) _) (Nat.lt_of_lt_of_le HT.out.lt HB1.out.size)) isE_new10 rfl (by omega) (fun e he => (by simp at he; subst he; decide)) (by rw [HF.out.2.1]; decide) (by rw [HF.out.2.2]; decide)).mono ?_; rw [HF.out.1, HF.out.2.1, HF.out.2.2]; intro e w2 hmd; obtain ⟨L, g, o, c, g', o', c', rfl, hW, hl, hi, hc1, hc2, hj, hb2⟩ := km_of hmd; have HB2 : Hid (Below w.heap.size w w2) := Qb.hid (bl_step HB1.out (bl_step ((Below.refl _ _).alloc (Nat.le_refl _) _) hb2)); have HK := Qb.hid (And.intro hW (And.intro hl (And.intro hi (And.intro hc1 (And.intro hc2 hj))))); clear hmd hW hl hi hc1 hc2 hj hb2))
    | (go_at_call 10; go_loud (refine (open_ok g o 65 c (Rn 2) 10 L [[e1]] _ HK.out.1 (HK.out.2.2.1.below ((Below.refl _ _).alloc (Nat.le_refl _) _)) HK.out.2.1.symm HK.out.2.2.2.1 HK.out.2.2.2.2.1 ((HT.out.below HB2.out HT.out.lt).below ((Below.refl _ _).alloc (Nat.le_refl _) _) (Nat.lt_of_lt_of_le HT.out.lt HB2.out.size))).mono ?_; rintro e w3 ⟨B, T3, ps3, _, rfl, _, q1, q2, hb3⟩; have HB23 : Hid (Below w2.heap.size w2 w3) := Qb.hid (bl_step ((Below.refl _ _).alloc (Nat.le_refl _) _) hb3); have om : w3.heap[w2.heap.size]? = some (.cells #[.int .u64 0, .int .i64 451, .int .i64 65, .int .i64 1, .string ⟨#[97]⟩, .string ⟨#[97]⟩] 28) := (hb3.block _ (by simp)).trans (World.alloc_heap_new _ _); have HOM := Qb.hid om; have HTB := Qb.hid (And.intro q1 q2); have HGE := Qb.hid (known_get HK.out.1 q1 q2 (HT.out.below (bl_step HB2.out HB23.out) HT.out.lt)); clear q1 q2 hb3 om))
    | (go_at_call 11; go_loud (refine (Tbl.num_any _ _).mono ?_; rintro e w' ⟨rfl, hw⟩; have hw2 := hw.symm; clear hw; subst hw2))
    | (go_at_call 15; revert HB4; intro HB4; go_loud (refine (HGE.out _ (HB4.out.trans ((Below.refl _ _).alloc HB4.out.size _))).2.mono ?_; rintro e w5 ⟨rfl, hb5⟩; have HB45 : Hid (Below w4.heap.size w4 w5) := Qb.hid (bl_step ((Below.refl _ _).alloc (Nat.le_refl _) _) hb5); have ox : w5.heap[w4.heap.size]? = some (.cells #[.string ⟨#[97]⟩, .int .u64 1, .bool false, .string ⟨#[120]⟩] 43) := (hb5.block _ (by simp)).trans (World.alloc_heap_new _ _); have HOX := Qb.hid ox; clear hb5 ox))
    | (go_at_call 15; go_loud (refine (HGE.out _ (Below.refl _ _)).1.mono ?_; rintro e w4 ⟨rfl, hb4⟩; have HB4 := Qb.hid hb4; clear hb4)))
  obtain ⟨W7, hW7⟩ : ∃ W7, (w5.alloc (.cells #[.string ⟨#[]⟩, .int .u64 0, .bool false, .string ⟨#[]⟩] 43)).alloc (.cells #[.int .u64 0, .int .i64 451, .int .i64 65, .int .i64 1, .string ⟨#[97]⟩, .string ⟨#[97]⟩] 28) = W7 := ⟨_, rfl⟩
  rw [hW7]
  have h57 : Below w5.heap.size w5 W7 := by rw [← hW7]; exact ((Below.refl _ _).alloc (Nat.le_refl _) _).alloc (by simp) _
  have ow : W7.heap[w5.heap.size + 1]? = some (.cells #[.int .u64 0, .int .i64 451, .int .i64 65, .int .i64 1, .string ⟨#[97]⟩, .string ⟨#[97]⟩] 28) := by
    rw [← hW7]
    have h := World.alloc_heap_new (w5.alloc (.cells #[.string ⟨#[]⟩, .int .u64 0, .bool false, .string ⟨#[]⟩] 43)) (.cells #[.int .u64 0, .int .i64 451, .int .i64 65, .int .i64 1, .string ⟨#[97]⟩, .string ⟨#[97]⟩] 28)
    rw [show (w5.alloc (.cells #[.string ⟨#[]⟩, .int .u64 0, .bool false, .string ⟨#[]⟩] 43)).heap.size = w5.heap.size + 1 by simp] at h
    exact h
  have h35 : Below w3.heap.size w3 w5 := bl_step HB4.out HB45.out
  have h37 : Below w3.heap.size w3 W7 := bl_step h35 h57
  have h27 : Below w2.heap.size w2 W7 := bl_step HB23.out h37
  have h07 : Below w.heap.size w W7 := bl_step HB2.out h27
  have om := (h37.block _ (Array.getElem?_eq_some_iff.1 HOM.out).1).trans HOM.out
  have ox := (h57.block _ (Array.getElem?_eq_some_iff.1 HOX.out).1).trans HOX.out
  obtain ⟨b9, o9, y9, e9, hy9, _, i0, i1, i2, i3⟩ := Qg.isE_at (HK.out.2.2.2.2.2.below h27) (k := 0) (by simp)
  cases e9
  simp at hy9
  subst hy9
  have hml : rdM ((whole 10 L).length : Int) [[e1]].flatten = ⟨451, 65, 1, ⟨#[97]⟩, ⟨#[97]⟩⟩ := by
    rw [HK.out.2.1]
    show (⟨(mtF [e1]).wt, ((65 : Nat) : Int), 1, ⟨#[97]⟩, ⟨#[97]⟩⟩ : Mt) = _
    rw [wt_e1]
    rfl
  have HME : Hid (∀ W, Below w3.heap.size w3 W → Calls Tryd.prog 12 #[.pointer (some ⟨B, 0, none⟩)] W fun e w' => e = .returned (.agg #[.int .u64 0, .int .i64 451, .int .i64 65, .int .i64 1, .string ⟨#[97]⟩, .string ⟨#[97]⟩]) ∧ Below W.heap.size W w') := by
    apply Qb.hid
    intro W hW
    have h := tmeta_any (HTB.out.1.below hW)
    rw [hml] at h
    exact h
  have hne9 := Und.non W7
  have X0 := Und.cell (show W7.cell? ⟨w4.heap.size, 0, none⟩ = some (.string ⟨#[97]⟩) from cell_of ox 0)
  have X1 := Und.cell (show W7.cell? ⟨w4.heap.size, 1, none⟩ = some (.int .u64 1) from cell_of ox 1)
  have X2 := Und.cell (show W7.cell? ⟨w4.heap.size, 2, none⟩ = some (.bool false) from cell_of ox 2)
  have X3 := Und.cell (show W7.cell? ⟨w4.heap.size, 3, none⟩ = some (.string ⟨#[120]⟩) from cell_of ox 3)
  have Y0 := Und.cell (show W7.cell? ⟨g', o', none⟩ = some (.string ⟨#[97]⟩) from (by simpa [e1] using i0))
  have Y1 := Und.cell (show W7.cell? ⟨g', o' + 1, none⟩ = some (.int .u64 1) from (by simpa [e1] using i1))
  have Y2 := Und.cell (show W7.cell? ⟨g', o' + 2, none⟩ = some (.bool false) from (by simpa [e1] using i2))
  have Y3 := Und.cell (show W7.cell? ⟨g', o' + 3, none⟩ = some (.string ⟨#[120]⟩) from (by simpa [e1] using i3))
  have M0 := Und.cell (show W7.cell? ⟨w2.heap.size, 0, none⟩ = some (.int .u64 0) from cell_of om 0)
  have M1 := Und.cell (show W7.cell? ⟨w2.heap.size, 1, none⟩ = some (.int .i64 451) from cell_of om 1)
  have M2 := Und.cell (show W7.cell? ⟨w2.heap.size, 2, none⟩ = some (.int .i64 65) from cell_of om 2)
  have M3 := Und.cell (show W7.cell? ⟨w2.heap.size, 3, none⟩ = some (.int .i64 1) from cell_of om 3)
  have M4 := Und.cell (show W7.cell? ⟨w2.heap.size, 4, none⟩ = some (.string ⟨#[97]⟩) from cell_of om 4)
  have M5 := Und.cell (show W7.cell? ⟨w2.heap.size, 5, none⟩ = some (.string ⟨#[97]⟩) from cell_of om 5)
  have N0 := Und.cell (show W7.cell? ⟨w5.heap.size + 1, 0, none⟩ = some (.int .u64 0) from cell_of ow 0)
  have N1 := Und.cell (show W7.cell? ⟨w5.heap.size + 1, 1, none⟩ = some (.int .i64 451) from cell_of ow 1)
  have N2 := Und.cell (show W7.cell? ⟨w5.heap.size + 1, 2, none⟩ = some (.int .i64 65) from cell_of ow 2)
  have N3 := Und.cell (show W7.cell? ⟨w5.heap.size + 1, 3, none⟩ = some (.int .i64 1) from cell_of ow 3)
  have N4 := Und.cell (show W7.cell? ⟨w5.heap.size + 1, 4, none⟩ = some (.string ⟨#[97]⟩) from cell_of ow 4)
  have N5 := Und.cell (show W7.cell? ⟨w5.heap.size + 1, 5, none⟩ = some (.string ⟨#[97]⟩) from cell_of ow 5)
  have H37 := Qb.hid h37
  have H07 := Qb.hid h07
  clear h57 h35 h37 h27 h07 om ox ow i0 i1 i2 i3 hml hW7
  refine wp_region_und (by kernel_rfl) (by kernel_rfl) ?_
  repeat (go_big_quiet_step ((go_at_call 12; exact Und.call (HME.out _ (bl_step H37.out (Und.ok _))))))
  refine wpQuiet_nil ?_
  intro W8 hb8
  have H08 := Qb.hid (bl_step H07.out hb8)
  clear hb8 X0 X1 X2 X3 Y0 Y1 Y2 Y3 M0 M1 M2 M3 M4 M5 N0 N1 N2 N3 N4 N5 hne9
  go_wp2
  go_ret
  exact ⟨rfl, H08.out⟩

end Tbl
end Go.Proofs.YtnhhalabmmcemaaDoor
