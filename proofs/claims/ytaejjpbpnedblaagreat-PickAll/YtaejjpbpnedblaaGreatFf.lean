import Derived.Test.YtaejjpbpnedblaaGreatXi
import Derived.Test.YtaejjpbpnedblaaGreatFb
import Derived.Test.YtaejjpbpnedblaaGreatFg
import Derived.Lib.SlicesSearch
import Derived.Deep.Draws
import Derived.Test.YtaejjpbpnedblaaGreatXj
import Derived.WalkMore
import Derived.Deep.LoopGhost
namespace Go.Proofs.YtaejjpbpnedblaaGreat
namespace Vr
open Go.Shelf Go.RowKit Go.Lib Go.Sort Go.Maps Go.ChangeMaps Go.MapKept Laws Irw Crw
set_option linter.unusedVariables false
set_option linter.unusedSimpArgs false
set_option maxRecDepth 20000
def leI (x y : Int) : Bool := decide (x ≤ y)
/-- a fresh row of numbers, with its tag -/
theorem own_row {w W : World} {v : Value} {zs : List Int} {n : Nat} (h : W.ownsRow w.heap.size 55 1 v n (zs.map (Value.int .u64))) (hn : n = zs.length) (hb : RowKit.Below w.heap.size w W) : ∃ T : Nat → Nat, OwnK kU 1 T W v zs ∧ Old w T W := by
  refine ⟨fun b => if v.ownBlock = some b then 1 else 0, ⟨⟨?_, ?_⟩, fun g e => if_pos e⟩, hb, fun b hb' => if_neg fun e => ?_⟩
  · rw [kU_cells, List.length_map]
    show zs.length = zs.length * 1
    omega
  · subst hn
    rw [kU_cells]
    rcases h.2 with h1 | ⟨g, cap, cur, hv, hg, hr⟩
    · exact .inl h1
    · exact .inr ⟨g, cap, cur, hv, Nat.zero_le _, hr⟩
  · have := h.lt b e
    omega
def SnIs (w : World) (zs : List Int) (e : Ending) (w' : World) : Prop := ∃ s : Sv, e = .returned (svV s) ∧ Ls kU w' s (zs.mergeSort leI) ∧ RowKit.Below w.heap.size w w' ∧ (∀ b off, s.1 = some ⟨b, off, none⟩ → w.heap.size ≤ b ∧ b < w'.heap.size)
set_option maxHeartbeats 1000000 in
theorem sortedN_any (w : World) (Bs : Nat) (a : Option Addr) (lc n : Nat) (zs : List Int) (hn : zs.length = n) (hn1 : n ≤ 17592186044416) (hBs : Bs < w.heap.size) (hc : w.cell? ⟨Bs, 0, none⟩ = some (.slice a n lc)) (hcs : ∀ j, j < n → ∃ b off, a = some ⟨b, off, none⟩ ∧ b < w.heap.size ∧ w.cell? ⟨b, off + j, none⟩ = some (.int .u64 (zs[j]?.getD 0))) :
    Calls Tryz.prog 96 #[.func (.func 117) #[] #[.pointer (some ⟨Bs, 0, none⟩)]] w fun e w' => SnIs w zs e w' := by
  have HK : Hid (Calls Tryz.prog 116 #[.func (.func 117) #[] #[.pointer (some ⟨Bs, 0, none⟩)]] w fun e w' => ∃ (s : Sv) (T : Nat → Nat), e = .returned (.slice s.1 s.2.1 s.2.2) ∧ OwnK kU 1 T w' (svV s) zs ∧ Old w T w' ∧ (∀ b off, s.1 = some ⟨b, off, none⟩ → w.heap.size ≤ b)) :=
    (gcollectU Bs a lc zs (by omega) w hBs (by rw [hn]; exact hc) (fun j hj => hcs j (by omega))).mono fun e w' ⟨v, he, ho, hb⟩ => by
      obtain ⟨T, h1, h2⟩ := own_row ho rfl hb
      rcases ho.2 with ⟨h3, _⟩ | ⟨g, cap, cur, hv, hg, _⟩
      · exact ⟨(none, 0, 0), T, by rw [he, h3], by rw [h3] at h1; exact h1, h2, fun b off e => by cases e⟩
      · exact ⟨(some ⟨g, 0, none⟩, zs.length, cap), T, by rw [he, hv], by rw [hv] at h1; exact h1, h2, fun b off e => by cases e; exact hg⟩
  have HN : Hid (zs.length ≤ 17592186044416) := by show _ ≤ _; omega
  clear hc hcs
  go_enter Tryz.func96, Tryz.ntmps96
  go_wp2_with (first
    | (go_at_call 116; go_loud (refine HK.out.mono ?_; rintro e w2 ⟨⟨sa, sn, scp⟩, T, rfl, ho, hold, hfr⟩; have H2 := hidV (And.intro ho (And.intro hold hfr)); clear ho hold hfr))
    | (go_at_call 95; go_loud (refine (sortU_any H2.out.1 HN.out).mono ?_; rintro e w3 ⟨rfl, ho3, hg3⟩; have H3 := hidV (And.intro ho3 (H2.out.2.1.goes hg3 (by decide))); clear ho3 hg3)))
  go_ret
  exact ⟨(sa, sn, scp), rfl, Ls.own H3.out.1, H3.out.2.below, fun b off e => ⟨H2.out.2.2 b off e, ((OwnK.sk H3.out.1).2.2.2.2.2 b off e).2⟩⟩
theorem lsU_cell {w : World} {a : Option Addr} {n c : Nat} {zs : List Int} (h : Ls kU w (a, n, c) zs) (hne : zs ≠ []) : ∃ b off, a = some ⟨b, off, none⟩ ∧ ∀ j, j < zs.length → w.cell? ⟨b, off + j, none⟩ = some (.int .u64 (zs.getD j 0)) := by
  obtain ⟨b, off, e, hr⟩ := h.1 hne
  refine ⟨b, off, e, fun j hj => ?_⟩
  obtain ⟨b', off', e', hb', hcell⟩ := h.cell (i := j) (List.getElem?_eq_getElem hj)
  rw [e] at e'
  cases e'
  have := hcell 0 _ rfl
  rw [show off + j * kU.size + 0 = off + j by show off + j * 1 + 0 = off + j; omega] at this
  rw [this]
  simp [hj]
def BkIs (zs : List Int) (x : Int) (w : World) (e : Ending) (w' : World) : Prop := ∃ i : Int, e = .returned (.tuple #[.int .i64 i, .bool (decide (x ∈ zs))]) ∧ ∃ q, w' = w.drewN q
set_option maxHeartbeats 4000000 in
set_option maxRecDepth 1000000 in
theorem bsearch_any (a : Option Addr) (n c : Nat) (zs : List Int) (x : Int) (w : World) (h : Ls kU w (a, n, c) zs) (hbig : n ≤ 17592186044416) (hs : zs.Pairwise (· ≤ ·)) :
    Calls Tryz.prog 98 #[.slice a n c, .int .u64 x] w fun e w' => BkIs zs x w e w' := by
  have hn : n = zs.length := h.2.1
  have HL := hidV (fun (y z : Int) W => less64 y z W)
  have HNN := hidV (fun z W => isNaN64 z W)
  by_cases h0 : zs = []
  · subst h0
    have hn0 : n = 0 := hn
    subst hn0
    clear h hn hs hbig
    go_enter Tryz.func98, Tryz.ntmps98
    go_wp2
    go_loopw [7, 8] (fun i j wr => wr = w ∧ i = .int .i64 0 ∧ j = .int .i64 0) (fun i j _ => 0)
    case atStart => exact ⟨rfl, rfl, rfl⟩
    case round =>
      obtain ⟨hww, rfl, rfl⟩ := hrel
      have hww' := hww.symm
      clear hww
      subst hww'
      go_wp2_with (go_at_call 119; go_loud (refine (HNN.out _ _).mono ?_; rintro e w99 ⟨rfl, hw99⟩; have hw98 := hw99.symm; clear hw99; subst hw98))
      go_ret2
      exact ⟨0, by first | rfl | simp, 0, rfl⟩
  · obtain ⟨b, off, rfl, hc⟩ := lsU_cell h h0
    have S : Hid (∀ a b, a ≤ b → b < n → zs.getD a 0 ≤ zs.getD b 0) := Lib.sorted_at zs n (by omega) (by rw [List.take_of_length_le (by omega)]; exact hs)
    have HT : Hid (zs.take n = zs) := by show _ = _; exact List.take_of_length_le (by omega)
    have hz : n ≤ zs.length := by omega
    rw [← hn] at hc
    have HC := hidV hc
    have HZ := hidV hz
    clear hs h h0 hn hc hz
    go_enter Tryz.func98, Tryz.ntmps98
    go_wp2
    go_loopg [7, 8] n (fun g s7 s8 wr => ∃ lo hi q : Nat, s7 = .int .i64 lo ∧ s8 = .int .i64 hi ∧ lo ≤ hi ∧ hi ≤ n ∧ hi - lo ≤ g ∧ wr = w.drewN q ∧ Hid ((∀ t, t < lo → zs.getD t 0 < x) ∧ (∀ t, hi ≤ t → t < n → x ≤ zs.getD t 0)))
    case atStart => exact ⟨0, n, 0, rfl, rfl, Nat.zero_le _, Nat.le_refl _, by omega, rfl, fun t ht => absurd ht (Nat.not_lt_zero _), fun t h1 h2 => by omega⟩
    case round =>
      obtain ⟨lo, hi, q, rfl, rfl, hlh, hin, hg, rfl, I⟩ := hrel
      by_cases hlt : lo < hi
      · have cm : w.cell? ⟨b, off + (lo + hi) / 2, none⟩ = some (.int .u64 (zs.getD ((lo + hi) / 2) 0)) := HC.out _ (by omega)
        generalize hy : zs.getD ((lo + hi) / 2) 0 = y at cm
        have Y : Hid (zs.getD ((lo + hi) / 2) 0 = y) := hy
        clear hy
        by_cases hyx : y < x
        · have hd : decide (y < x) = true := decide_eq_true hyx
          go_wp2_with (first | (go_at_call 118; go_loud (refine (HL.out _ _ _).mono ?_; rintro e w' ⟨rfl, hw9⟩; have hw8 := hw9.symm; clear hw9; subst hw8)))
          go_roundg (hi - ((lo + hi) / 2 + 1))
          case measure => omega
          case rel =>
            refine ⟨(lo + hi) / 2 + 1, hi, _, by rw [show ((lo : Int) + (hi : Int)) / 2 + 1 = (((lo + hi) / 2 + 1 : Nat) : Int) by omega], rfl, by omega, hin, Nat.le_refl _, rfl, fun t ht => ?_, I.out.2⟩
            have := S.out t ((lo + hi) / 2) (by omega) (by omega)
            rw [Y.out] at this
            omega
        · have hd : decide (y < x) = false := decide_eq_false hyx
          go_wp2_with (first | (go_at_call 118; go_loud (refine (HL.out _ _ _).mono ?_; rintro e w' ⟨rfl, hw9⟩; have hw8 := hw9.symm; clear hw9; subst hw8)))
          go_roundg ((lo + hi) / 2 - lo)
          case measure => omega
          case rel =>
            refine ⟨lo, (lo + hi) / 2, _, rfl, by rw [show ((lo : Int) + (hi : Int)) / 2 = (((lo + hi) / 2 : Nat) : Int) by omega], by omega, by omega, Nat.le_refl _, rfl, I.out.1, fun t ht htn => ?_⟩
            have := S.out ((lo + hi) / 2) t ht htn
            rw [Y.out] at this
            omega
      · have : hi = lo := by omega
        subst this
        have E : Hid (decide (x ∈ zs) = decide (hi < n ∧ zs.getD hi 0 = x)) := by
          obtain ⟨e1, e2⟩ := Lib.search_end zs n hi x HZ.out hin I.out.1 I.out.2 S.out
          rw [HT.out] at e2
          show decide (x ∈ zs) = _
          rw [← e2]
          simp
        by_cases hn : hi < n
        · have cl : w.cell? ⟨b, off + hi, none⟩ = some (.int .u64 (zs.getD hi 0)) := HC.out _ (by omega)
          generalize hy : zs.getD hi 0 = y at cl
          have Y : Hid (zs.getD hi 0 = y) := hy
          clear hy
          by_cases hyx : y = x
          · have hE : decide (x ∈ zs) = true := by rw [E.out, Y.out]; exact decide_eq_true ⟨hn, hyx⟩
            have HE := hidV hE
            clear hE
            go_wp2_with (first | (go_at_call 119; go_loud (refine (HNN.out _ _).mono ?_; rintro e w' ⟨rfl, hw9⟩; have hw8 := hw9.symm; clear hw9; subst hw8)))
            go_ret2
            refine ⟨(hi : Int), ?_, _, rfl⟩
            rw [HE.out]
            first | rfl | simp [*]
          · have hE : decide (x ∈ zs) = false := by rw [E.out, Y.out]; exact decide_eq_false fun h => hyx h.2
            have HE := hidV hE
            clear hE
            go_wp2_with (first | (go_at_call 119; go_loud (refine (HNN.out _ _).mono ?_; rintro e w' ⟨rfl, hw9⟩; have hw8 := hw9.symm; clear hw9; subst hw8)))
            go_ret2
            refine ⟨(hi : Int), ?_, _, rfl⟩
            rw [HE.out]
            first | rfl | simp [*]
        · have hE : decide (x ∈ zs) = false := by rw [E.out]; exact decide_eq_false fun h => hn h.1
          have HE := hidV hE
          clear hE
          go_wp2_with (first | (go_at_call 119; go_loud (refine (HNN.out _ _).mono ?_; rintro e w' ⟨rfl, hw9⟩; have hw8 := hw9.symm; clear hw9; subst hw8)))
          go_ret2
          refine ⟨(hi : Int), ?_, _, rfl⟩
          rw [HE.out]
          first | rfl | simp [*]
end Vr
end Go.Proofs.YtaejjpbpnedblaaGreat
namespace Go.Proofs.YtaejjpbpnedblaaGreat
namespace Vr
open Go.Shelf Go.RowKit Go.Lib Go.Sort Go.Maps Go.ChangeMaps Go.MapKept Laws Irw Crw
set_option linter.unusedVariables false
set_option linter.unusedSimpArgs false
set_option maxRecDepth 20000
theorem Ls.otherU {w : World} {s : Sv} {l : List Int} {A : Nat} (h : Ls kU w s l) (hA : ∀ b off, s.1 = some ⟨b, off, none⟩ → b ≠ A) (k : Nat) (v : Value) : Ls kU (w.setCell ⟨A, k, none⟩ v) s l := h.keep (fun b off e _ => Below.heap_setCell w _ _ b (hA b off e)) (by simp)
theorem mem_sorted (xs : List Int) (x : Int) : x ∈ xs.mergeSort leI ↔ x ∈ xs := (List.mergeSort_perm xs leI).mem_iff
theorem sorted_le (xs : List Int) : (xs.mergeSort leI).Pairwise (· ≤ ·) := by
  have := List.pairwise_mergeSort (le := leI) (fun a b c h1 h2 => by unfold leI at *; simp at *; omega) (fun a b => by unfold leI; simp; omega) xs
  refine this.imp fun h => ?_
  unfold leI at h
  simpa using h
def hitsL (xs : List Int) (j : Jb) : Bool := (j.up ++ j.lo).any fun t => decide ((t.no : Int) ∈ xs)
def ffrL (xs : List Int) : (Nat → Bool) → List Jx → Option Jx
  | _, [] => none
  | r, y :: ys => if r y.j.lv.toNat || r (y.j.lv.toNat + 1) || hitsL xs y.j then ffrL xs (mkR r y.j.lv.toNat) ys else some y
theorem ffrL_go {xs : List Int} {r : Nat → Bool} {y : Jx} {ys : List Jx} {l : Nat} (hl : y.j.lv = l) (h : (r l || r (l + 1) || hitsL xs y.j) = true) : ffrL xs r (y :: ys) = ffrL xs (mkR r l) ys := by
  have e : y.j.lv.toNat = l := by rw [hl]; rfl
  show (if r y.j.lv.toNat || r (y.j.lv.toNat + 1) || hitsL xs y.j then _ else _) = _
  rw [e, if_pos h]
theorem ffrL_stop {xs : List Int} {r : Nat → Bool} {y : Jx} {ys : List Jx} {l : Nat} (hl : y.j.lv = l) (h : (r l || r (l + 1) || hitsL xs y.j) = false) : ffrL xs r (y :: ys) = some y := by
  have e : y.j.lv.toNat = l := by rw [hl]; rfl
  show (if r y.j.lv.toNat || r (y.j.lv.toNat + 1) || hitsL xs y.j then _ else _) = _
  rw [e, if_neg (by rw [h]; decide)]
/-- what lies there while a free job is looked for -/
structure FSL (w : World) (A : Nat) (sg : Sv) (R : Nat) (xs : List Int) (r : Nat → Bool) (W : World) : Prop where
  a : Zb W A (jbC 0 nS nS ⟨#[]⟩ false)
  r : Zb W R (rsC r)
  g : Ls kU W sg (xs.mergeSort leI)
  b : RowKit.Below w.heap.size w W
theorem FSL.below {w W W' : World} {A R : Nat} {sg : Sv} {xs : List Int} {r : Nat → Bool} (h : FSL w A sg R xs r W) (hb : RowKit.Below W.heap.size W W') : FSL w A sg R xs r W' :=
  ⟨h.a.below hb, h.r.below hb, h.g.below hb, h.b.trans (hb.mono h.b.size)⟩
theorem FSL.set {w W : World} {A R : Nat} {sg : Sv} {xs : List Int} {r : Nat → Bool} (h : FSL w A sg R xs r W) (l : Nat) (hl : l < 4) (hR : w.heap.size ≤ R) (hA : A ≠ R) (hg : ∀ b off, sg.1 = some ⟨b, off, none⟩ → b ≠ R) : FSL w A sg R xs (mkR r l) ((W.setCell ⟨R, l, none⟩ (.bool true)).setCell ⟨R, l + 1, none⟩ (.bool true)) :=
  ⟨(h.a.other (w' := W) _ _ hA).other (w' := W) _ _ hA, by rw [← rsC_set r l hl]; exact (h.r.set l _).set (l + 1) _, (h.g.otherU hg l _).otherU hg (l + 1) _, (h.b.setCell (p := ⟨R, l, none⟩) hR _).setCell (p := ⟨R, l + 1, none⟩) hR _⟩
set_option maxHeartbeats 4000000 in
theorem firstFree2_any (ja : Option Addr) (jc : Nat) (js : List Jx) (la : Option Addr) (ln lc : Nat) (xs : List Int) (w : World) (hj : Ls kJ w (ja, js.length, jc) js) (hJ : ∀ y ∈ js, JAt w y.us y.ls y.j ∧ (∃ l : Nat, y.j.lv = l ∧ l < 4) ∧ y.j.up.length ≤ 1000000 ∧ y.j.lo.length ≤ 1000000) (hn : js.length ≤ 100) (hlo : Ls kU w (la, ln, lc) xs) (hbig : ln ≤ 17592186044416) :
    Calls Tryz.prog 73 #[.slice ja js.length jc, .slice la ln lc] w fun e w' => FfIs w (ffrL xs (fun _ => false) js) e w' := by
  have HJ := hidV (And.intro hj hJ)
  have HLo := hidV hlo
  have HBG := hidV hbig
  clear hj hJ hlo hbig
  obtain ⟨W1, hW1⟩ : ∃ W1, (w.alloc (Obj.cells #[.int .i64 0, .slice none 0 0, .slice none 0 0, .string ⟨#[]⟩, .bool false] 62)).alloc (Obj.cells #[.slice la ln lc] 26) = W1 := ⟨_, rfl⟩
  have H1 : Hid (RowKit.Below w.heap.size w W1 ∧ Zb W1 w.heap.size (jbC 0 nS nS ⟨#[]⟩ false) ∧ Zb W1 (w.heap.size + 1) [.slice la ln lc]) := by
    subst hW1
    exact ⟨((Below.refl _ _).alloc (Nat.le_refl _) _).alloc (by simp) _, (Zb.new w _ _).below ((Below.refl _ _).alloc (Nat.le_refl _) _), Zb.new2 w _ _ _⟩
  have HSo : Hid (Calls Tryz.prog 96 #[.func (.func 117) #[] #[.pointer (some ⟨w.heap.size + 1, 0, none⟩)]] W1 fun e w' => ∃ (sa : Option Addr) (sn sc : Nat), e = .returned (.slice sa sn sc) ∧ Ls kU w' (sa, sn, sc) (xs.mergeSort leI) ∧ RowKit.Below W1.heap.size W1 w' ∧ (∀ b off, sa = some ⟨b, off, none⟩ → b < w'.heap.size)) := by
    refine (sortedN_any W1 (w.heap.size + 1) la lc ln xs HLo.out.2.1.symm HBG.out H1.out.2.2.1 (H1.out.2.2.2.1 0 _ rfl) (fun j hj => ?_)).mono ?_
    · obtain ⟨z, hz⟩ : ∃ z, xs[j]? = some z := ⟨_, List.getElem?_eq_getElem (by have := HLo.out.2.1; change ln = xs.length at this; omega)⟩
      obtain ⟨b, off, e, hb, hcell⟩ := (HLo.out.below H1.out.1).cell hz
      refine ⟨b, off, e, hb, ?_⟩
      have := hcell 0 _ rfl
      rw [show off + j * kU.size + 0 = off + j by show off + j * 1 + 0 = off + j; omega] at this
      rw [this, hz]
      rfl
    · rintro e w' ⟨⟨sa, sn, sc⟩, he, h1, h2, h3⟩
      exact ⟨sa, sn, sc, he, h1, h2, fun b off e => (h3 b off e).2⟩
  go_enter Tryz.func73, Tryz.ntmps73
  go_wp2
  go_step3
  go_upto_region 2 with (first
    | (go_at_call 97; go_loud (refine (valuesU _ _ _ _).mono ?_; rintro e w8 ⟨rfl, rfl⟩; (try rw [hW1])))
    | (go_at_call 96; go_loud ((try simp only [World.size_alloc]); refine HSo.out.mono ?_; rintro e w2 ⟨sa, sn, sc, rfl, hz2, hb2, hf2⟩; have H2 := hidV (And.intro hz2 (And.intro hb2 hf2)); clear hz2 hb2 hf2)))
  clear hW1 HSo
  obtain ⟨W3, hW3⟩ : ∃ W3, w2.alloc (Obj.cells #[.bool false, .bool false, .bool false, .bool false, .bool false] 172) = W3 := ⟨_, rfl⟩
  have HF : Hid (FSL w w.heap.size (sa, sn, sc) w2.heap.size xs (fun _ => false) W3) := by
    subst hW3
    have hb3 : RowKit.Below w2.heap.size w2 (w2.alloc (Obj.cells #[.bool false, .bool false, .bool false, .bool false, .bool false] 172)) := (Below.refl _ _).alloc (Nat.le_refl _) _
    have hb := H1.out.1.trans (H2.out.2.1.mono H1.out.1.size)
    exact ⟨(H1.out.2.1.below H2.out.2.1).below hb3, Zb.new w2 _ _, H2.out.1.below hb3, hb.trans (hb3.mono hb.size)⟩
  have hR : w.heap.size ≤ w2.heap.size := Nat.le_trans H1.out.1.size H2.out.2.1.size
  have hA : w.heap.size ≠ w2.heap.size := by have h1 := H1.out.2.1.1; have h2 := H2.out.2.1.size; omega
  have hg : ∀ b off, sa = some ⟨b, off, none⟩ → b ≠ w2.heap.size := fun b off e => by have := H2.out.2.2 b off e; omega
  have HN3 := hidV (And.intro hR (And.intro hA hg))
  clear hR hA hg H1 H2
  go_wp2
  (try rw [hW3])
  clear hW3
  generalize w2.heap.size = R at *
  go_step3
  go_wp2
  go_loopw [22] (fun i wr => ∃ (k : Nat) (r : Nat → Bool), k ≤ js.length ∧ i = .int .i64 (k : Int) ∧ Hid (FSL w w.heap.size (sa, sn, sc) R xs r wr ∧ ffrL xs (fun _ => false) js = ffrL xs r (js.drop k))) (fun i _ => js.length - (intOf i).toNat)
  case atStart => exact ⟨0, fun _ => false, Nat.zero_le _, rfl, HF.out, rfl⟩
  case round =>
    obtain ⟨k, r, hk, rfl, HX⟩ := hrel
    by_cases hlt : k < js.length
    · obtain ⟨y, hy⟩ : ∃ y, js[k]? = some y := ⟨_, List.getElem?_eq_getElem hlt⟩
      have HD : Hid (js.drop k = y :: js.drop (k + 1)) := by
        rw [List.getElem?_eq_some_iff] at hy
        obtain ⟨h1, h2⟩ := hy
        show js.drop k = _
        rw [List.drop_eq_getElem_cons h1, h2]
      obtain ⟨b1, o1, e1, hb1, hc1⟩ := (HJ.out.1.below HX.out.1.b).cell hy
      change ja = _ at e1
      subst e1
      obtain ⟨hyJ, ⟨l, hl, hl4⟩, hu1, hlo1⟩ := HJ.out.2 y (List.mem_of_getElem? hy)
      obtain ⟨j, ⟨ua, un, uc⟩, ⟨va, vn, vc⟩⟩ := y
      dsimp only at *
      have e3 : un = j.up.length := hyJ.1.2.1
      have e4 : vn = j.lo.length := hyJ.2.2.1
      subst e3 e4
      have HY := hidV (And.intro hyJ (And.intro hl (And.intro hu1 hlo1)))
      have z0 := hc1 0 _ rfl
      have z1 := hc1 1 _ rfl
      have z2 := hc1 2 _ rfl
      have z3 := hc1 3 _ rfl
      have z4 := hc1 4 _ rfl
      rw [show o1 + k * kJ.size + 0 = o1 + k * 5 from rfl, hl] at z0
      rw [show o1 + k * kJ.size + 1 = o1 + k * 5 + 1 from rfl] at z1
      rw [show o1 + k * kJ.size + 2 = o1 + k * 5 + 2 from rfl] at z2
      rw [show o1 + k * kJ.size + 3 = o1 + k * 5 + 3 from rfl] at z3
      rw [show o1 + k * kJ.size + 4 = o1 + k * 5 + 4 from rfl] at z4
      have q1 : (k : Int) < (js.length : Int) := by omega
      clear hc1 hyJ hl hu1 hlo1 hy
      go_upto_region 6 with (fail)
      obtain ⟨W5, hW5⟩ : ∃ W5, wr.alloc (Obj.cells #[.int .i64 (l : Int), .slice ua j.up.length uc, .slice va j.lo.length vc, .string j.cut, .bool j.mv] 62) = W5 := ⟨_, rfl⟩
      have H5 : Hid (FSL w w.heap.size (sa, sn, sc) R xs r W5 ∧ Zb W5 wr.heap.size (jbC (l : Int) (ua, j.up.length, uc) (va, j.lo.length, vc) j.cut j.mv) ∧ wr.heap.size ≠ R) := by
        subst hW5
        exact ⟨HX.out.1.below ((Below.refl _ _).alloc (Nat.le_refl _) _), Zb.new wr _ _, by have := HX.out.1.r.1; omega⟩
      have HR6 : Hid (FSL w w.heap.size (sa, sn, sc) R xs (mkR r l) ((W5.setCell ⟨R, l, none⟩ (.bool true)).setCell ⟨R, l + 1, none⟩ (.bool true))) := H5.out.1.set l hl4 HN3.out.1 HN3.out.2.1 HN3.out.2.2
      rw [hW5]
      clear hW5 z0 z1 z2 z3 z4 hb1
      obtain ⟨jn, hjn⟩ : ∃ jn, wr.heap.size = jn := ⟨_, rfl⟩
      rw [hjn] at H5
      rw [hjn]
      clear hjn
      have y0 := H5.out.2.1.2.1 0 _ rfl
      have m0 := H5.out.1.r.2.1 l _ (rsC_get r l (by omega))
      have m1 := H5.out.1.r.2.1 (l + 1) _ (rsC_get r (l + 1) (by omega))
      have f0 := H5.out.1.r.2.2 l
      have f1 := H5.out.1.r.2.2 (l + 1)
      have q2 : IntKind.i64.wrap ((l : Int) + 2) = (l : Int) + 2 := IntWalk.i64_in _ (by omega)
      have q3 : (0 : Int) ≤ (l : Int) := by omega
      have q4 : (l : Int) + 2 ≤ 5 := by omega
      have q5 : (l : Int) ≤ (l : Int) + 2 := by omega
      have q6 : l + 2 - l = 2 := by omega
      have m2 : (W5.setCell ⟨R, l, none⟩ (.bool true)).cell? ⟨R, l + 1, none⟩ = some (.bool (r (l + 1))) := (World.cell?_setCell_other _ _ _ _ (by intro e; have := congrArg Addr.off e; simp at this)).trans m1
      have f2 : (W5.setCell ⟨R, l, none⟩ (.bool true)).frozen? ⟨R, l + 1, none⟩ = false := by rw [World.frozen?_setCell]; exact f1
      cases h0 : r l with
      | true =>
        rw [h0] at m0
        have HR0 := hidV h0
        clear h0
        go_wp2
        go_roundw
        case rel => exact ⟨k + 1, mkR r l, by omega, by go_num, HR6.out, HX.out.2.trans (by rw [HD.out]; exact ffrL_go HY.out.2.1 (by simp [HR0.out]))⟩
        case measure => simp [intOf]; omega
      | false =>
        rw [h0] at m0
        have HR0 := hidV h0
        clear h0
        cases h1 : r (l + 1) with
        | true =>
          rw [h1] at m1 m2
          have HR1 := hidV h1
          clear h1
          go_wp2
          go_roundw
          case rel => exact ⟨k + 1, mkR r l, by omega, by go_num, HR6.out, HX.out.2.trans (by rw [HD.out]; exact ffrL_go HY.out.2.1 (by simp [HR1.out]))⟩
          case measure => simp [intOf]; omega
        | false =>
          rw [h1] at m1 m2
          have HR1 := hidV h1
          clear h1
          have HJn : Hid (Zb ((W5.setCell ⟨R, l, none⟩ (.bool true)).setCell ⟨R, l + 1, none⟩ (.bool true)) jn (jbC (l : Int) (ua, j.up.length, uc) (va, j.lo.length, vc) j.cut j.mv)) := (H5.out.2.1.other (w' := W5) _ _ H5.out.2.2).other (w' := W5) _ _ H5.out.2.2
          go_upto_region 9 with (fail)
          obtain ⟨W6, hW6⟩ : ∃ W6, ((W5.setCell ⟨R, l, none⟩ (.bool true)).setCell ⟨R, l + 1, none⟩ (.bool true)) = W6 := ⟨_, rfl⟩
          rw [hW6] at HJn HR6
          rw [hW6]
          clear hW6 m0 m1 m2 f0 f1 f2 y0
          have y1 := HJn.out.2.1 1 _ rfl
          have y2 := HJn.out.2.1 2 _ rfl
          go_wp2
          go_loopw [50] (fun i wr => ∃ m : Nat, ((m = 0 ∧ i = .int .i64 0) ∨ (m = 1 ∧ i = .int .i64 1) ∨ (m = 2 ∧ i = .int .i64 2)) ∧ Hid (RowKit.Below W6.heap.size W6 wr ∧ (1 ≤ m → ∀ t ∈ j.up, (t.no : Int) ∉ xs) ∧ (2 ≤ m → ∀ t ∈ j.lo, (t.no : Int) ∉ xs))) (fun i _ => 2 - (intOf i).toNat)
          case atStart => exact ⟨0, .inl ⟨rfl, rfl⟩, Below.refl _ _, by omega, by omega⟩
          case round =>
            obtain ⟨m, hm3, HL2⟩ := hrel
            rename World => wr2
            rcases hm3 with ⟨rfl, rfl⟩ | ⟨rfl, rfl⟩ | ⟨rfl, rfl⟩
            · skip
              have ix := fun W => idx2a ua va j.up.length j.lo.length uc vc W
              have q9 : (j.up.length : Int) ≤ 1000000 := by have := HY.out.2.2.1; omega
              go_wp2
              go_loopw [55] (fun i wr => ∃ p : Nat, p ≤ j.up.length ∧ i = .int .i64 (p : Int) ∧ Hid (RowKit.Below W6.heap.size W6 wr ∧ ∀ t ∈ j.up.take p, (t.no : Int) ∉ xs)) (fun i _ => j.up.length - (intOf i).toNat)
              case atStart => exact ⟨0, Nat.zero_le _, rfl, HL2.out.1, by simp⟩
              case round =>
                obtain ⟨p, hp, rfl, HL3⟩ := hrel
                rename World => wr3
                by_cases hlp : p < j.up.length
                · obtain ⟨t, ht⟩ : ∃ t, j.up[p]? = some t := ⟨_, List.getElem?_eq_getElem hlp⟩
                  have HT := hidV ht
                  obtain ⟨b2, o2, e2, hb2, hc2⟩ := ((HY.out.1.1.below HR6.out.b).below HL3.out.1).cell ht
                  change ua = _ at e2
                  subst e2
                  have t0 := hc2 0 _ rfl
                  have t1 := hc2 1 _ rfl
                  have t2 := hc2 2 _ rfl
                  have t3 := hc2 3 _ rfl
                  have t4 := hc2 4 _ rfl
                  have t5 := hc2 5 _ rfl
                  rw [show o2 + p * kTb.size + 0 = o2 + p * 6 from rfl] at t0
                  rw [show o2 + p * kTb.size + 1 = o2 + p * 6 + 1 from rfl] at t1
                  rw [show o2 + p * kTb.size + 2 = o2 + p * 6 + 2 from rfl] at t2
                  rw [show o2 + p * kTb.size + 3 = o2 + p * 6 + 3 from rfl] at t3
                  rw [show o2 + p * kTb.size + 4 = o2 + p * 6 + 4 from rfl] at t4
                  rw [show o2 + p * kTb.size + 5 = o2 + p * 6 + 5 from rfl] at t5
                  have q1 : (p : Int) < (j.up.length : Int) := by omega
                  clear hc2 ht
                  obtain ⟨tn, tw, tb, te, tl, tg⟩ := t
                  dsimp only at t0 t1 t2 t3 t4 t5
                  obtain ⟨W7, hW7⟩ : ∃ W7, wr3.alloc (Obj.cells #[.int .u64 (tn : Int), .int .i64 tw, .int .i64 tb, .int .i64 te, .string tl, .string tg] 76) = W7 := ⟨_, rfl⟩
                  have H7 : Hid (RowKit.Below W6.heap.size W6 W7 ∧ Ls kU W7 (sa, sn, sc) (xs.mergeSort leI) ∧ Zb W7 wr3.heap.size [.int .u64 (tn : Int), .int .i64 tw, .int .i64 tb, .int .i64 te, .string tl, .string tg]) := by
                    subst hW7
                    have h7 := HL3.out.1.alloc HL3.out.1.size (Obj.cells #[.int .u64 (tn : Int), .int .i64 tw, .int .i64 tb, .int .i64 te, .string tl, .string tg] 76)
                    exact ⟨h7, HR6.out.g.below h7, Zb.new wr3 _ _⟩
                  have v0 := H7.out.2.2.2.1 0 _ rfl
                  have HB : Hid (Calls Tryz.prog 98 #[.slice sa sn sc, .int .u64 (tn : Int)] W7 fun e w' => BkIs (xs.mergeSort leI) tn W7 e w') := bsearch_any sa sn sc (xs.mergeSort leI) tn W7 H7.out.2.1 (by have h8 := H7.out.2.1.2.1; have h9 := HLo.out.2.1; rw [List.length_mergeSort] at h8; change sn = _ at h8; change ln = _ at h9; have := HBG.out; omega) (sorted_le xs)
                  go_upto_region 16 with (fail)
                  (try rw [hW7])
                  clear hW7 t0 t1 t2 t3 t4 t5 hb2
                  by_cases hx : (tn : Int) ∈ xs
                  · have HB2 : Hid (Calls Tryz.prog 98 #[.slice sa sn sc, .int .u64 (tn : Int)] W7 fun e w' => ∃ i : Int, e = .returned (.tuple #[.int .i64 i, .bool true]) ∧ ∃ q, w' = W7.drewN q) := by
                      have hd : decide ((tn : Int) ∈ xs.mergeSort leI) = true := by simp [mem_sorted, hx]
                      have := HB.out
                      unfold BkIs at this
                      rw [hd] at this
                      exact this
                    have HHt : Hid (hitsL xs j = true) := by
                      show hitsL xs j = true
                      unfold hitsL
                      rw [List.any_eq_true]
                      exact ⟨_, List.mem_append_left _ (List.mem_of_getElem? HT.out), by simpa using hx⟩
                    clear HB hx
                    go_wp2_with (go_at_call 98; go_loud (refine HB2.out.mono ?_; rintro e w99 ⟨i9, rfl, q99, rfl⟩))
                    go_roundw
                    case rel => exact ⟨k + 1, mkR r l, by omega, by go_num, HR6.out.below (bl_dn H7.out.1 _), HX.out.2.trans (by rw [HD.out]; exact ffrL_go HY.out.2.1 (by simp [HHt.out]))⟩
                    case measure => simp [intOf]; omega
                  · have HB2 : Hid (Calls Tryz.prog 98 #[.slice sa sn sc, .int .u64 (tn : Int)] W7 fun e w' => ∃ i : Int, e = .returned (.tuple #[.int .i64 i, .bool false]) ∧ ∃ q, w' = W7.drewN q) := by
                      have hd : decide ((tn : Int) ∈ xs.mergeSort leI) = false := by simp [mem_sorted, hx]
                      have := HB.out
                      unfold BkIs at this
                      rw [hd] at this
                      exact this
                    have HNx := hidV hx
                    clear HB hx
                    go_wp2_with (go_at_call 98; go_loud (refine HB2.out.mono ?_; rintro e w99 ⟨i9, rfl, q99, rfl⟩))
                    go_roundw
                    case rel =>
                      refine ⟨p + 1, by omega, by go_num, bl_dn H7.out.1 _, fun t ht => ?_⟩
                      rw [List.take_add_one, HT.out] at ht
                      rcases List.mem_append.1 ht with h | h
                      · exact HL3.out.2 t h
                      · simp at h
                        subst h
                        exact HNx.out
                    case measure => simp [intOf]; omega
                · have hp' : p = j.up.length := by omega
                  subst hp'
                  have HNo : Hid (∀ t ∈ j.up, (t.no : Int) ∉ xs) := by have := HL3.out.2; rwa [List.take_length] at this
                  go_wp2
                  go_roundw
                  case rel => exact ⟨1, .inr (.inl ⟨rfl, rfl⟩), HL3.out.1, fun _ => HNo.out, by omega⟩
                  case measure => simp [intOf]
            · skip
              have ix := fun W => idx2b ua va j.up.length j.lo.length uc vc W
              have q9 : (j.lo.length : Int) ≤ 1000000 := by have := HY.out.2.2.2; omega
              go_wp2
              go_loopw [55] (fun i wr => ∃ p : Nat, p ≤ j.lo.length ∧ i = .int .i64 (p : Int) ∧ Hid (RowKit.Below W6.heap.size W6 wr ∧ ∀ t ∈ j.lo.take p, (t.no : Int) ∉ xs)) (fun i _ => j.lo.length - (intOf i).toNat)
              case atStart => exact ⟨0, Nat.zero_le _, rfl, HL2.out.1, by simp⟩
              case round =>
                obtain ⟨p, hp, rfl, HL3⟩ := hrel
                rename World => wr3
                by_cases hlp : p < j.lo.length
                · obtain ⟨t, ht⟩ : ∃ t, j.lo[p]? = some t := ⟨_, List.getElem?_eq_getElem hlp⟩
                  have HT := hidV ht
                  obtain ⟨b2, o2, e2, hb2, hc2⟩ := ((HY.out.1.2.below HR6.out.b).below HL3.out.1).cell ht
                  change va = _ at e2
                  subst e2
                  have t0 := hc2 0 _ rfl
                  have t1 := hc2 1 _ rfl
                  have t2 := hc2 2 _ rfl
                  have t3 := hc2 3 _ rfl
                  have t4 := hc2 4 _ rfl
                  have t5 := hc2 5 _ rfl
                  rw [show o2 + p * kTb.size + 0 = o2 + p * 6 from rfl] at t0
                  rw [show o2 + p * kTb.size + 1 = o2 + p * 6 + 1 from rfl] at t1
                  rw [show o2 + p * kTb.size + 2 = o2 + p * 6 + 2 from rfl] at t2
                  rw [show o2 + p * kTb.size + 3 = o2 + p * 6 + 3 from rfl] at t3
                  rw [show o2 + p * kTb.size + 4 = o2 + p * 6 + 4 from rfl] at t4
                  rw [show o2 + p * kTb.size + 5 = o2 + p * 6 + 5 from rfl] at t5
                  have q1 : (p : Int) < (j.lo.length : Int) := by omega
                  clear hc2 ht
                  obtain ⟨tn, tw, tb, te, tl, tg⟩ := t
                  dsimp only at t0 t1 t2 t3 t4 t5
                  obtain ⟨W7, hW7⟩ : ∃ W7, wr3.alloc (Obj.cells #[.int .u64 (tn : Int), .int .i64 tw, .int .i64 tb, .int .i64 te, .string tl, .string tg] 76) = W7 := ⟨_, rfl⟩
                  have H7 : Hid (RowKit.Below W6.heap.size W6 W7 ∧ Ls kU W7 (sa, sn, sc) (xs.mergeSort leI) ∧ Zb W7 wr3.heap.size [.int .u64 (tn : Int), .int .i64 tw, .int .i64 tb, .int .i64 te, .string tl, .string tg]) := by
                    subst hW7
                    have h7 := HL3.out.1.alloc HL3.out.1.size (Obj.cells #[.int .u64 (tn : Int), .int .i64 tw, .int .i64 tb, .int .i64 te, .string tl, .string tg] 76)
                    exact ⟨h7, HR6.out.g.below h7, Zb.new wr3 _ _⟩
                  have v0 := H7.out.2.2.2.1 0 _ rfl
                  have HB : Hid (Calls Tryz.prog 98 #[.slice sa sn sc, .int .u64 (tn : Int)] W7 fun e w' => BkIs (xs.mergeSort leI) tn W7 e w') := bsearch_any sa sn sc (xs.mergeSort leI) tn W7 H7.out.2.1 (by have h8 := H7.out.2.1.2.1; have h9 := HLo.out.2.1; rw [List.length_mergeSort] at h8; change sn = _ at h8; change ln = _ at h9; have := HBG.out; omega) (sorted_le xs)
                  go_upto_region 16 with (fail)
                  (try rw [hW7])
                  clear hW7 t0 t1 t2 t3 t4 t5 hb2
                  by_cases hx : (tn : Int) ∈ xs
                  · have HB2 : Hid (Calls Tryz.prog 98 #[.slice sa sn sc, .int .u64 (tn : Int)] W7 fun e w' => ∃ i : Int, e = .returned (.tuple #[.int .i64 i, .bool true]) ∧ ∃ q, w' = W7.drewN q) := by
                      have hd : decide ((tn : Int) ∈ xs.mergeSort leI) = true := by simp [mem_sorted, hx]
                      have := HB.out
                      unfold BkIs at this
                      rw [hd] at this
                      exact this
                    have HHt : Hid (hitsL xs j = true) := by
                      show hitsL xs j = true
                      unfold hitsL
                      rw [List.any_eq_true]
                      exact ⟨_, List.mem_append_right _ (List.mem_of_getElem? HT.out), by simpa using hx⟩
                    clear HB hx
                    go_wp2_with (go_at_call 98; go_loud (refine HB2.out.mono ?_; rintro e w99 ⟨i9, rfl, q99, rfl⟩))
                    go_roundw
                    case rel => exact ⟨k + 1, mkR r l, by omega, by go_num, HR6.out.below (bl_dn H7.out.1 _), HX.out.2.trans (by rw [HD.out]; exact ffrL_go HY.out.2.1 (by simp [HHt.out]))⟩
                    case measure => simp [intOf]; omega
                  · have HB2 : Hid (Calls Tryz.prog 98 #[.slice sa sn sc, .int .u64 (tn : Int)] W7 fun e w' => ∃ i : Int, e = .returned (.tuple #[.int .i64 i, .bool false]) ∧ ∃ q, w' = W7.drewN q) := by
                      have hd : decide ((tn : Int) ∈ xs.mergeSort leI) = false := by simp [mem_sorted, hx]
                      have := HB.out
                      unfold BkIs at this
                      rw [hd] at this
                      exact this
                    have HNx := hidV hx
                    clear HB hx
                    go_wp2_with (go_at_call 98; go_loud (refine HB2.out.mono ?_; rintro e w99 ⟨i9, rfl, q99, rfl⟩))
                    go_roundw
                    case rel =>
                      refine ⟨p + 1, by omega, by go_num, bl_dn H7.out.1 _, fun t ht => ?_⟩
                      rw [List.take_add_one, HT.out] at ht
                      rcases List.mem_append.1 ht with h | h
                      · exact HL3.out.2 t h
                      · simp at h
                        subst h
                        exact HNx.out
                    case measure => simp [intOf]; omega
                · have hp' : p = j.lo.length := by omega
                  subst hp'
                  have HNo : Hid (∀ t ∈ j.lo, (t.no : Int) ∉ xs) := by have := HL3.out.2; rwa [List.take_length] at this
                  go_wp2
                  go_roundw
                  case rel => exact ⟨2, .inr (.inr ⟨rfl, rfl⟩), HL3.out.1, fun _ => HL2.out.2.1 (Nat.le_refl _), fun _ => HNo.out⟩
                  case measure => simp [intOf]
            · have HNh : Hid (hitsL xs j = false) := by
                show hitsL xs j = false
                unfold hitsL
                rw [List.any_eq_false]
                intro t ht
                rcases List.mem_append.1 ht with h | h
                · simpa using HL2.out.2.1 (by omega) t h
                · simpa using HL2.out.2.2 (by omega) t h
              have HA9 := hidV (HR6.out.below HL2.out.1).a
              have HJ9 := hidV (HJn.out.below HL2.out.1)
              have w0 := HJ9.out.2.1 0 _ rfl
              have w1 := HJ9.out.2.1 1 _ rfl
              have w3 := HJ9.out.2.1 2 _ rfl
              have w4 := HJ9.out.2.1 3 _ rfl
              have w5 := HJ9.out.2.1 4 _ rfl
              have a0 := HA9.out.2.1 0 _ rfl
              have a1 := HA9.out.2.1 1 _ rfl
              have a2 := HA9.out.2.1 2 _ rfl
              have a3 := HA9.out.2.1 3 _ rfl
              have a4 := HA9.out.2.1 4 _ rfl
              have g0 := HA9.out.2.2 0
              have g1 := HA9.out.2.2 1
              have g2 := HA9.out.2.2 2
              have g3 := HA9.out.2.2 3
              have g4 := HA9.out.2.2 4
              go_wp2
              (try rw [Exit.noGoto_ret])
              have hbz := (HR6.out.below HL2.out.1).b
              refine bodyPost_ret (res_jb rfl _ _ w.heap.size (l : Int) (ua, j.up.length, uc) (va, j.lo.length, vc) j.cut j.mv rfl (((((HA9.out.set 0 _).set 1 _).set 2 _).set 3 _).set 4 _)) rfl ?_
              unfold FfIs
              rw [HX.out.2, HD.out, ffrL_stop HY.out.2.1 (by simp [HR0.out, HR1.out, HNh.out])]
              refine ⟨by show _ = Ending.returned (jbV j.lv _ _ _ _); rw [HY.out.2.1], ?_⟩
              exact ((((hbz.setCell (p := ⟨w.heap.size, 0, none⟩) (Nat.le_refl _) _).setCell (p := ⟨w.heap.size, 1, none⟩) (Nat.le_refl _) _).setCell (p := ⟨w.heap.size, 2, none⟩) (Nat.le_refl _) _).setCell (p := ⟨w.heap.size, 3, none⟩) (Nat.le_refl _) _).setCell (p := ⟨w.heap.size, 4, none⟩) (Nat.le_refl _) _
    · have hk' : k = js.length := by omega
      have HE : Hid (ffrL xs (fun _ => false) js = none) := by
        show ffrL xs (fun _ => false) js = none
        rw [HX.out.2, hk', List.drop_length]
        rfl
      have q1 : ¬ (k : Int) < (js.length : Int) := by omega
      have HA9 := hidV HX.out.1.a
      have a0 := HA9.out.2.1 0 _ rfl
      have a1 := HA9.out.2.1 1 _ rfl
      have a2 := HA9.out.2.1 2 _ rfl
      have a3 := HA9.out.2.1 3 _ rfl
      have a4 := HA9.out.2.1 4 _ rfl
      have g0 := HA9.out.2.2 0
      have g1 := HA9.out.2.2 1
      have g2 := HA9.out.2.2 2
      have g3 := HA9.out.2.2 3
      have g4 := HA9.out.2.2 4
      clear hk'
      go_wp2
      (try rw [Exit.noGoto_ret])
      have hbz := HX.out.1.b
      refine bodyPost_ret (res_jb rfl _ _ w.heap.size 0 nS nS ⟨#[]⟩ false rfl (((((HA9.out.set 0 _).set 1 _).set 2 _).set 3 _).set 4 _)) rfl ?_
      unfold FfIs
      rw [HE.out]
      refine ⟨rfl, ?_⟩
      exact ((((hbz.setCell (p := ⟨w.heap.size, 0, none⟩) (Nat.le_refl _) _).setCell (p := ⟨w.heap.size, 1, none⟩) (Nat.le_refl _) _).setCell (p := ⟨w.heap.size, 2, none⟩) (Nat.le_refl _) _).setCell (p := ⟨w.heap.size, 3, none⟩) (Nat.le_refl _) _).setCell (p := ⟨w.heap.size, 4, none⟩) (Nat.le_refl _) _
end Vr
end Go.Proofs.YtaejjpbpnedblaaGreat
