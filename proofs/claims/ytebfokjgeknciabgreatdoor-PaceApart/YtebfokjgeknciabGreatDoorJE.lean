import Derived.Test.YtebfokjgeknciabGreatDoorProg
import Derived.Test.YtebfokjgeknciabGreatDoorJD
import Derived.WalkKit
import Derived.WalkSpells
import Derived.WalkLawsBesides
import Derived.Deep.RegionLaw
import Derived.Deep.DrawnRows
namespace Go.Proofs.YtebfokjgeknciabGreatDoor
namespace BookI
open Go.RowKit Laws Irw
set_option linter.unusedVariables false
attribute [local go_sem ↓] Go.wp_at_zero Go.wp_at_succ

/-- What stands ahead of 'done'. -/
structure EntPre (T0 : Nat → Nat) (w0 : World) (T : Nat → Nat) (w : World) (K : Nat) (f : Nat → Value) (L : Nat → List Value) (o x : List (Item × Item)) (M D : List Int) (N : Nat) : Prop where
  core : Core T w K f L
  outs : Outs [] 0 T w o
  waits : Its 1000000 T w x
  l40 : L 13 = o.map fun p => vI p.1
  l41 : L 14 = o.map fun p => vI p.2
  l42 : L 15 = x.map fun p => vI p.1
  l43 : L 16 = x.map fun p => vI p.2
  l44 : L 17 = []
  l45 : L 18 = M.map (Value.int .i64)
  l46 : L 19 = D.map (Value.int .i64)
  l47 : L 20 = []
  lM : M.length = x.length
  lD : D.length = x.length
  full : ∀ p ∈ x, p.1.2.2.length ≤ p.1.2.1 ∧ p.1.2.2.length ≤ 1000000000000
  some_ : x ≠ []
  many : o.length + 2 * x.length ≤ 2 * N
  k0 : f 0 = .bool false
  k1 : f 1 = .bool false
  k2 : ∃ t, f 2 = .int .i64 t
  k3 : f 3 = .int .i64 1
  k48 : ∃ s : Nat, f 21 = .int .i64 s ∧ s ≤ N
  rest : Rest f
  past : Past 21 T0 w0 T w

theorem entPre {T T1 T2 T3 T4 : Nat → Nat} {w W1 W2 W3 W4 : World} {K : Nat} {f f1 f2 f3 f4 : Nat → Value} {L L1 L2 L3 L4 : Nat → List Value} {o x : List (Item × Item)} {M D : List Int} {N : Nat} {a : Item} {gc cc : Nat} {mark d : Int} {v : Value}
    (hI : Inv T w K f L o x M D N) (hown1 : OwnI W1 a) (hT1 : T1 a.1 = 1000000 + 2 * x.length) (hcap : a.2.2.length ≤ a.2.1) (hlen : a.2.2.length ≤ 1000000000000)
    (a1 : App K 15 (vI a) T (w.setCell ⟨K, 3, none⟩ (.int .i64 1)) (upd f 3 (.int .i64 1)) L T1 W1 f1 L1) (a2 : App K 16 (vI (gc, cc, a.2.2)) T1 W1 f1 L1 T2 W2 f2 L2) (o2 : OwnI W2 (gc, cc, a.2.2)) (t2 : T2 gc = 1000000 + 2 * x.length + 1)
    (a3 : App K 18 (.int .i64 mark) T2 W2 f2 L2 T3 W3 f3 L3) (a4 : App K 19 (.int .i64 d) T3 W3 f3 L3 T4 W4 f4 L4) (hv : ∃ s : Nat, v = .int .i64 s ∧ s ≤ N + 1) :
    EntPre T w T4 (W4.setCell ⟨K, 21, none⟩ v) K (upd f4 21 v) L4 o (x ++ [(a, (gc, cc, a.2.2))]) (M ++ [mark]) (D ++ [d]) (N + 1) := by
  have P0 : Past 21 T w T (w.setCell ⟨K, 3, none⟩ (.int .i64 1)) := Past.set hI.core.tag (by omega) _ _
  have P1 : Past 21 T w T4 W4 := (((P0.trans a1.past).trans a2.past).trans a3.past).trans a4.past
  have P2 : Past 21 T2 W2 T4 W4 := a3.past.trans a4.past
  have P3 : Past 21 T4 W4 T4 (W4.setCell ⟨K, 21, none⟩ v) := Past.set a4.core.tag (by omega) _ _
  have P : Past 21 T w T4 (W4.setCell ⟨K, 21, none⟩ v) := P1.trans P3
  obtain ⟨b1, b2⟩ := (((a2.past.trans a3.past).trans a4.past).trans P3).item hown1 (.inr (by rw [hT1]; omega))
  obtain ⟨c1, c2⟩ := (P2.trans P3).item o2 (.inr (by show 21 ≤ T2 gc; omega))
  have sm : ∀ j, ¬ (13 ≤ j ∧ j < 21) → j ≠ 3 → j ≠ 21 → upd f4 21 v j = f j := fun j h1 h2 h3 => by
    rw [upd_other _ _ h3, (a4.oth j (by omega)).1, (a3.oth j (by omega)).1, (a2.oth j (by omega)).1, (a1.oth j (by omega)).1, upd_other _ _ h2]
  have hl : ∀ i, L4 i = if i = 15 then L 15 ++ [vI a] else if i = 16 then L 16 ++ [vI (gc, cc, a.2.2)] else if i = 18 then L 18 ++ [.int .i64 mark] else if i = 19 then L 19 ++ [.int .i64 d] else L i := fun i => by
    by_cases e1 : i = 15
    · subst e1; rw [if_pos rfl, (a4.oth 15 (by omega)).2, (a3.oth 15 (by omega)).2, (a2.oth 15 (by omega)).2, a1.at_]
    rw [if_neg e1]
    by_cases e2 : i = 16
    · subst e2; rw [if_pos rfl, (a4.oth 16 (by omega)).2, (a3.oth 16 (by omega)).2, a2.at_, (a1.oth 16 (by omega)).2]
    rw [if_neg e2]
    by_cases e3 : i = 18
    · subst e3; rw [if_pos rfl, (a4.oth 18 (by omega)).2, a3.at_, (a2.oth 18 (by omega)).2, (a1.oth 18 (by omega)).2]
    rw [if_neg e3]
    by_cases e4 : i = 19
    · subst e4; rw [if_pos rfl, a4.at_, (a3.oth 19 (by omega)).2, (a2.oth 19 (by omega)).2, (a1.oth 19 (by omega)).2]
    rw [if_neg e4, (a4.oth i e4).2, (a3.oth i e3).2, (a2.oth i e2).2, (a1.oth i e1).2]
  have hm := hI.many
  refine ⟨a4.core.field 21 (by omega) (by omega) _, hI.outs.past P (by omega), ?_, ?_, ?_, ?_, ?_, ?_, ?_, ?_, ?_, ?_, ?_, ?_, by simp, ?_, ?_, ?_, ?_, ?_, ?_, ?_, P⟩
  · exact (hI.waits.past P (by omega)).snoc b1 c1 rfl (by show a.2.2.length ≤ 2000000000000; omega) (b2.trans hT1) (c2.trans t2)
  · rw [hl 13]; exact hI.l40
  · rw [hl 14]; exact hI.l41
  · rw [hl 15]; simp [hI.l42]
  · rw [hl 16]; simp [hI.l43]
  · rw [hl 17]; exact hI.l44
  · rw [hl 18]; simp [hI.l45]
  · rw [hl 19]; simp [hI.l46]
  · rw [hl 20]; exact hI.l47
  · simp [hI.lM]
  · simp [hI.lD]
  · intro q hq
    simp at hq
    rcases hq with hq | rfl
    · exact hI.full q hq
    · exact ⟨hcap, hlen⟩
  · simp; omega
  · rw [sm 0 (by omega) (by omega) (by omega)]; exact hI.now
  · rw [sm 1 (by omega) (by omega) (by omega)]; exact hI.bad
  · rw [sm 2 (by omega) (by omega) (by omega)]; exact hI.turn
  · rw [upd_other _ _ (by omega), (a4.oth 3 (by omega)).1, (a3.oth 3 (by omega)).1, (a2.oth 3 (by omega)).1, (a1.oth 3 (by omega)).1, upd_same]
  · rw [upd_same]; exact hv
  · intro j j1 j2 j3; rw [sm j (by omega) (by omega) (by omega)]; exact hI.rest j j1 j2 j3

theorem doneE {T0 T : Nat → Nat} {w0 w : World} {K : Nat} {f : Nat → Value} {L : Nat → List Value} {o x : List (Item × Item)} {M D : List Int} {N : Nat} (h : EntPre T0 w0 T w K f L o x M D N) (few : N ≤ 2000) :
    Calls Tryz.prog 33 #[.pointer (some ⟨K, 0, none⟩)] w fun e w' => e = .returned (.tuple #[]) ∧ ∃ T' f' L' o' x' M' D', Inv T' w' K f' L' o' x' M' D' N ∧ Past 9000000 T0 w0 T' w' := by
  obtain ⟨t, ht⟩ := h.k2
  refine (done_any T w K f L o x M D N h.core h.outs h.waits h.l40 h.l41 h.l42 h.l43 h.l44 h.l45 h.l46 h.l47 h.lM h.lD h.full h.some_ h.many few h.k0 h.k1 t ht h.k3 h.k48 h.rest).mono ?_
  rintro e w' ⟨rfl, T', f', L', o', x', M', D', h1, h2⟩
  exact ⟨rfl, T', f', L', o', x', M', D', h1, (h.past.mono (by omega)).trans h2⟩

/-- An append to a spine; a list that lay ahead, or one that is nil and stands for the block that is made first. -/
theorem appEI {T : Nat → Nat} {w w0 w1 : World} {K : Nat} {f : Nat → Value} {L : Nat → List Value} {j : Nat} {x : Value} {aj : Option Addr} {cj g cap n : Nat} {a : Item} (h1 : 13 ≤ j) (h2 : j < 21) (h : Core T w K f L) (hn : (L j).length = n) (hf : f j = .slice aj n cj)
    (hk : Keep [] w w0) (hgr : w0.grownBy w1 (Value.slice aj n cj).ownBlock) (hat : (Value.slice aj n cj).ownBlock = some g ∨ w.heap.size + 1 = g)
    (hown : w1.ownsRow 0 (ety j) 1 (.slice (some ⟨g, 0, none⟩) (n + 1) cap) (n + 1) (L j ++ [x])) (hsz : w.heap.size < w1.heap.size)
    (ha : (OwnI w a ∧ 21 ≤ T a.1) ∨ a = (w.heap.size, nilC, [])) :
    Fld w1 K f ∧ ∃ T' f' L', App K j x T w f L T' (w1.setCell ⟨K, j, none⟩ (.slice (some ⟨g, 0, none⟩) (n + 1) cap)) f' L' ∧ OwnI (w1.setCell ⟨K, j, none⟩ (.slice (some ⟨g, 0, none⟩) (n + 1) cap)) a ∧ T' a.1 = T a.1 := by
  subst hn
  rw [← hf] at hgr hat
  have hgne : g ≠ w.heap.size := by
    rcases hat with h' | h'
    · have := ((h.spine j h1 h2).1.lt g h').2
      omega
    · omega
  obtain ⟨a1, a2⟩ := h.app j h1 h2 x hk hgr (hat.imp id (by omega)) hown
  refine ⟨h.mid j h1 h2 hk hgr, _, _, _, ⟨a1, a2, upd_same _ _ _, fun i hi => ⟨upd_other _ _ hi, upd_other _ _ hi⟩⟩, ?_⟩
  rcases ha with ⟨ha, ht⟩ | rfl
  · exact a2.item ha (.inr ht)
  · exact ⟨.inl ⟨rfl, rfl, by simpa using hsz⟩, upd_other _ _ (Ne.symm hgne)⟩

set_option maxRecDepth 100000 in
set_option maxHeartbeats 8000000 in
theorem bookInts_any (T : Nat → Nat) (w : World) (K : Nat) (f : Nat → Value) (L : Nat → List Value) (o x : List (Item × Item)) (M D : List Int) (N : Nat) (a : Item) (ad : Option Addr) (ca : Nat) (mark : Int) (hI : Inv T w K f L o x M D N) (hN : N + 1 ≤ 2000) (hv : vI a = .slice ad a.2.2.length ca)
    (hown : OwnI w a ∨ a = (w.heap.size, nilC, [])) (hT : T a.1 = 1000000 + 2 * x.length) (hcap : a.2.2.length ≤ a.2.1) (hlen : a.2.2.length ≤ 1000000000000) :
    Calls Tryz.prog 11 #[.pointer (some ⟨K, 0, none⟩), .slice ad a.2.2.length ca, .int .i64 mark] w fun e w' => e = .returned (.tuple #[]) ∧ ∃ T' f' L' o' x' M' D', Inv T' w' K f' L' o' x' M' D' (N + 1) ∧ Past 9000000 T w T' w' := by
  have HI : Hid (Inv T w K f L o x M D N) := hI
  have HV : Hid (vI a = .slice ad a.2.2.length ca) := hv
  have HOW : Hid ((OwnI (w.setCell ⟨K, 3, none⟩ (.int .i64 1)) a ∧ 21 ≤ T a.1) ∨ a = ((w.setCell ⟨K, 3, none⟩ (.int .i64 1)).heap.size, nilC, [])) := by
    rcases hown with hown | hown
    · exact .inl ⟨((Past.set (w := w) hI.core.tag (by omega) 3 (.int .i64 1) : Past 21 T w T _).item hown (.inr (by rw [hT]; omega))).1, by rw [hT]; omega⟩
    · exact .inr (by simpa using hown)
  have HT : Hid (T a.1 = 1000000 + 2 * x.length) := hT
  have HCAP : Hid (a.2.2.length ≤ a.2.1) := hcap
  obtain ⟨i66, hi66, hy0, hy1, hy2⟩ := info_parts info66
  obtain ⟨i54, hi54, hz0, hz1, hz2⟩ := info_parts infoIn
  obtain ⟨i3, hi3, hx0, hx1, hx2⟩ := info_parts info3
  have c3 : w.cell? ⟨K, 3, none⟩ = some (.int .i64 0) := by rw [(hI.core.fld.2 3 (by omega)).1, hI.deep]
  have z3 := (hI.core.fld.2 3 (by omega)).2
  have z42 := (hI.core.fld.2 15 (by omega)).2
  obtain ⟨t, ht⟩ := hI.turn
  obtain ⟨s, hs, hsN⟩ := hI.seen
  have HTS : Hid (f 2 = .int .i64 t ∧ f 21 = .int .i64 s) := ⟨ht, hs⟩
  have hmany := hI.many
  have n42 : (L 15).length ≤ 100000 := by rw [hI.l42]; simp; omega
  have n43 : (L 16).length ≤ 100000 := by rw [hI.l43]; simp; omega
  have n45 : (L 18).length ≤ 100000 := by rw [hI.l45]; simp; have := hI.lM; omega
  have n46 : (L 19).length ≤ 100000 := by rw [hI.l46]; simp; have := hI.lD; omega
  have hC0 := hI.core.field 3 (by omega) (by omega) (.int .i64 1)
  have HC0 : Hid (Core T (w.setCell ⟨K, 3, none⟩ (.int .i64 1)) K (upd f 3 (.int .i64 1)) L) := hC0
  obtain ⟨a42, c42, ef42, d42⟩ := hI.core.len 15 (by omega) (by omega)
  have HF42 : Hid (upd f 3 (.int .i64 1) 15 = .slice a42 (L 15).length c42) := by rw [upd_other _ _ (by omega)]; exact ef42
  have HO42 : Hid ((w.setCell ⟨K, 3, none⟩ (.int .i64 1)).ownsRow 0 33 1 (.slice a42 (L 15).length c42) (L 15).length (L 15)) := by have := (hC0.spine 15 (by omega) (by omega)).1; rw [upd_other _ _ (by omega), ef42] at this; exact this
  clear hI hown hT hcap ht hs hC0 ef42 hv
  go_enter Tryz.func11, Tryz.ntmps11
  go_wp2_with (at_builtin; refine wpList_app _ (by rfl) (.tmp 17) (.tmp 19) 34 (by rfl) 0 33 i66 _ 1 24 Tryz.underlying34 hi66 hy0 hy1 hy2 rfl (by omega) (.slice a42 (L 15).length c42) (L 15).length (L 15) (by rfl) (HO42.out.alloc _) ⟨w.heap.size, 0, none⟩ 1 1 [.slice ad a.2.2.length ca] (by rfl) (by rfl) (by rw [show w.heap.size = (w.setCell ⟨K, 3, none⟩ (.int .i64 1)).heap.size from (by simp)]; exact World.news_of_block (heap_alloc_new (w.setCell ⟨K, 3, none⟩ (.int .i64 1)) _)) (by intro u hu; simp at hu; subst hu; rfl) (by intro _; omega) (by unfold maxLen; omega) (by omega) (Nat.zero_le _) ((w.setCell ⟨K, 3, none⟩ (.int .i64 1)).heap.size + 1) (by simp) ?_; intro g2 c2 w2 hown2 hgr2 hat2 hlt2; have HR2 : Hid (Fld w2 K (upd f 3 (.int .i64 1)) ∧ ∃ T' f' L', App K 15 (.slice ad a.2.2.length ca) T (w.setCell ⟨K, 3, none⟩ (.int .i64 1)) (upd f 3 (.int .i64 1)) L T' (w2.setCell ⟨K, 15, none⟩ (.slice (some ⟨g2, 0, none⟩) ((L 15).length + 1) c2)) f' L' ∧ OwnI (w2.setCell ⟨K, 15, none⟩ (.slice (some ⟨g2, 0, none⟩) ((L 15).length + 1) c2)) a ∧ T' a.1 = T a.1) := appEI (by omega) (by omega) HC0.out rfl HF42.out (Keep.alloc [] _ _) hgr2 (hat2.imp id Eq.symm) hown2 (by have := hgr2.size; rw [World.size_alloc] at this; omega) HOW.out; have s2 := (HR2.out.1.2 15 (by omega)).1; have z2 := (HR2.out.1.2 15 (by omega)).2; clear hown2 hgr2 hat2 hlt2)
  generalize w2.setCell ⟨K, 15, none⟩ (.slice (some ⟨g2, 0, none⟩) ((L 15).length + 1) c2) = W2 at *
  obtain ⟨_, T2, f2, L2, ap2, ow2, tg2⟩ := HR2.out
  have AP2 : Hid (App K 15 _ _ _ _ _ T2 W2 f2 L2) := ap2
  have HI2 : Hid (OwnI W2 a) := ow2
  have HT2 : Hid (T2 a.1 = 1000000 + 2 * x.length) := tg2.trans HT.out
  clear ow2 tg2
  have hK2 := ap2.core.fld.1
  clear HR2 s2 z2 HF42 HO42 d42
  have eL43 : L2 16 = L 16 := (ap2.oth 16 (by omega)).2
  rw [← eL43] at n43
  have z43 := (ap2.core.fld.2 16 (by omega)).2
  obtain ⟨a43, c43, ef43, d43⟩ := ap2.core.len 16 (by omega) (by omega)
  have HF43 : Hid (f2 16 = .slice a43 (L2 16).length c43) := ef43
  have HO43 : Hid (W2.ownsRow 0 33 1 (.slice a43 (L2 16).length c43) (L2 16).length (L2 16)) := by have := (ap2.core.spine 16 (by omega) (by omega)).1; rw [ef43] at this; exact this
  clear ef43
  have HON : Hid ((ad = none → a.2.2.length = 0 ∧ ca = 0 ∧ cellsI a.2.2 = []) ∧ (cellsI a.2.2).length = a.2.2.length * 1 ∧ ∀ b, ad = some b → ∀ j u, (cellsI a.2.2)[j]? = some u → (W2.alloc (.cells #[] 3)).cell? (b.add j) = some u) := (HI2.out.below ((Below.refl _ _).alloc (Nat.le_refl _) _)).news HV.out
  clear ap2 eL43 c3 z3 z42
  go_region_law (first
    | (refine step_appO _ (by rfl) (.tmp 28) (.tmp 29) 33 (by rfl) 0 3 i54 _ 1 8 Tryz.underlying33 hi54 hz0 hz1 hz2 rfl (by omega) W2.heap.size 0 0 [] (by rfl) (World.ownsRow_lit W2 #[] 0 (Nat.zero_le _) (by simp [maxLen]) (by simp)) ad a.2.2.length ca (cellsI a.2.2) (by rfl) HON.out.1 HON.out.2.1 HON.out.2.2 (cellsI_one _) (by unfold maxLen; omega) (by omega) (Nat.zero_le _) (W2.heap.size + 1) (by simp) ?_; intro gc cc w3 hown3 hgr3 hat3 hlt3; have HW3 : Hid (Below W2.heap.size W2 w3 ∧ W2.heap.size ≤ gc ∧ w3.ownsRow 0 3 1 (.slice (some ⟨gc, 0, none⟩) a.2.2.length cc) a.2.2.length (cellsI a.2.2)) := copied hgr3 hat3 hown3; have y43 := (HW3.out.1.cell (p := ⟨K, 16, none⟩) hK2).trans d43; have q43 := (HW3.out.1.frozen (p := ⟨K, 16, none⟩) hK2).trans z43; have hK4 : K < w3.heap.size := Nat.lt_of_lt_of_le hK2 HW3.out.1.size; clear hown3 hgr3 hat3)
    | (refine step_app _ (by rfl) (.tmp 27) (.tmp 31) 34 (by rfl) 0 33 i66 _ 1 24 Tryz.underlying34 hi66 hy0 hy1 hy2 rfl (by omega) (.slice a43 (L2 16).length c43) (L2 16).length (L2 16) (by rfl) ((own_below HO43.out HW3.out.1).alloc _) ⟨w3.heap.size, 0, none⟩ 1 1 [.slice (some ⟨gc, 0, none⟩) a.2.2.length cc] (by rfl) (by rfl) (World.news_of_block (heap_alloc_new w3 _)) (by intro u hu; simp at hu; subst hu; rfl) (by intro _; omega) (by unfold maxLen; omega) (by omega) (Nat.zero_le _) (w3.heap.size + 1) (by simp) ?_; intro g4 c4 w4 hown4 hgr4 hat4 hlt4; have HR4 : Hid (Fld w4 K f2 ∧ ∃ T' f' L', App K 16 (.slice (some ⟨gc, 0, none⟩) a.2.2.length cc) T2 W2 f2 L2 T' (w4.setCell ⟨K, 16, none⟩ (.slice (some ⟨g4, 0, none⟩) ((L2 16).length + 1) c4)) f' L' ∧ OwnI (w4.setCell ⟨K, 16, none⟩ (.slice (some ⟨g4, 0, none⟩) ((L2 16).length + 1) c4)) (gc, cc, a.2.2) ∧ T' gc = 1000000 + 2 * x.length + 1) := appCE (1000000 + 2 * x.length + 1) (by omega) (by omega) (by omega) AP2.out.core rfl HF43.out HW3.out.1 HW3.out.2.1 rfl HW3.out.2.2 (Keep.alloc [] _ _) hgr4 (hat4.imp id (by omega)) hown4; have p43 := (HR4.out.1.2 16 (by omega)).1; have v43 := (HR4.out.1.2 16 (by omega)).2; clear hown4 hgr4 hat4))
  all_goals
    generalize w4.setCell ⟨K, 16, none⟩ (.slice (some ⟨g4, 0, none⟩) ((L2 16).length + 1) c4) = W4 at *
    obtain ⟨_, T4, f4, L4, ap4, o4, t4⟩ := HR4.out
    have hcc : cc ≠ nilC := own_cap HW3.out.2.2
    have AP4 : Hid (App K 16 (vI (gc, cc, a.2.2)) T2 W2 f2 L2 T4 W4 f4 L4) := by show App K 16 _ _ _ _ _ _ _ _ _; rw [vI_not hcc]; exact ap4
    clear hcc
    have HO4 : Hid (OwnI W4 (gc, cc, a.2.2) ∧ T4 gc = 1000000 + 2 * x.length + 1) := ⟨o4, t4⟩
    have hK5 := ap4.core.fld.1
    clear HR4 p43 v43 HF43 HO43 d43 HON y43 q43 hK4 HW3 o4 t4
    have eL45 : L4 18 = L 18 := (ap4.oth 18 (by omega)).2.trans (AP2.out.oth 18 (by omega)).2
    rw [← eL45] at n45
    have z45 := (ap4.core.fld.2 18 (by omega)).2
    obtain ⟨a45, c45, ef45, d45⟩ := ap4.core.len 18 (by omega) (by omega)
    have HF45 : Hid (f4 18 = .slice a45 (L4 18).length c45) := ef45
    have HO45 : Hid (W4.ownsRow 0 3 1 (.slice a45 (L4 18).length c45) (L4 18).length (L4 18)) := by have := (ap4.core.spine 18 (by omega) (by omega)).1; rw [ef45] at this; exact this
    clear ef45
    clear ap4 eL45
    go_wp2_with (at_builtin; refine wpList_app _ (by rfl) (.tmp 39) (.tmp 41) 33 (by rfl) 0 3 i3 _ 1 8 Tryz.underlying33 hi3 hx0 hx1 hx2 rfl (by omega) (.slice a45 (L4 18).length c45) (L4 18).length (L4 18) (by rfl) (HO45.out.alloc _) ⟨W4.heap.size, 0, none⟩ 1 1 [.int .i64 mark] (by rfl) (by rfl) (World.news_of_block (heap_alloc_new W4 _)) (by intro u hu; simp at hu; subst hu; rfl) (by intro _; omega) (by unfold maxLen; omega) (by omega) (Nat.zero_le _) (W4.heap.size + 1) (by simp) ?_; intro g6 c6 w6 hown6 hgr6 hat6 hlt6; have HR6 : Hid (Fld w6 K f4 ∧ ∃ T' f' L', App K 18 (.int .i64 mark) T4 W4 f4 L4 T' (w6.setCell ⟨K, 18, none⟩ (.slice (some ⟨g6, 0, none⟩) ((L4 18).length + 1) c6)) f' L') := appE (by omega) (by omega) AP4.out.core rfl HF45.out (Keep.alloc [] _ _) hgr6 (hat6.imp id (by omega)) hown6; have s6 := (HR6.out.1.2 18 (by omega)).1; have z6 := (HR6.out.1.2 18 (by omega)).2; clear hown6 hgr6 hat6 hlt6)
    generalize w6.setCell ⟨K, 18, none⟩ (.slice (some ⟨g6, 0, none⟩) ((L4 18).length + 1) c6) = W6 at *
    obtain ⟨_, T6, f6, L6, ap6⟩ := HR6.out
    have AP6 : Hid (App K 18 _ _ _ _ _ T6 W6 f6 L6) := ap6
    have hK6 := ap6.core.fld.1
    clear HR6 s6 z6 HF45 HO45 d45
    have eL46 : L6 19 = L 19 := ((ap6.oth 19 (by omega)).2.trans (AP4.out.oth 19 (by omega)).2).trans (AP2.out.oth 19 (by omega)).2
    rw [← eL46] at n46
    have z46 := (ap6.core.fld.2 19 (by omega)).2
    have sm : ∀ j, ¬ (13 ≤ j ∧ j < 21) → j ≠ 3 → f6 j = f j := fun j h1 h2 => by
      rw [(ap6.oth j (by omega)).1, (AP4.out.oth j (by omega)).1, (AP2.out.oth j (by omega)).1, upd_other _ _ h2]
    have y0 : W6.cell? ⟨K, 0, none⟩ = some (.bool false) := by rw [(ap6.core.fld.2 0 (by omega)).1, sm 0 (by omega) (by omega), HI.out.now]
    have y2 : W6.cell? ⟨K, 2, none⟩ = some (.int .i64 t) := by rw [(ap6.core.fld.2 2 (by omega)).1, sm 2 (by omega) (by omega), HTS.out.1]
    have y48 : W6.cell? ⟨K, 21, none⟩ = some (.int .i64 s) := by rw [(ap6.core.fld.2 21 (by omega)).1, sm 21 (by omega) (by omega), HTS.out.2]
    have HSM : Hid (f6 21 = .int .i64 s) := by rw [sm 21 (by omega) (by omega)]; exact HTS.out.2
    obtain ⟨a46, c46, ef46, d46⟩ := ap6.core.len 19 (by omega) (by omega)
    have HF46 : Hid (f6 19 = .slice a46 (L6 19).length c46) := ef46
    have HO46 : Hid (W6.ownsRow 0 3 1 (.slice a46 (L6 19).length c46) (L6 19).length (L6 19)) := by have := (ap6.core.spine 19 (by omega) (by omega)).1; rw [ef46] at this; exact this
    clear ef46
    clear ap6 eL46 sm
    go_region_law (first
      | (refine step_app _ (by rfl) (.tmp 49) (.tmp 56) 33 (by rfl) 0 3 i3 _ 1 8 Tryz.underlying33 hi3 hx0 hx1 hx2 rfl (by omega) (.slice a46 (L6 19).length c46) (L6 19).length (L6 19) (by rfl) (HO46.out.alloc _) ⟨W6.heap.size, 0, none⟩ 1 1 [.int .i64 dq] (by rfl) (by rfl) (World.news_of_block (heap_alloc_new W6 _)) (by intro u hu; simp at hu; subst hu; rfl) (by intro _; omega) (by unfold maxLen; omega) (by omega) (Nat.zero_le _) (W6.heap.size + 1) (by simp) ?_; intro g7 c7 w7 hown7 hgr7 hat7 hlt7; have HR7 : Hid (Fld w7 K f6 ∧ ∃ T' f' L', App K 19 (.int .i64 dq) T6 W6 f6 L6 T' (w7.setCell ⟨K, 19, none⟩ (.slice (some ⟨g7, 0, none⟩) ((L6 19).length + 1) c7)) f' L') := appE (by omega) (by omega) AP6.out.core rfl HF46.out ((Keep.alloc [] _ _).trans (Keep.drew [] _)) hgr7 (hat7.imp id (by omega)) hown7; have s7 := (HR7.out.1.2 19 (by omega)).1; have z7 := (HR7.out.1.2 19 (by omega)).2; clear hown7 hgr7 hat7 hlt7)
      | (go_simp; go_at_call 32; refine (due_any K s t W6.drew y0 y2 (by omega)).mono ?_; rintro e w' ⟨⟨dq, rfl⟩, hw⟩; have hw2 := hw.symm; clear hw; subst hw2))
    all_goals
      generalize w7.setCell ⟨K, 19, none⟩ (.slice (some ⟨g7, 0, none⟩) ((L6 19).length + 1) c7) = W7 at *
      obtain ⟨_, T7, f7, L7, ap7⟩ := HR7.out
      have AP7 : Hid (App K 19 _ _ _ _ _ T7 W7 f7 L7) := ap7
      have hK7 := ap7.core.fld.1
      clear HR7 s7 z7 HF46 HO46 d46
      have y48' : W7.cell? ⟨K, 21, none⟩ = some (.int .i64 s) := by rw [(ap7.core.fld.2 21 (by omega)).1, (ap7.oth 21 (by omega)).1, HSM.out]
      have z48 := (ap7.core.fld.2 21 (by omega)).2
      clear ap7 y0 y2 y48
      go_wp2_with (go_at_call 33; refine (doneE (entPre HI.out HI2.out HT2.out HCAP.out hlen (by rw [HV.out]; exact AP2.out) AP4.out HO4.out.1 HO4.out.2 AP6.out AP7.out (by exact ⟨s + 1, by go_num, by omega⟩)) hN).mono ?_; rintro e w' ⟨rfl, hfin⟩; have HFIN : Hid (∃ T' f' L' o' x' M' D', Inv T' w' K f' L' o' x' M' D' (N + 1) ∧ Past 9000000 T w T' w') := hfin; clear hfin)
      go_end0
      exact ⟨rfl, HFIN.out⟩

end BookI
end Go.Proofs.YtebfokjgeknciabGreatDoor
