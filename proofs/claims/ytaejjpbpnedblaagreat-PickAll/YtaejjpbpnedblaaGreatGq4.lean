import Derived.Test.YtaejjpbpnedblaaGreatFo
import Derived.OrdersHeld
import Derived.Deep.CutRange
import Derived.Deep.CutBlock
import Derived.Deep.DeepCutAuto
import Derived.Deep.RegionHeld3
import Derived.BigQuiet
import Derived.Test.YtaejjpbpnedblaaGreatGq6
namespace Go.Proofs.YtaejjpbpnedblaaGreat
namespace Vr
open Go.Shelf Go.RowKit Go.Lib Go.Sort Go.Maps Go.ChangeMaps Go.MapKept Laws Irw Crw
set_option linter.unusedVariables false
set_option linter.unusedSimpArgs false
set_option maxRecDepth 20000
/-- the upper tables' hull, as the law reckons it -/
def hulT (j : Jb) : Tb := { j.up.getD 0 noT with le := hLe j.up, gr := hGr j.up }
def hulK (u : Tb) (up : List Tb) (k : Nat) : Tb := { u with le := (up.take k).foldl (fun a t => minS a t.le) u.le, gr := (up.take k).foldl (fun a t => maxS a t.gr) u.gr }
theorem hulK_all {j : Jb} {u : Tb} (h : j.up[0]? = some u) : hulK u j.up j.up.length = hulT j := by
  have e : j.up.getD 0 noT = u := by rw [List.getD, h]; rfl
  unfold hulK hulT hLe hGr
  rw [e, List.take_length]
theorem hulK_succ {u t : Tb} {up : List Tb} {k : Nat} (h : up[k]? = some t) : hulK u up (k + 1) = { hulK u up k with le := minS (hulK u up k).le t.le, gr := maxS (hulK u up k).gr t.gr } := by
  unfold hulK
  rw [List.take_add_one, h]
  simp only [Option.toList_some, List.foldl_append, List.foldl_cons, List.foldl_nil]
/-- a job as P16.5 says -/
structure FairJ (c : Cf) (V : Lv) (j : Jb) (i : Nat) : Prop where
  lv : j.lv = (i : Int)
  il : i + 1 < V.length
  up : 0 < j.up.length
  len : j.up.length ≤ 1000000 ∧ j.lo.length ≤ 1000000
  ins : ∀ u ∈ j.up, tin (lev V (i : Int)) u.no = true
  low : ∀ x ∈ j.lo, tin (lev V ((i + 1 : Nat) : Int)) x.no = true ∧ ovT x (hulT j) = true
  nxt : ∀ t ∈ lev V ((i + 1 : Nat) : Int), ovT t (hulT j) = true → tin j.lo t.no = true ∨ (j.cut ≠ ⟨#[]⟩ ∧ ltS t.le j.cut = false)
  zer : i = 0 → j.up.length = (lev V 0).length ∧ j.cut = ⟨#[]⟩ ∧ j.mv = false
  pos : i ≠ 0 → j.mv = (decide (j.lo.length = 0) && decide (i + 2 < V.length)) ∧ (j.cut = ⟨#[]⟩ ∨ (ltS (hulT j).le j.cut = true ∧ ltS (hulT j).gr j.cut = false ∧ (j.lo.length : Int) = c 12)) ∧ j.up.length = 1 ∧ (j.lo.length : Int) ≤ c 12
/-- within the law's fair -/
structure FaS (w : World) (c : Cf) (vb : Nat) (V : Lv) (j : Jb) (i : Nat) (us ls : Sv) (W : World) (H : Nat) (h : Tb) : Prop where
  b : RowKit.Below w.heap.size w W
  cf : Lc W w.heap.size c
  cl : w.heap.size < W.heap.size
  jz : Zb W (w.heap.size + 1) (jbC (i : Int) us ls j.cut j.mv)
  hz : Zb W H (tbC h)
  hl : w.heap.size + 1 < H
theorem FaS.below {w : World} {c : Cf} {vb : Nat} {V : Lv} {j : Jb} {i : Nat} {us ls : Sv} {W W' : World} {H : Nat} {h : Tb} (s : FaS w c vb V j i us ls W H h) (hb : RowKit.Below W.heap.size W W') : FaS w c vb V j i us ls W' H h :=
  ⟨s.b.trans (hb.mono s.b.size), s.cf.keep s.cl hb, Nat.lt_of_lt_of_le s.cl hb.size, s.jz.below hb, s.hz.below hb, s.hl⟩
theorem FaS.set {w : World} {c : Cf} {vb : Nat} {V : Lv} {j : Jb} {i : Nat} {us ls : Sv} {W : World} {H : Nat} {h : Tb} (s : FaS w c vb V j i us ls W H h) (x y : ByteArray) : FaS w c vb V j i us ls ((W.setCell ⟨H, 4, none⟩ (.string x)).setCell ⟨H, 5, none⟩ (.string y)).drew H { h with le := x, gr := y } := by
  have hH : w.heap.size ≠ H := by have := s.hl; omega
  have hJ : w.heap.size + 1 ≠ H := by have := s.hl; omega
  have hd : ∀ X : World, RowKit.Below X.heap.size X X.drew := fun X => (Below.refl _ _).drew
  refine ⟨((s.b.setCell (p := ⟨H, 4, none⟩) (by have := s.hl; show w.heap.size ≤ H; omega) _).setCell (p := ⟨H, 5, none⟩) (by have := s.hl; show w.heap.size ≤ H; omega) _).drew, ?_, by have := s.cl; simpa using this, ?_, ?_, s.hl⟩
  · refine Lc.keep ?_ (by have := s.cl; simpa using this) (hd _)
    intro m v hv
    exact (World.cell?_setCell_other _ _ _ _ (by intro e; exact hH (congrArg Addr.block e).symm)).trans ((World.cell?_setCell_other _ _ _ _ (by intro e; exact hH (congrArg Addr.block e).symm)).trans (s.cf m v hv))
  · exact ((s.jz.other (w' := W) _ _ hJ).other (w' := W) _ _ hJ).below (hd _)
  · exact ((s.hz.set 4 (.string x)).set 5 (.string y)).below (hd _)
theorem keepSF {wq : World} {S : World → Prop} (h : ∀ W, RowKit.Below wq.heap.size wq W → RowKit.Below wq.heap.size wq W ∧ S W) {W W' : World} (h1 : RowKit.Below wq.heap.size wq W ∧ S W) (h2 : RowKit.Below W.heap.size W W') : RowKit.Below wq.heap.size wq W' ∧ S W' := h W' (h1.1.trans (h2.mono h1.1.size))
theorem ls_tb {w : World} {a : Option Addr} {n c : Nat} {l : List Tb} (h : Ls kTb w (a, n, c) l) {i : Nat} {t : Tb} (ht : l[i]? = some t) : ∃ b off, a = some ⟨b, off, none⟩ ∧ b < w.heap.size ∧ w.cell? ⟨b, off + i * 6, none⟩ = some (.int .u64 (t.no : Int)) ∧ w.cell? ⟨b, off + i * 6 + 1, none⟩ = some (.int .i64 t.we) ∧ w.cell? ⟨b, off + i * 6 + 2, none⟩ = some (.int .i64 t.by_) ∧ w.cell? ⟨b, off + i * 6 + 3, none⟩ = some (.int .i64 t.en) ∧ w.cell? ⟨b, off + i * 6 + 4, none⟩ = some (.string t.le) ∧ w.cell? ⟨b, off + i * 6 + 5, none⟩ = some (.string t.gr) := by
  obtain ⟨b, off, e, hb, u, hu, y0, y1, y2, y3, y4, y5⟩ := h.tb (i := i) (List.getElem?_eq_some_iff.1 ht).1
  rw [ht] at hu
  injection hu with hu
  subst hu
  exact ⟨b, off, e, hb, y0, y1, y2, y3, y4, y5⟩
theorem ltS_nilR (x : ByteArray) : ltS x ⟨#[]⟩ = false := by
  rw [← lt_ltS, ByteArray.toList_eq, ByteArray.toList_eq]
  cases x.data.toList <;> rfl
theorem eqlS (x y : ByteArray) (W : World) : Sem.run Tryz.prog (binOp BinOp.eql 9 (.string x) (.string y)) W = .ok (.bool (decide (x = y))) W := by
  have e : (!ltS x y && !ltS y x) = decide (x = y) := by
    by_cases h : x = y
    · subst h; simp [ltS_irrefl]
    · rw [decide_eq_false h]
      cases h1 : ltS x y with
      | true => rfl
      | false =>
        cases h2 : ltS y x with
        | true => rfl
        | false => exact absurd (ltS_tri h1 h2) h
  simp [binOp, run_underlying Tryz.underlying9, Op.stringOp, eq_ltS, e]
end Vr
end Go.Proofs.YtaejjpbpnedblaaGreat
namespace Go.Proofs.YtaejjpbpnedblaaGreat
namespace Vr
open Go.Shelf Go.RowKit Go.Lib Go.Sort Go.Maps Go.ChangeMaps Go.MapKept Laws Irw Crw
set_option linter.unusedVariables false
set_option linter.unusedSimpArgs false
set_option maxRecDepth 20000
theorem tin_mem {l : List Tb} {t : Tb} (h : t ∈ l) : tin l t.no = true := by
  unfold tin
  exact decide_eq_true (List.mem_map.2 ⟨t, h, rfl⟩)
theorem over_ovT (h x : Tb) : over h.le h.gr x = ovT x h := rfl
theorem minS_self (x : ByteArray) : minS x x = x := by unfold minS; split <;> rfl
theorem maxS_self (x : ByteArray) : maxS x x = x := by unfold maxS; split <;> rfl
theorem hLe_one (t : Tb) : hLe [t] = t.le := minS_self t.le
theorem hGr_one (t : Tb) : hGr [t] = t.gr := maxS_self t.gr
/-- of a level from 1 on: where its tables overlap a table's hull, they stand in order, apart -/
theorem apart_filter {V : Lv} (hg : Good V) {i : Nat} (hi : i + 1 < V.length) (p : Tb → Bool) : Apart ((lev V ((i + 1 : Nat) : Int)).filter p) ∧ Rise ((lev V ((i + 1 : Nat) : Int)).filter p) := by
  have hA := hg.apart (i + 1) _ (by omega) (lev_some hi)
  have hH := hg.hull _ (List.mem_of_getElem? (lev_some hi))
  exact ⟨List.Pairwise.filter p hA, List.Pairwise.filter p (hA.rise hH)⟩
theorem pair_get {α : Type} {R : α → α → Prop} {l : List α} (h : l.Pairwise R) {i j : Nat} {x y : α} (hi : l[i]? = some x) (hj : l[j]? = some y) (hij : i < j) : R x y := by
  obtain ⟨h1, rfl⟩ := List.getElem?_eq_some_iff.1 hi
  obtain ⟨h2, rfl⟩ := List.getElem?_eq_some_iff.1 hj
  exact List.pairwise_iff_getElem.1 h i j h1 h2 hij
theorem jobL_fair {c : Cf} {V : Lv} {ps : List ByteArray} {f i : Nat} (hg : Good V) (hfit : Fits V) (hf : c 12 = f) (hc : Cr c V.length) (hi : i + 1 < V.length) (hpos : 0 < (lev V (i : Int)).length) : FairJ c V (jobL f V ps i) i := by
  have hf1 : 1 ≤ f := by have := hc.fa.1; omega
  have hlen := jobL_len (f := f) (ps := ps) (i := i) hfit
  by_cases h0 : i = 0
  · subst h0
    have e : jobL f V ps 0 = whl V (lev V ((0 : Nat) : Int)) := jobL_zero (lev_some (by omega))
    rw [e] at hlen ⊢
    refine ⟨rfl, hi, hpos, hlen, fun u hu => tin_mem hu, fun x hx => ?_, fun t ht ho => Or.inl ?_, fun _ => ⟨rfl, rfl, rfl⟩, fun h => absurd rfl h⟩
    · obtain ⟨h1, h2⟩ := List.mem_filter.1 hx
      exact ⟨tin_mem h1, h2⟩
    · exact tin_mem (List.mem_filter.2 ⟨ht, ho⟩)
  · obtain ⟨t, ht⟩ : ∃ t, (lev V (i : Int))[beh (lev V (i : Int)) (ptr ps i)]? = some t := ⟨_, List.getElem?_eq_getElem (beh_lt _ hpos)⟩
    have e : jobL f V ps i = inp f V.length V i t := by
      unfold jobL
      rw [if_neg h0, List.getD_eq_getElem?_getD, ht]
      rfl
    rw [e] at hlen ⊢
    obtain ⟨lo, hlo⟩ : ∃ lo, (lev V ((i : Int) + 1)).filter (over t.le t.gr) = lo := ⟨_, rfl⟩
    have hlv : lev V ((i + 1 : Nat) : Int) = lev V ((i : Int) + 1) := by rw [show ((i + 1 : Nat) : Int) = (i : Int) + 1 by omega]
    have hAR := apart_filter hg hi (over t.le t.gr)
    rw [hlv, hlo] at hAR
    have ej : inp f V.length V i t = ⟨(i : Int), [t], lo.take f, if f < lo.length then (lo.getD f noT).le else ⟨#[]⟩, (lo.take f).isEmpty && decide (i + 1 < V.length - 1)⟩ := by
      unfold inp dn
      rw [hlo]
    rw [ej] at hlen ⊢
    have hle : hulT ⟨(i : Int), [t], lo.take f, if f < lo.length then (lo.getD f noT).le else ⟨#[]⟩, (lo.take f).isEmpty && decide (i + 1 < V.length - 1)⟩ = t := by
      show ({ t with le := hLe [t], gr := hGr [t] } : Tb) = t
      rw [hLe_one, hGr_one]
    refine ⟨rfl, hi, Nat.lt_succ_self 0, hlen, fun u hu => ?_, fun x hx => ?_, fun x hx ho => ?_, fun h => absurd h h0, fun _ => ⟨?_, ?_, rfl, ?_⟩⟩
    · rw [List.mem_singleton.1 hu]
      exact tin_mem (List.mem_of_getElem? ht)
    · have := List.mem_of_mem_take hx
      rw [← hlo] at this
      obtain ⟨h1, h2⟩ := List.mem_filter.1 this
      rw [hle, hlv]
      exact ⟨tin_mem h1, h2⟩
    · rw [hle] at ho
      rw [hlv] at hx
      have hm : x ∈ lo := by rw [← hlo]; exact List.mem_filter.2 ⟨hx, ho⟩
      obtain ⟨k, hk⟩ := List.getElem?_of_mem hm
      by_cases hkf : k < f
      · left
        refine tin_mem (List.mem_of_getElem? (i := k) ?_)
        rw [List.getElem?_take, if_pos hkf]
        exact hk
      · right
        have hkl := (List.getElem?_eq_some_iff.1 hk).1
        have hfl : f < lo.length := by omega
        obtain ⟨y, hy⟩ : ∃ y, lo[f]? = some y := ⟨_, List.getElem?_eq_getElem hfl⟩
        obtain ⟨z, hz⟩ : ∃ z, lo[0]? = some z := ⟨_, List.getElem?_eq_getElem (by omega)⟩
        have hcut : (if f < lo.length then (lo.getD f noT).le else ⟨#[]⟩) = y.le := by
          rw [if_pos hfl, List.getD_eq_getElem?_getD, hy]
          rfl
        show (if f < lo.length then (lo.getD f noT).le else ⟨#[]⟩) ≠ ⟨#[]⟩ ∧ ltS x.le (if f < lo.length then (lo.getD f noT).le else ⟨#[]⟩) = false
        rw [hcut]
        refine ⟨fun e => ?_, ?_⟩
        · have := pair_get hAR.2 hz hy (by omega)
          rw [e, ltS_nilR] at this
          cases this
        · by_cases hkk : k = f
          · rw [hkk, hy] at hk
            injection hk with hk
            rw [← hk]
            exact ltS_irrefl _
          · exact ltS_asymm (pair_get hAR.2 hy hk (by omega))
    · show ((lo.take f).isEmpty && decide (i + 1 < V.length - 1)) = (decide ((lo.take f).length = 0) && decide (i + 2 < V.length))
      have e1 : (lo.take f).isEmpty = decide ((lo.take f).length = 0) := by
        cases lo.take f with
        | nil => rfl
        | cons a l => rfl
      have e2 : decide (i + 1 < V.length - 1) = decide (i + 2 < V.length) := by
        by_cases h : i + 2 < V.length
        · rw [decide_eq_true h, decide_eq_true (by omega)]
        · rw [decide_eq_false h, decide_eq_false (by omega)]
      rw [e1, e2]
    · rw [hle]
      by_cases hfl : f < lo.length
      · right
        obtain ⟨y, hy⟩ : ∃ y, lo[f]? = some y := ⟨_, List.getElem?_eq_getElem hfl⟩
        obtain ⟨z, hz⟩ : ∃ z, lo[0]? = some z := ⟨_, List.getElem?_eq_getElem (by omega)⟩
        have hcut : (if f < lo.length then (lo.getD f noT).le else ⟨#[]⟩) = y.le := by
          rw [if_pos hfl, List.getD_eq_getElem?_getD, hy]
          rfl
        show ltS t.le (if f < lo.length then (lo.getD f noT).le else ⟨#[]⟩) = true ∧ ltS t.gr (if f < lo.length then (lo.getD f noT).le else ⟨#[]⟩) = false ∧ ((lo.take f).length : Int) = c 12
        rw [hcut]
        have hmem : ∀ q, q ∈ lo → over t.le t.gr q = true := fun q hq => by
          rw [← hlo] at hq
          exact (List.mem_filter.1 hq).2
        have hoz := hmem z (List.mem_of_getElem? hz)
        have hoy := hmem y (List.mem_of_getElem? hy)
        unfold over at hoz hoy
        rw [Bool.and_eq_true, Bool.not_eq_true', Bool.not_eq_true'] at hoz hoy
        refine ⟨ltS_le hoz.1 (pair_get hAR.1 hz hy (by omega)), hoy.2, ?_⟩
        rw [List.length_take, hf]
        omega
      · left
        show (if f < lo.length then (lo.getD f noT).le else ⟨#[]⟩) = ⟨#[]⟩
        rw [if_neg hfl]
    · show ((lo.take f).length : Int) ≤ c 12
      rw [List.length_take, hf]
      omega
end Vr
end Go.Proofs.YtaejjpbpnedblaaGreat
namespace Go.Proofs.YtaejjpbpnedblaaGreat
namespace Vr
open Go.Shelf Go.RowKit Go.Lib Go.Sort Go.Maps Go.ChangeMaps Go.MapKept Laws Irw Crw
set_option linter.unusedVariables false
set_option linter.unusedSimpArgs false
set_option maxRecDepth 20000
/-- stops the level 0? -/
def stp (c : Cf) (V : Lv) : Prop := c 7 ≤ ((lev V 0).length : Int)
theorem rk_asymm {ss : List Int} {a b : Nat} (h1 : rk ss a b) (h2 : rk ss b a) : a = b := by
  unfold rk at *
  omega
theorem rk_irrefl {ss : List Int} {a : Nat} (h : rk ss a a) : False := by
  unfold rk at h
  omega
/-- an order by rk is unique -/
theorem rk_uniq {ss : List Int} : ∀ {l d : List Nat}, l.Perm d → l.Pairwise (rk ss) → d.Pairwise (rk ss) → l = d
  | [], d, hp, _, _ => (List.Perm.nil_eq hp)
  | a :: l, d, hp, h1, h2 => by
    cases d with
    | nil => exact absurd hp.length_eq (by simp)
    | cons b d =>
      have e : a = b := by
        have ha : a ∈ b :: d := hp.mem_iff.1 List.mem_cons_self
        have hb : b ∈ a :: l := hp.mem_iff.2 List.mem_cons_self
        rcases List.mem_cons.1 ha with e | ha
        · exact e
        · rcases List.mem_cons.1 hb with e | hb
          · exact e.symm
          · exact rk_asymm ((List.pairwise_cons.1 h1).1 b hb) ((List.pairwise_cons.1 h2).1 a ha)
      subst e
      rw [rk_uniq ((List.perm_cons a).1 hp) (List.pairwise_cons.1 h1).2 (List.pairwise_cons.1 h2).2]
theorem ord_uniq {ss : List Int} {zs ys : List Nat} (h1 : zs.Perm (dueL ss)) (h2 : zs.Pairwise (rk ss)) (h3 : ys.Perm (dueL ss)) (h4 : ys.Pairwise (rk ss)) : zs = ys := rk_uniq (h1.trans h3.symm) h2 h4
theorem due_mem {ss : List Int} {z : Nat} : z ∈ dueL ss ↔ z < ss.length ∧ 1000 ≤ scA ss z := by
  unfold dueL dueK
  rw [List.mem_filter, List.mem_range, decide_eq_true_eq]
theorem zs_nodup {ss : List Int} {zs : List Nat} (h : zs.Pairwise (rk ss)) : zs.Nodup := h.imp fun {a b} hab e => by
  subst e
  exact rk_irrefl hab
theorem ordL_nodup {c : Cf} {V : Lv} {zs : List Nat} (h : zs.Pairwise (rk (scs c V))) : (ordL c V zs).Nodup := by
  have hn := zs_nodup h
  unfold ordL
  split
  · rw [List.nodup_cons]
    refine ⟨fun hm => ?_, hn.filter _⟩
    have := (List.mem_filter.1 hm).2
    simp at this
  · exact hn
/-- which levels are asked -/
theorem ordL_mem {c : Cf} {V : Lv} {zs : List Nat} (hc : Cr c V.length) (hp : zs.Perm (dueL (scs c V))) {n : Nat} (hn : n + 1 < V.length) : n ∈ ordL c V zs ↔ (1000 ≤ scA (scs c V) n ∨ (n = 0 ∧ stp c V)) := by
  have hl : n < (scs c V).length := by rw [scs_len]; omega
  have hz : n ∈ zs ↔ 1000 ≤ scA (scs c V) n := by rw [hp.mem_iff, due_mem]; exact ⟨fun h => h.2, fun h => ⟨hl, h⟩⟩
  unfold ordL
  by_cases hs : c 7 ≤ ((lev V 0).length : Int)
  · rw [if_pos hs, List.mem_cons, List.mem_filter, hz]
    constructor
    · rintro (rfl | ⟨h, _⟩)
      · exact .inr ⟨rfl, hs⟩
      · exact .inl h
    · rintro (h | ⟨rfl, _⟩)
      · by_cases h0 : n = 0
        · exact .inl h0
        · exact .inr ⟨h, by simp [h0]⟩
      · exact .inl rfl
  · rw [if_neg hs, hz]
    exact ⟨fun h => .inl h, fun h => h.elim id fun h => absurd h.2 hs⟩
theorem lvl_mem {od : List Nat} {n : Nat} : (0 ≤ lvl od n) ↔ n ∈ od := by
  unfold lvl
  cases h : od.findIdx? (fun z => z == n) with
  | none =>
    rw [List.findIdx?_eq_none_iff] at h
    refine ⟨fun h' => absurd h' (by show ¬ (0 : Int) ≤ -1; decide), fun hm => ?_⟩
    have := h n hm
    simp at this
  | some i =>
    rw [List.findIdx?_eq_some_iff_getElem] at h
    obtain ⟨hi, he, _⟩ := h
    refine ⟨fun _ => ?_, fun _ => by show (0 : Int) ≤ (i : Int); omega⟩
    have e : od[i] = n := by simpa using he
    rw [← e]
    exact List.getElem_mem hi
theorem lvl_pos {od : List Nat} {p z : Nat} (hn : od.Nodup) (h : od[p]? = some z) : lvl od z = (p : Int) := by
  refine lvl_at h rfl fun j hj e => ?_
  obtain ⟨h1, e1⟩ := List.getElem?_eq_some_iff.1 h
  obtain ⟨h2, e2⟩ := List.getElem?_eq_some_iff.1 e
  exact absurd (List.pairwise_iff_getElem.1 hn j p h2 h1 hj) (by rw [e1, e2]; simp)
/-- in which order -/
theorem ordL_rk {c : Cf} {V : Lv} {zs : List Nat} (h : zs.Pairwise (rk (scs c V))) {i a b : Nat} (ha : (ordL c V zs)[i]? = some a) (hb : (ordL c V zs)[i + 1]? = some b) (hno : ¬ (stp c V ∧ a = 0 ∧ i = 0)) : rk (scs c V) a b := by
  unfold ordL at ha hb
  by_cases hs : c 7 ≤ ((lev V 0).length : Int)
  · rw [if_pos hs] at ha hb
    cases i with
    | zero =>
      rw [List.getElem?_cons_zero] at ha
      injection ha with ha
      exact absurd ⟨hs, ha.symm, rfl⟩ hno
    | succ i =>
      rw [List.getElem?_cons_succ] at ha hb
      exact pair_get (h.filter _) ha hb (by omega)
  · rw [if_neg hs] at ha hb
    exact pair_get h ha hb (by omega)
theorem ordL_stop {c : Cf} {V : Lv} {zs : List Nat} (hs : stp c V) : (ordL c V zs)[0]? = some 0 := by
  have hs' : c 7 ≤ ((lev V 0).length : Int) := hs
  unfold ordL
  rw [if_pos hs']
  rfl
/-- what stands behind a job that was found -/
theorem ffJ_spec {xs : List Int} : ∀ {js : List Jb} {r : Nat → Bool} {j : Jb}, ffJ xs r js = some j → ∃ k, js[k]? = some j ∧ hitsL xs j = false ∧ r j.lv.toNat = false ∧ r (j.lv.toNat + 1) = false ∧ ∀ (m : Nat) (y : Jb), m < k → js[m]? = some y → y.lv.toNat ≠ j.lv.toNat ∧ y.lv.toNat ≠ j.lv.toNat + 1 ∧ y.lv.toNat + 1 ≠ j.lv.toNat
  | [], r, j, h => by cases h
  | x :: js, r, j, h => by
    unfold ffJ at h
    split at h
    · obtain ⟨k, h1, h2, h3, h4, h5⟩ := ffJ_spec h
      unfold mkR at h3 h4
      have g3 : ¬ (j.lv.toNat = x.lv.toNat ∨ j.lv.toNat = x.lv.toNat + 1) := fun e => by rw [if_pos e] at h3; cases h3
      have g4 : ¬ (j.lv.toNat + 1 = x.lv.toNat ∨ j.lv.toNat + 1 = x.lv.toNat + 1) := fun e => by rw [if_pos e] at h4; cases h4
      rw [if_neg g3] at h3
      rw [if_neg g4] at h4
      refine ⟨k + 1, h1, h2, h3, h4, fun m y hm hy => ?_⟩
      cases m with
      | zero =>
        rw [List.getElem?_cons_zero] at hy
        injection hy with hy
        subst hy
        omega
      | succ m =>
        rw [List.getElem?_cons_succ] at hy
        exact h5 m y (by omega) hy
    · rename_i hn
      injection h with h
      subst h
      simp only [Bool.or_eq_true, not_or, Bool.not_eq_true] at hn
      exact ⟨0, rfl, hn.2, hn.1.1, hn.1.2, fun m y hm hy => absurd hm (Nat.not_lt_zero _)⟩
/-- what 'found' asks of what Next tells -/
structure FoX (f : Nat) (V : Lv) (ps : List ByteArray) (xs : List Int) (od : List Nat) : Prop where
  k : (nxt f V ps xs od).2 = 0 ∨ (nxt f V ps xs od).2 = 1 ∨ (nxt f V ps xs od).2 = 2
  fst : ∀ z : Nat, od[0]? = some z → (hitsL xs (jobL f V ps z) = false ↔ ((nxt f V ps xs od).2 = 2 ∧ (nxt f V ps xs od).1.lv = (z : Int)))
  non : (nxt f V ps xs od).2 ≠ 2 → (nxt f V ps xs od).1 = noJ ∧ ((nxt f V ps xs od).2 = 0 ↔ od.length = 0)
  fnd : (nxt f V ps xs od).2 = 2 → ∃ (p z : Nat), od[p]? = some z ∧ (nxt f V ps xs od).1 = jobL f V ps z ∧ lvl od z = (p : Int) ∧ hitsL xs (jobL f V ps z) = false ∧ ∀ (m y : Nat), m < p → od[m]? = some y → y ≠ z ∧ y ≠ z + 1 ∧ y + 1 ≠ z
theorem nxt_fox {f : Nat} {V : Lv} {ps : List ByteArray} {xs : List Int} {od : List Nat} (hn : od.Nodup) : FoX f V ps xs od := by
  cases od with
  | nil => exact ⟨.inl rfl, fun z h => (by cases h), fun _ => ⟨rfl, (by simp [nxt])⟩, fun h => (by simp [nxt] at h)⟩
  | cons z0 od =>
    have hne : ¬ (z0 :: od) = [] := by simp
    have e : nxt f V ps xs (z0 :: od) = match ffJ xs (fun _ => false) ((z0 :: od).map (jobL f V ps)) with | none => (noJ, 1) | some j => (j, 2) := by
      unfold nxt
      rw [if_neg hne]
      rfl
    have hz : (z0 :: od)[0]? = some z0 := rfl
    cases hf : ffJ xs (fun _ => false) ((z0 :: od).map (jobL f V ps)) with
    | none =>
      rw [hf] at e
      have e' : nxt f V ps xs (z0 :: od) = (noJ, 1) := e
      refine ⟨by rw [e']; exact .inr (.inl rfl), fun z h => ?_, fun _ => by rw [e']; exact ⟨rfl, by simp⟩, fun h => (by rw [e'] at h; cases h)⟩
      rw [hz] at h
      injection h with h
      subst h
      rw [e']
      refine ⟨fun hh => ?_, fun h => (by cases h.1)⟩
      rw [List.map_cons] at hf
      unfold ffJ at hf
      rw [hh] at hf
      simp at hf
    | some j =>
      rw [hf] at e
      have e' : nxt f V ps xs (z0 :: od) = (j, 2) := e
      obtain ⟨k, h1, h2, h3, h4, h5⟩ := ffJ_spec hf
      rw [List.getElem?_map] at h1
      obtain ⟨z, hk, hj⟩ : ∃ z, (z0 :: od)[k]? = some z ∧ jobL f V ps z = j := by
        cases hq : (z0 :: od)[k]? with
        | none => rw [hq] at h1; cases h1
        | some z =>
          rw [hq] at h1
          injection h1 with h1
          exact ⟨z, rfl, h1⟩
      have hlv : j.lv = (z : Int) := by rw [← hj]; exact jobL_lv
      have hlt : j.lv.toNat = z := by rw [hlv]; rfl
      refine ⟨by rw [e']; exact .inr (.inr rfl), fun y h => ?_, fun h => absurd (by rw [e']) h, fun _ => ⟨k, z, hk, by rw [e']; exact hj.symm, lvl_pos hn hk, by rw [hj]; exact h2, fun m y hm hy => ?_⟩⟩
      · rw [hz] at h
        injection h with h
        subst h
        rw [e']
        constructor
        · intro hh
          rw [List.map_cons] at hf
          unfold ffJ at hf
          rw [hh] at hf
          simp at hf
          rw [← hf]
          exact ⟨rfl, jobL_lv⟩
        · rintro ⟨_, hy⟩
          have hy' : (z : Int) = (z0 : Int) := hlv.symm.trans hy
          have : z = z0 := by omega
          rw [← this, hj]
          exact h2
      · have := h5 m (jobL f V ps y) hm (by rw [List.getElem?_map, hy]; rfl)
        rw [hlt, show (jobL f V ps y).lv.toNat = y by rw [jobL_lv]; rfl] at this
        exact this
end Vr
end Go.Proofs.YtaejjpbpnedblaaGreat
namespace Go.Proofs.YtaejjpbpnedblaaGreat
namespace Vr
open Go.Shelf Go.RowKit Go.Lib Go.Sort Go.Maps Go.ChangeMaps Go.MapKept Laws Irw Crw
set_option linter.unusedVariables false
set_option linter.unusedSimpArgs false
set_option maxRecDepth 20000
/-! the document's order: the best of those that are left, one after the other -/
/-- the best of the first k -/
def bestK (ss : List Int) : Nat → Option Nat
  | 0 => none
  | k + 1 => match bestK ss k with
    | none => if 1000 ≤ scA ss k then some k else none
    | some b => if 1000 ≤ scA ss k ∧ scA ss b < scA ss k then some k else some b
def bI (b : Option Nat) : Int := match b with | none => -1 | some b => (b : Int)
theorem bestK_none {ss : List Int} : ∀ {k : Nat}, bestK ss k = none → ∀ z, z < k → ¬ 1000 ≤ scA ss z
  | 0, _, z, hz => absurd hz (Nat.not_lt_zero _)
  | k + 1, h, z, hz => by
    unfold bestK at h
    cases hb : bestK ss k with
    | none =>
      rw [hb] at h
      simp only at h
      split at h
      · cases h
      · rename_i hn
        by_cases hzk : z = k
        · rw [hzk]; exact hn
        · exact bestK_none hb z (by omega)
    | some b =>
      rw [hb] at h
      simp only at h
      split at h <;> cases h
theorem bestK_some {ss : List Int} : ∀ {k b : Nat}, bestK ss k = some b → b < k ∧ 1000 ≤ scA ss b ∧ ∀ z, z < k → 1000 ≤ scA ss z → z = b ∨ rk ss b z
  | 0, b, h => by cases h
  | k + 1, b, h => by
    unfold bestK at h
    cases hb : bestK ss k with
    | none =>
      rw [hb] at h
      simp only at h
      split at h
      · rename_i hs
        injection h with h
        subst h
        refine ⟨by omega, hs, fun z hz h1 => ?_⟩
        by_cases hzk : z = k
        · exact .inl hzk
        · exact absurd h1 (bestK_none hb z (by omega))
      · cases h
    | some a =>
      rw [hb] at h
      obtain ⟨h1, h2, h3⟩ := bestK_some hb
      simp only at h
      split at h
      · rename_i hs
        injection h with h
        subst h
        refine ⟨by omega, hs.1, fun z hz hz1 => ?_⟩
        by_cases hzk : z = k
        · exact .inl hzk
        · rcases h3 z (by omega) hz1 with rfl | hr
          · exact .inr (.inl hs.2)
          · refine .inr (.inl ?_)
            unfold rk at hr
            omega
      · rename_i hs
        injection h with h
        subst h
        refine ⟨by omega, h2, fun z hz hz1 => ?_⟩
        by_cases hzk : z = k
        · subst hzk
          right
          unfold rk
          by_cases hlt : scA ss a < scA ss z
          · exact absurd ⟨hz1, hlt⟩ hs
          · omega
        · exact h3 z (by omega) hz1
theorem scA_set {ss : List Int} {b z : Nat} (hb : b < ss.length) : scA (ss.set b 0) z = if z = b then 0 else scA ss z := by
  unfold scA
  by_cases h : z = b
  · subst h
    rw [if_pos rfl, List.getElem?_set_self hb]
    rfl
  · rw [if_neg h, List.getElem?_set_ne (by omega)]
/-- within the document's Order: those that are told, those that are left -/
structure OI (ss ss' : List Int) (out : List Nat) : Prop where
  len : ss'.length = ss.length
  gone : ∀ z, z ∈ out → scA ss' z = 0
  left : ∀ z, z ∉ out → scA ss' z = scA ss z
  due : ∀ z ∈ out, z < ss.length ∧ 1000 ≤ scA ss z
  ord : out.Pairwise (rk ss)
  ahead : ∀ a ∈ out, ∀ z, z < ss.length → z ∉ out → 1000 ≤ scA ss z → rk ss a z
theorem OI.first (ss : List Int) : OI ss ss [] := ⟨rfl, fun z h => (by cases h), fun _ _ => rfl, fun z h => (by cases h), List.Pairwise.nil, fun z h => (by cases h)⟩
theorem OI.short {ss ss' : List Int} {out : List Nat} (h : OI ss ss' out) : out.length ≤ ss.length := by
  have hn : out.Nodup := zs_nodup h.ord
  have hp : out.Perm ((List.range ss.length).filter fun z => decide (z ∈ out)) := by
    refine (List.perm_ext_iff_of_nodup hn (List.nodup_range.filter _)).2 fun z => ?_
    rw [List.mem_filter, List.mem_range, decide_eq_true_eq]
    exact ⟨fun hz => ⟨(h.due z hz).1, hz⟩, fun hz => hz.2⟩
  have h1 := hp.length_eq
  have h2 := List.length_filter_le (fun z => decide (z ∈ out)) (List.range ss.length)
  rw [List.length_range] at h2
  omega
theorem OI.next {ss ss' : List Int} {out : List Nat} {b : Nat} (h : OI ss ss' out) (hb : bestK ss' ss'.length = some b) : OI ss (ss'.set b 0) (out ++ [b]) := by
  obtain ⟨h1, h2, h3⟩ := bestK_some hb
  have hbn : b ∉ out := fun hm => by have := h.gone b hm; omega
  have hbs : scA ss' b = scA ss b := h.left b hbn
  refine ⟨by rw [List.length_set]; exact h.len, fun z hz => ?_, fun z hz => ?_, fun z hz => ?_, ?_, fun a ha z hz hzn hz1 => ?_⟩
  · rw [scA_set h1]
    split
    · rfl
    · rcases List.mem_append.1 hz with hz | hz
      · exact h.gone z hz
      · simp at hz; omega
  · rw [List.mem_append, not_or] at hz
    rw [scA_set h1, if_neg (by simpa using hz.2)]
    exact h.left z hz.1
  · rcases List.mem_append.1 hz with hz | hz
    · exact h.due z hz
    · simp at hz
      subst hz
      exact ⟨by rw [← h.len]; exact h1, by rw [← hbs]; exact h2⟩
  · rw [List.pairwise_append]
    refine ⟨h.ord, List.pairwise_singleton _ _, fun a ha z hz => ?_⟩
    simp at hz
    subst hz
    exact h.ahead a ha z (by rw [← h.len]; exact h1) hbn (by rw [← hbs]; exact h2)
  · rw [List.mem_append, not_or] at hzn
    have hzb : z ≠ b := by simpa using hzn.2
    rcases List.mem_append.1 ha with ha | ha
    · exact h.ahead a ha z hz hzn.1 hz1
    · simp at ha
      subst ha
      have hzs := h.left z hzn.1
      rcases h3 z (by rw [h.len]; exact hz) (by rw [hzs]; exact hz1) with e | hr
      · exact absurd e hzb
      · unfold rk at hr ⊢
        rw [hzs, hbs] at hr
        exact hr
theorem OI.done {ss ss' : List Int} {out : List Nat} (h : OI ss ss' out) (hb : bestK ss' ss'.length = none) : out.Perm (dueL ss) := by
  refine (List.perm_ext_iff_of_nodup (zs_nodup h.ord) ?_).2 fun z => ?_
  · unfold dueL dueK
    exact List.nodup_range.filter _
  · rw [due_mem]
    refine ⟨h.due z, fun hz => ?_⟩
    refine Classical.byContradiction fun hn => ?_
    have := bestK_none hb z (by rw [h.len]; exact hz.1)
    rw [h.left z hn] at this
    exact this hz.2
/-- where level 0 stops: its score is put out of the way -/
theorem due_cut {ss : List Int} {zs : List Nat} (h0 : 0 < ss.length) (h1 : zs.Perm (dueL ss)) (h2 : zs.Pairwise (rk ss)) : (zs.filter fun z => decide (z ≠ 0)).Perm (dueL (ss.set 0 0)) ∧ (zs.filter fun z => decide (z ≠ 0)).Pairwise (rk (ss.set 0 0)) := by
  constructor
  · have hn := zs_nodup h2
    refine (List.perm_ext_iff_of_nodup (hn.filter _) ?_).2 fun z => ?_
    · unfold dueL dueK
      exact List.nodup_range.filter _
    · rw [due_mem, List.mem_filter, h1.mem_iff, due_mem, List.length_set, scA_set h0, decide_eq_true_eq]
      by_cases hz : z = 0
      · subst hz
        simp
      · rw [if_neg hz]
        exact ⟨fun h => h.1, fun h => ⟨h, hz⟩⟩
  · refine List.Pairwise.imp_of_mem ?_ (h2.filter _)
    intro a b ha hb hr
    have ha0 : a ≠ 0 := by simpa using (List.mem_filter.1 ha).2
    have hb0 : b ≠ 0 := by simpa using (List.mem_filter.1 hb).2
    unfold rk at hr ⊢
    rw [scA_set h0, scA_set h0, if_neg ha0, if_neg hb0]
    exact hr
/-- the document's order is the program's -/
theorem ord_cut {c : Cf} {V : Lv} {zs out : List Nat} (hs : stp c V) (h0 : 0 < (scs c V).length) (h1 : zs.Perm (dueL (scs c V))) (h2 : zs.Pairwise (rk (scs c V))) (h3 : out.Perm (dueL ((scs c V).set 0 0))) (h4 : out.Pairwise (rk ((scs c V).set 0 0))) : 0 :: out = ordL c V zs := by
  obtain ⟨g1, g2⟩ := due_cut h0 h1 h2
  have hs' : c 7 ≤ ((lev V 0).length : Int) := hs
  unfold ordL
  rw [if_pos hs', ord_uniq h3 h4 g1 g2]
theorem ord_uncut {c : Cf} {V : Lv} {zs out : List Nat} (hs : ¬ stp c V) (h1 : zs.Perm (dueL (scs c V))) (h2 : zs.Pairwise (rk (scs c V))) (h3 : out.Perm (dueL (scs c V))) (h4 : out.Pairwise (rk (scs c V))) : out = ordL c V zs := by
  have hs' : ¬ c 7 ≤ ((lev V 0).length : Int) := hs
  unfold ordL
  rw [if_neg hs', ord_uniq h3 h4 h1 h2]
end Vr
end Go.Proofs.YtaejjpbpnedblaaGreat
namespace Go.Proofs.YtaejjpbpnedblaaGreat
namespace Vr
open Go.Shelf Go.RowKit Go.Lib Go.Sort Go.Maps Go.ChangeMaps Go.MapKept Laws Irw Crw
set_option linter.unusedVariables false
set_option linter.unusedSimpArgs false
set_option maxRecDepth 20000
theorem OwnK.tg {α : Type} {K : Knd α} {t : Nat} {T : Nat → Nat} {w : World} {g n c : Nat} {l : List α} (h : OwnK K t T w (.slice (some ⟨g, 0, none⟩) n c) l) : T g = t := ((OwnK.sk (s := (some ⟨g, 0, none⟩, n, c)) h).2.2.2.2.2 g 0 rfl).1
theorem OwnK.tgl {α : Type} {K : Knd α} {t : Nat} {T : Nat → Nat} {w : World} {g n c : Nat} {l : List α} (h : OwnK K t T w (.slice (some ⟨g, 0, none⟩) n c) l) : g < w.heap.size := ((OwnK.sk (s := (some ⟨g, 0, none⟩, n, c)) h).2.2.2.2.2 g 0 rfl).2
theorem OwnK.fz {α : Type} {K : Knd α} {t : Nat} {T : Nat → Nat} {w : World} {g n c : Nat} {l : List α} (h : OwnK K t T w (.slice (some ⟨g, 0, none⟩) n c) l) (j : Nat) : w.frozen? ⟨g, j, none⟩ = false := by
  have hn : n = l.length := (OwnK.sk (s := (some ⟨g, 0, none⟩, n, c)) h).1
  subst hn
  exact h.1.frozenAt j
def lnOf : Value → Nat | .slice _ n _ => n | _ => 0
def stB (c : Cf) (V : Lv) : Bool := decide (c 7 ≤ ((lev V 0).length : Int))
/-- what the document's Order begins with -/
def preO (b : Bool) : List Nat := if b then [0] else []
def basO (b : Bool) (ss : List Int) : List Int := if b then ss.set 0 0 else ss
theorem basO_len (b : Bool) (ss : List Int) : (basO b ss).length = ss.length := by cases b <;> simp [basO]
/-- the document's Order: its scores (tag 1), its answer (tag 2) -/
structure OrS (w0 : World) (T : Nat → Nat) (w : World) (g n cc : Nat) (s : Sv) (ss ss' : List Int) (b : Bool) (out : List Nat) : Prop where
  oi : OI (basO b ss) ss' out
  old : Old w0 T w
  o1 : OwnK kI 1 T w (.slice (some ⟨g, 0, none⟩) n cc) ss'
  o2 : OwnK kI 2 T w (svV s) (zI (preO b ++ out))
theorem OrS.below {w0 w w' : World} {T : Nat → Nat} {g n cc : Nat} {s : Sv} {ss ss' : List Int} {b : Bool} {out : List Nat} (h : OrS w0 T w g n cc s ss ss' b out) (hb : RowKit.Below w.heap.size w w') : OrS w0 T w' g n cc s ss ss' b out :=
  ⟨h.oi, h.old.goes (Goes.below (t := fun _ => False) hb) (fun z => z), h.o1.below hb, h.o2.below hb⟩
theorem OrS.n_ {w0 w : World} {T : Nat → Nat} {g n cc : Nat} {s : Sv} {ss ss' : List Int} {b : Bool} {out : List Nat} (h : OrS w0 T w g n cc s ss ss' b out) : n = ss.length ∧ ss'.length = n := by
  have h1 := (OwnK.sk (s := (some ⟨g, 0, none⟩, n, cc)) h.o1).1
  have h2 := h.oi.len
  rw [basO_len] at h2
  change n = ss'.length at h1
  omega
theorem OrS.cell {w0 w : World} {T : Nat → Nat} {g n cc : Nat} {s : Sv} {ss ss' : List Int} {b : Bool} {out : List Nat} (h : OrS w0 T w g n cc s ss ss' b out) {i : Nat} (hi : i < n) : w.cell? ⟨g, i, none⟩ = some (.int .i64 (scA ss' i)) := by
  have hx : ss'[i]? = some (scA ss' i) := scA_at (by rw [h.n_.2]; exact hi)
  obtain ⟨b2, off, e, _, hc⟩ := (Ls.own (s := (some ⟨g, 0, none⟩, n, cc)) h.o1).cell hx
  simp only [Option.some.injEq, Addr.mk.injEq] at e
  obtain ⟨rfl, rfl, _⟩ := e
  have := hc 0 _ rfl
  simpa [kI] using this
theorem OrS.lt {w0 w : World} {T : Nat → Nat} {g n cc : Nat} {s : Sv} {ss ss' : List Int} {b : Bool} {out : List Nat} (h : OrS w0 T w g n cc s ss ss' b out) : g < w.heap.size ∧ T g = 1 := by
  have := (OwnK.sk (s := (some ⟨g, 0, none⟩, n, cc)) h.o1).2.2.2.2.2 g 0 rfl
  exact ⟨this.2, this.1⟩
theorem OrS.next {w0 w w3 : World} {T T3 : Nat → Nat} {g n cc : Nat} {s : Sv} {a' : Option Addr} {n' c' : Nat} {ss ss' : List Int} {b : Bool} {out : List Nat} {z : Nat} (h : OrS w0 T w g n cc s ss ss' b out) (hb : bestK ss' n = some z) (hg : Goes (· = 2) T w T3 w3) (ho : OwnK kI 2 T3 w3 (.slice a' n' c') (zI (preO b ++ out) ++ [(z : Int)])) :
    OrS w0 T3 (w3.setCell ⟨g, z, none⟩ (.int .i64 0)) g n cc (a', n', c') ss (ss'.set z 0) b (out ++ [z]) := by
  have hn := h.n_
  have hz : z < n := (bestK_some hb).1
  have h1 := h.o1.goes hg (by decide)
  have h2 := ownK_set (m := z) (j := 0) (x := (0 : Int)) (u := .int .i64 0) h1 (by omega) (by omega) (by show 0 < 1; omega) (fun y _ => rfl)
  rw [show z * kI.size + 0 = z by show z * 1 + 0 = z; omega] at h2
  have hT3 : T3 g = 1 := by
    have := (OwnK.sk (s := (some ⟨g, 0, none⟩, n, cc)) h1).2.2.2.2.2 g 0 rfl
    exact this.1
  have hG : Goes (· = 1) T3 w3 T3 (w3.setCell ⟨g, z, none⟩ (.int .i64 0)) := Goes.setCell hT3
  refine ⟨h.oi.next (by rw [hn.2]; exact hb), (h.old.goes hg (by decide)).goes hG (by decide), h2, ?_⟩
  have h3 := ho.goes hG (by decide)
  have e : zI (preO b ++ (out ++ [z])) = zI (preO b ++ out) ++ [(z : Int)] := by unfold zI; simp
  rw [e]
  exact h3
theorem OrS.fin {w0 w : World} {T : Nat → Nat} {g n cc : Nat} {s : Sv} {c : Cf} {V : Lv} {ss' : List Int} {b : Bool} {out zs : List Nat} (h : OrS w0 T w g n cc s (scs c V) ss' b out) (hb : bestK ss' n = none) (hB : stB c V = b) (h1 : zs.Perm (dueL (scs c V))) (h2 : zs.Pairwise (rk (scs c V))) : Ls kI w s (zI (ordL c V zs)) := by
  have hn := h.n_
  have hd := h.oi.done (by rw [hn.2]; exact hb)
  have ho := h.oi.ord
  have hl := Ls.own h.o2
  by_cases hl0 : 0 < (scs c V).length
  · cases b with
    | false =>
      have hs : ¬ stp c V := fun hh => by
        have : decide (c 7 ≤ ((lev V 0).length : Int)) = true := decide_eq_true hh
        unfold stB at hB
        rw [hB] at this
        cases this
      have e : preO false ++ out = ordL c V zs := ord_uncut hs h1 h2 hd ho
      rw [e] at hl
      exact hl
    | true =>
      have hs : stp c V := of_decide_eq_true (p := c 7 ≤ ((lev V 0).length : Int)) hB
      have e : preO true ++ out = ordL c V zs := ord_cut hs hl0 h1 h2 hd ho
      rw [e] at hl
      exact hl
  · have h0 : scs c V = [] := List.eq_nil_of_length_eq_zero (by omega)
    have hz : zs = [] := by
      rw [h0] at h1
      exact h1.eq_nil
    have ho0 : out = [] := by
      have h9 := h.oi.short
      rw [basO_len, h0] at h9
      exact List.eq_nil_of_length_eq_zero (by simpa using h9)
    subst hz ho0
    have e : preO b ++ [] = ordL c V [] := by
      subst hB
      unfold preO stB ordL
      by_cases hq : c 7 ≤ ((lev V 0).length : Int)
      · rw [decide_eq_true hq, if_pos hq]; rfl
      · rw [decide_eq_false hq, if_neg hq]; rfl
    rw [e] at hl
    exact hl
theorem OrS.start {w0 w w3 : World} {T T3 : Nat → Nat} {g n cc : Nat} {a' : Option Addr} {n' c' : Nat} {ss : List Int} (h1 : OwnK kI 1 T w (.slice (some ⟨g, 0, none⟩) n cc) ss) (h2 : Old w0 T w) (hn : 0 < n) (hg : Goes (· = 2) T w T3 w3) (ho : OwnK kI 2 T3 w3 (.slice a' n' c') [0]) :
    OrS w0 T3 (w3.setCell ⟨g, 0, none⟩ (.int .i64 0)) g n cc (a', n', c') ss (basO true ss) true [] := by
  have hl : n = ss.length := (OwnK.sk (s := (some ⟨g, 0, none⟩, n, cc)) h1).1
  have h3 := h1.goes hg (by decide)
  have h4 := ownK_set (m := 0) (j := 0) (x := (0 : Int)) (u := .int .i64 0) h3 hl (by omega) (by show 0 < 1; omega) (fun y _ => rfl)
  have hG : Goes (· = 1) T3 w3 T3 (w3.setCell ⟨g, 0, none⟩ (.int .i64 0)) := Goes.setCell (OwnK.tg h3)
  exact ⟨OI.first _, (h2.goes hg (by decide)).goes hG (by decide), h4, ho.goes hG (by decide)⟩
set_option maxHeartbeats 4000000 in
theorem rorder_any (c : Cf) (V : Lv) (la : Option Addr) (lc : Nat) (w : World) (h : LsAt w (la, V.length, lc) V) (hf : Fits V) (hw : WeV V) (hc : Cr c V.length) (zs : List Nat) (hz1 : zs.Perm (dueL (scs c V))) (hz2 : zs.Pairwise (rk (scs c V))) : Calls Tryz.prog 33 #[.agg (cfgA c), .slice la V.length lc] w fun e w' => ∃ s : Sv, e = .returned (svV s) ∧ Ls kI w' s (zI (ordL c V zs)) ∧ RowKit.Below w.heap.size w w' := by
  obtain ⟨iz, hi, hz0, hz1', hz2'⟩ := info_parts infoI
  have hn3 := hc.n3
  have hn5 := hc.n5
  obtain ⟨W, hW⟩ : ∃ X, w.alloc (Obj.cells (cfgA c) 23) = X := ⟨_, rfl⟩
  have HW : Hid (RowKit.Below w.heap.size w W ∧ Lc W w.heap.size c ∧ w.heap.size < W.heap.size) := by
    subst hW
    exact ⟨(Below.refl _ _).alloc (Nat.le_refl _) _, lc_new w c 23, by simp⟩
  have HZ := hidV (And.intro hz1 hz2)
  have HV := hidV (And.intro h (And.intro hf (And.intro hw hc)))
  have hLW := HW.out.2.1
  have HSc : Hid (Calls Tryz.prog 32 #[.agg (cfgA c), .slice la V.length lc] W fun e w' => OwIs kI W (scs c V) e w') := rscores_any c V la lc W (h.below HW.out.1) hf hw hc
  clear h hf hw hc hz1 hz2
  go_enter Tryz.func33, Tryz.ntmps33
  go_upto_region 3 with (first
    | ((try rw [hW]); refine wpList_cfg (by rfl) _ (by rfl) (by rfl) hLW ?_)
    | (go_at_call 32; go_loud ((try rw [hW]); refine HSc.out.mono ?_; rintro e w1 ⟨⟨ga, n, cc⟩, T, rfl, hs, hold⟩; have HS := hidV (And.intro hs hold); clear hs hold; simp only [svV])))
  clear hW hLW HSc
  have hlen : n = (scs c V).length := (OwnK.sk HS.out.1).1
  have hn4 : n = V.length - 1 := by rw [hlen, scs_len]
  obtain ⟨g, rfl⟩ : ∃ g, ga = some ⟨g, 0, none⟩ := by
    obtain ⟨g, c2, e, _⟩ := own3 HS.out.1.1 (by rw [← hlen]; omega)
    simp only [svV, Value.slice.injEq] at e
    exact ⟨g, e.1⟩
  have HN := hidV hlen
  have hL1 := HW.out.2.1.keep HW.out.2.2 HS.out.2.below
  have l7 := hL1.cell 7 rfl
  have hbw : Hid (RowKit.Below w.heap.size w w1) := HW.out.1.trans (HS.out.2.below.mono HW.out.1.size)
  obtain ⟨b0, off, ua, uc, rfl, hb, hc0, hL0⟩ := (HV.out.1.below hbw.out).get (i := 0) (by omega)
  rw [Nat.add_zero] at hc0
  have hc0' : w1.cell? ⟨b0, off, none⟩ = some (.slice ua (lev V 0).length uc) := hc0
  have hV0 : (0 : Int) < (V.length : Int) := by omega
  have hn0 : 0 < n := by omega
  have hn9 : n ≤ 4 := by omega
  clear hc0 hL0 hL1 hlen hn4
  have hSB : decide (c 7 ≤ ((lev V 0).length : Int)) = stB c V := rfl
  go_cut [18] (fun v wx => v = .bool (stB c V) ∧ wx = w1.drew)
  case first =>
    go_region
    all_goals (
      (try go_wp2_with fail)
      go_meet
      case rel => exact ⟨by first | rfl | simp [← hSB], by first | rfl | trivial⟩)
  case rest =>
    obtain ⟨rfl, rfl⟩ := hcut
    clear hSB l7 hc0' hV0 hb
    go_upto_if 18 with fail
    go_cut [6] (fun v wx => ∃ (s : Sv) (T2 : Nat → Nat), v = .slice s.1 s.2.1 s.2.2 ∧ Hid (OrS W T2 wx g n cc s (scs c V) (basO (stB c V) (scs c V)) (stB c V) []))
    case first =>
      have HO1 : Hid (OwnK kI 1 T w1.drew (.slice (some ⟨g, 0, none⟩) n cc) (scs c V) ∧ Old W T w1.drew) := ⟨HS.out.1.below (Below.refl _ _).drew, HS.out.2.goes (Goes.below (t := fun _ => False) (Below.refl _ _).drew) (fun z => z)⟩
      cases hB : stB c V with
      | false =>
        go_wp2_with fail
        go_meet
        case rel =>
          rw [hB]
          exact ⟨nS, T, rfl, ⟨OI.first _, HO1.out.2, HO1.out.1, OwnK.empty _ _ _⟩⟩
      | true =>
        have c0 : w1.drew.cell? ⟨g, 0, none⟩ = some (.int .i64 (scA (scs c V) 0)) := by
          have hx : (scs c V)[0]? = some (scA (scs c V) 0) := scA_at (by rw [← HN.out]; exact hn0)
          obtain ⟨b2, off, e, _, hc⟩ := (Ls.own (s := (some ⟨g, 0, none⟩, n, cc)) HO1.out.1).cell hx
          simp only [Option.some.injEq, Addr.mk.injEq] at e
          obtain ⟨rfl, rfl, _⟩ := e
          have := hc 0 _ rfl
          simpa [kI] using this
        go_wp2_with (at_builtin; go_loud (refine wpList_appK kI _ (by rfl) (.tmp 19) (.tmp 20) 35 (by rfl) iz Tryz.underlying35 hi hz0 hz1' hz2' 2 T (.slice none 0 0) [] (by rfl) (OwnK.empty _ _ _) (some ⟨w1.drew.heap.size, 0, none⟩) 1 1 [0] (by rfl) rfl (by simp) (isK_int _ _) (by simp) ?_; intro a' c' T' w3 ho3 hg3; have HY : Hid (OwnK kI 2 T' w3 (.slice a' 1 c') [0] ∧ Goes (· = 2) T w1.drew T' w3) := ⟨by simpa using ho3, (Goes.below (t := (· = 2)) ((Below.refl _ _).alloc (Nat.le_refl _) _)).trans hg3⟩; have c0' : w3.cell? ⟨g, 0, none⟩ = some (.int .i64 (scA (scs c V) 0)) := (HY.out.2.cell (b := g) (j := 0) (OwnK.tgl HO1.out.1) (by rw [OwnK.tg HO1.out.1]; decide)).trans c0; have f0' : w3.frozen? ⟨g, 0, none⟩ = false := OwnK.fz (HO1.out.1.goes HY.out.2 (by decide)) 0; clear ho3 hg3; simp only [List.length_singleton, List.length_nil, Nat.zero_add]))
        go_meet
        case rel =>
          rw [hB]
          exact ⟨(a', 1, c'), T', rfl, OrS.start HO1.out.1 HO1.out.2 hn0 HY.out.2 HY.out.1⟩
    case rest =>
      obtain ⟨⟨ra, rn, rc⟩, T2, rfl, HX0⟩ := hcut
      rename World => w2
      obtain ⟨bb, hbb⟩ : ∃ bb, stB c V = bb := ⟨_, rfl⟩
      rw [hbb] at HX0
      have HBB := hidV hbb
      clear hbb HS hbw
      simp only at *
      go_wp2_with fail
      go_loopw [6] (fun o wr => ∃ (ss' : List Int) (out : List Nat) (s : Sv) (T : Nat → Nat), o = .slice s.1 s.2.1 s.2.2 ∧ Hid (OrS W T wr g n cc s (scs c V) ss' bb out)) (fun o _ => n + 3 - lnOf o)
      case atStart => exact ⟨_, [], (ra, rn, rc), T2, rfl, HX0⟩
      case round =>
        obtain ⟨ss', out, ⟨qa, qn, qc⟩, T3, rfl, HX⟩ := hrel
        simp only at *
        rename World => w3
        go_wp2_with fail
        go_loopw [7, 8] (fun b i wr => ∃ k : Nat, k ≤ n ∧ b = .int .i64 (bI (bestK ss' k)) ∧ i = .int .i64 (k : Int) ∧ Hid (RowKit.Below w3.heap.size w3 wr)) (fun _ i _ => n - (intOf i).toNat)
        case atStart => exact ⟨0, Nat.zero_le _, rfl, rfl, Below.refl _ _⟩
        case round =>
          obtain ⟨k, hk, rfl, rfl, HBR⟩ := hrel
          rename World => wr
          by_cases hlt : k < n
          · have q1 : (k : Int) < (n : Int) := by omega
            have ck := (HX.out.below HBR.out).cell hlt
            obtain ⟨x, hx⟩ : ∃ x, scA ss' k = x := ⟨_, rfl⟩
            rw [hx] at ck
            have HCK := hidV ck
            by_cases h1 : 1000 ≤ x
            · have q2 : x ≥ 1000 := h1
              cases hb : bestK ss' k with
              | none =>
                have HN1 : Hid (bestK ss' (k + 1) = some k) := by
                  show _ = _
                  conv => lhs; unfold bestK
                  rw [hb]
                  simp only
                  rw [hx, if_pos h1]
                clear hb hx ck
                rw [show bI none = -1 from rfl]
                go_wp2_with fail
                refine wp_region_held_drew (S := (fun X => RowKit.Below wr.heap.size wr X ∧ X.cell? ⟨g, k, none⟩ = some (.int .i64 x))) (by kernel_rfl) ?_ (fun hHeld => ?_)
                · exact ⟨(Below.refl _ _).drew, HCK.out⟩
                refine wpAnyH_take (i := 0) (oi := { dst := some 30, op := Go.Op.move (Go.Operand.tmp 5), type := 35, pos := "screeref16.go:37", after := #[], guard := none }) (v := ?_) rfl (by kernel_rfl) (by kernel_rfl) (by kernel_rfl) (fun _ _ _ h => h) (Or.inl ⟨by rfl, ?_⟩) hHeld ?_
                rotate_left
                · (intro wq hSw; (try dsimp only at hSw); go_simp; try (with_reducible rfl))
                try simp only [Act.put, List.setIfInBounds_toArray, List.set_cons_zero, List.set_cons_succ]
                refine wpAnyH_take (i := 1) (oi := { dst := some 31, op := Go.Op.move (Go.Operand.tmp 8), type := 3, pos := "screeref16.go:37", after := #[], guard := none }) (v := ?_) rfl (by kernel_rfl) (by kernel_rfl) (by kernel_rfl) (fun _ _ _ h => h) (Or.inl ⟨by rfl, ?_⟩) hHeld ?_
                rotate_left
                · (intro wq hSw; (try dsimp only at hSw); go_simp; try (with_reducible rfl))
                try simp only [Act.put, List.setIfInBounds_toArray, List.set_cons_zero, List.set_cons_succ]
                refine wpAnyH_take (i := 2) (oi := { dst := some 32, op := Go.Op.indexAddr 35 (Go.Operand.tmp 30) (Go.Operand.tmp 31), type := 0, pos := "screeref16.go:37", after := #[{ on := 0, ground := Go.Ground.data }, { on := 1, ground := Go.Ground.data }], guard := none }) (v := ?_) rfl (by kernel_rfl) (by kernel_rfl) (by kernel_rfl) (fun _ _ _ h => h) (Or.inl ⟨by rfl, ?_⟩) hHeld ?_
                rotate_left
                · (intro wq hSw; (try dsimp only at hSw); go_simp; try (with_reducible rfl))
                try simp only [Act.put, List.setIfInBounds_toArray, List.set_cons_zero, List.set_cons_succ]
                refine wpAnyH_take (i := 3) (oi := { dst := some 33, op := Go.Op.load 3 (Go.Operand.tmp 32), type := 3, pos := "screeref16.go:37", after := #[{ on := 2, ground := Go.Ground.data }], guard := none }) (v := ?_) rfl (by kernel_rfl) (by kernel_rfl) (by kernel_rfl) (fun _ _ _ h => h) (Or.inl ⟨by rfl, ?_⟩) hHeld ?_
                rotate_left
                · (intro wq hSw; (try dsimp only at hSw); go_simp; try (with_reducible rfl))
                try simp only [Act.put, List.setIfInBounds_toArray, List.set_cons_zero, List.set_cons_succ]
                refine wpAnyH_take (i := 4) (oi := { dst := some 34, op := Go.Op.binOp Go.BinOp.geq 3 (Go.Operand.tmp 33) (Go.Operand.const (Go.Value.int Go.IntKind.i64 1000)) 3, type := 4, pos := "screeref16.go:37", after := #[{ on := 3, ground := Go.Ground.data }], guard := none }) (v := .bool true) rfl (by kernel_rfl) (by kernel_rfl) (by kernel_rfl) (fun _ _ _ h => h) (Or.inl ⟨by rfl, ?_⟩) hHeld ?_
                · (intro wq hSw; (try dsimp only at hSw); go_simp; try omega)
                try simp only [Act.put, List.setIfInBounds_toArray, List.set_cons_zero, List.set_cons_succ]
                refine wpAnyH_take (i := 5) (oi := { dst := some 35, op := Go.Op.move (Go.Operand.tmp 34), type := 4, pos := "screeref16.go:37", after := #[{ on := 4, ground := Go.Ground.data }], guard := none }) (v := ?_) rfl (by kernel_rfl) (by kernel_rfl) (by kernel_rfl) (fun _ _ _ h => h) (Or.inl ⟨by rfl, ?_⟩) hHeld ?_
                rotate_left
                · (intro wq hSw; (try dsimp only at hSw); go_simp; try (with_reducible rfl))
                try simp only [Act.put, List.setIfInBounds_toArray, List.set_cons_zero, List.set_cons_succ]
                refine wpAnyH_take (i := 6) (oi := { dst := some 36, op := Go.Op.move (Go.Operand.tmp 7), type := 3, pos := "screeref16.go:37", after := #[{ on := 5, ground := Go.Ground.guard }], guard := some (5, true) }) (v := ?_) rfl (by kernel_rfl) (by kernel_rfl) (by kernel_rfl) (fun _ _ _ h => h) (Or.inl ⟨by rfl, ?_⟩) hHeld ?_
                rotate_left
                · (intro wq hSw; (try dsimp only at hSw); go_simp; try (with_reducible rfl))
                try simp only [Act.put, List.setIfInBounds_toArray, List.set_cons_zero, List.set_cons_succ]
                refine wpAnyH_take (i := 7) (oi := { dst := some 37, op := Go.Op.binOp Go.BinOp.lss 3 (Go.Operand.tmp 36) (Go.Operand.const (Go.Value.int Go.IntKind.i64 0)) 3, type := 4, pos := "screeref16.go:37", after := #[{ on := 6, ground := Go.Ground.data }, { on := 5, ground := Go.Ground.guard }], guard := some (5, true) }) (v := .bool true) rfl (by kernel_rfl) (by kernel_rfl) (by kernel_rfl) (fun _ _ _ h => h) (Or.inl ⟨by rfl, ?_⟩) hHeld ?_
                · (intro wq hSw; (try dsimp only at hSw); go_simp; try simp [bI])
                try simp only [Act.put, List.setIfInBounds_toArray, List.set_cons_zero, List.set_cons_succ]
                refine wpAnyH_take (i := 8) (oi := { dst := some 38, op := Go.Op.move (Go.Operand.tmp 37), type := 4, pos := "screeref16.go:37", after := #[{ on := 7, ground := Go.Ground.data }, { on := 5, ground := Go.Ground.chain }, { on := 5, ground := Go.Ground.guard }], guard := some (5, true) }) (v := ?_) rfl (by kernel_rfl) (by kernel_rfl) (by kernel_rfl) (fun _ _ _ h => h) (Or.inl ⟨by rfl, ?_⟩) hHeld ?_
                rotate_left
                · (intro wq hSw; (try dsimp only at hSw); go_simp; try (with_reducible rfl))
                try simp only [Act.put, List.setIfInBounds_toArray, List.set_cons_zero, List.set_cons_succ]
                refine wpAnyH_take (i := 9) (oi := { dst := some 39, op := Go.Op.move (Go.Operand.tmp 5), type := 35, pos := "screeref16.go:37", after := #[{ on := 8, ground := Go.Ground.guard }], guard := some (8, false) }) (v := undef) rfl (by kernel_rfl) (by kernel_rfl) (by kernel_rfl) (fun _ _ _ h => h) (Or.inr ⟨by rfl, rfl⟩) hHeld ?_
                try simp only [Act.put, List.setIfInBounds_toArray, List.set_cons_zero, List.set_cons_succ]
                refine wpAnyH_take (i := 10) (oi := { dst := some 40, op := Go.Op.move (Go.Operand.tmp 8), type := 3, pos := "screeref16.go:37", after := #[{ on := 8, ground := Go.Ground.guard }], guard := some (8, false) }) (v := undef) rfl (by kernel_rfl) (by kernel_rfl) (by kernel_rfl) (fun _ _ _ h => h) (Or.inr ⟨by rfl, rfl⟩) hHeld ?_
                try simp only [Act.put, List.setIfInBounds_toArray, List.set_cons_zero, List.set_cons_succ]
                refine wpAnyH_take (i := 11) (oi := { dst := some 41, op := Go.Op.indexAddr 35 (Go.Operand.tmp 39) (Go.Operand.tmp 40), type := 0, pos := "screeref16.go:37", after := #[{ on := 9, ground := Go.Ground.data }, { on := 10, ground := Go.Ground.data }, { on := 8, ground := Go.Ground.guard }], guard := some (8, false) }) (v := undef) rfl (by kernel_rfl) (by kernel_rfl) (by kernel_rfl) (fun _ _ _ h => h) (Or.inr ⟨by rfl, rfl⟩) hHeld ?_
                try simp only [Act.put, List.setIfInBounds_toArray, List.set_cons_zero, List.set_cons_succ]
                refine wpAnyH_take (i := 12) (oi := { dst := some 42, op := Go.Op.load 3 (Go.Operand.tmp 41), type := 3, pos := "screeref16.go:37", after := #[{ on := 11, ground := Go.Ground.data }, { on := 8, ground := Go.Ground.guard }], guard := some (8, false) }) (v := undef) rfl (by kernel_rfl) (by kernel_rfl) (by kernel_rfl) (fun _ _ _ h => h) (Or.inr ⟨by rfl, rfl⟩) hHeld ?_
                try simp only [Act.put, List.setIfInBounds_toArray, List.set_cons_zero, List.set_cons_succ]
                refine wpAnyH_take (i := 13) (oi := { dst := some 43, op := Go.Op.move (Go.Operand.tmp 5), type := 35, pos := "screeref16.go:37", after := #[{ on := 8, ground := Go.Ground.guard }], guard := some (8, false) }) (v := undef) rfl (by kernel_rfl) (by kernel_rfl) (by kernel_rfl) (fun _ _ _ h => h) (Or.inr ⟨by rfl, rfl⟩) hHeld ?_
                try simp only [Act.put, List.setIfInBounds_toArray, List.set_cons_zero, List.set_cons_succ]
                refine wpAnyH_take (i := 14) (oi := { dst := some 44, op := Go.Op.move (Go.Operand.tmp 7), type := 3, pos := "screeref16.go:37", after := #[{ on := 8, ground := Go.Ground.guard }], guard := some (8, false) }) (v := undef) rfl (by kernel_rfl) (by kernel_rfl) (by kernel_rfl) (fun _ _ _ h => h) (Or.inr ⟨by rfl, rfl⟩) hHeld ?_
                try simp only [Act.put, List.setIfInBounds_toArray, List.set_cons_zero, List.set_cons_succ]
                refine wpAnyH_take (i := 15) (oi := { dst := some 45, op := Go.Op.indexAddr 35 (Go.Operand.tmp 43) (Go.Operand.tmp 44), type := 0, pos := "screeref16.go:37", after := #[{ on := 13, ground := Go.Ground.data }, { on := 14, ground := Go.Ground.data }, { on := 8, ground := Go.Ground.guard }], guard := some (8, false) }) (v := undef) rfl (by kernel_rfl) (by kernel_rfl) (by kernel_rfl) (fun _ _ _ h => h) (Or.inr ⟨by rfl, rfl⟩) hHeld ?_
                try simp only [Act.put, List.setIfInBounds_toArray, List.set_cons_zero, List.set_cons_succ]
                refine wpAnyH_take (i := 16) (oi := { dst := some 46, op := Go.Op.load 3 (Go.Operand.tmp 45), type := 3, pos := "screeref16.go:37", after := #[{ on := 15, ground := Go.Ground.data }, { on := 8, ground := Go.Ground.guard }], guard := some (8, false) }) (v := undef) rfl (by kernel_rfl) (by kernel_rfl) (by kernel_rfl) (fun _ _ _ h => h) (Or.inr ⟨by rfl, rfl⟩) hHeld ?_
                try simp only [Act.put, List.setIfInBounds_toArray, List.set_cons_zero, List.set_cons_succ]
                refine wpAnyH_take (i := 17) (oi := { dst := some 47, op := Go.Op.binOp Go.BinOp.gtr 3 (Go.Operand.tmp 42) (Go.Operand.tmp 46) 3, type := 4, pos := "screeref16.go:37", after := #[{ on := 12, ground := Go.Ground.data }, { on := 16, ground := Go.Ground.data }, { on := 8, ground := Go.Ground.guard }], guard := some (8, false) }) (v := undef) rfl (by kernel_rfl) (by kernel_rfl) (by kernel_rfl) (fun _ _ _ h => h) (Or.inr ⟨by rfl, rfl⟩) hHeld ?_
                try simp only [Act.put, List.setIfInBounds_toArray, List.set_cons_zero, List.set_cons_succ]
                refine wpAnyH_take (i := 18) (oi := { dst := some 48, op := Go.Op.pick (Go.Operand.tmp 38) (Go.Operand.const (Go.Value.bool true)) (Go.Operand.tmp 47), type := 4, pos := "screeref16.go:37", after := #[{ on := 8, ground := Go.Ground.data }, { on := 17, ground := Go.Ground.data }, { on := 5, ground := Go.Ground.guard }], guard := some (5, true) }) (v := ?_) rfl (by kernel_rfl) (by kernel_rfl) (by kernel_rfl) (fun _ _ _ h => h) (Or.inl ⟨by rfl, ?_⟩) hHeld ?_
                rotate_left
                · (intro wq hSw; (try dsimp only at hSw); go_simp; try (with_reducible rfl))
                try simp only [Act.put, List.setIfInBounds_toArray, List.set_cons_zero, List.set_cons_succ]
                refine wpAnyH_take (i := 19) (oi := { dst := some 49, op := Go.Op.pick (Go.Operand.tmp 35) (Go.Operand.tmp 48) (Go.Operand.const (Go.Value.bool false)), type := 4, pos := "screeref16.go:37", after := #[{ on := 5, ground := Go.Ground.data }, { on := 18, ground := Go.Ground.data }], guard := none }) (v := ?_) rfl (by kernel_rfl) (by kernel_rfl) (by kernel_rfl) (fun _ _ _ h => h) (Or.inl ⟨by rfl, ?_⟩) hHeld ?_
                rotate_left
                · (intro wq hSw; (try dsimp only at hSw); go_simp; try (with_reducible rfl))
                try simp only [Act.put, List.setIfInBounds_toArray, List.set_cons_zero, List.set_cons_succ]
                refine wpAnyH_done (by kernel_rfl) ?_ _
                go_wp2_with fail
                go_roundw
                case rel => exact ⟨k + 1, by omega, by first | (rw [HN1.out]; done) | (rw [HN1.out]; rfl), by (try go_num), HBR.out.trans ((Below.refl wr.heap.size wr).drew.mono HBR.out.size)⟩
                case measure => simp [intOf]; omega
              | some a =>
                have ha : a < n := by have := (bestK_some hb).1; omega
                have hai : (a : Int) < (n : Int) := by omega
                have ca := (HX.out.below HBR.out).cell ha
                obtain ⟨y, hy⟩ : ∃ y, scA ss' a = y := ⟨_, rfl⟩
                rw [hy] at ca
                have HCA := hidV ca
                by_cases h2 : y < x
                · have HN1 : Hid (bestK ss' (k + 1) = some k) := by
                    show _ = _
                    conv => lhs; unfold bestK
                    rw [hb]
                    simp only
                    rw [hx, hy, if_pos ⟨h1, h2⟩]
                  clear hb hx hy ck ca
                  rw [show bI (some a) = (a : Int) from rfl]
                  go_wp2_with fail
                  refine wp_region_held_drew (S := (fun X => RowKit.Below wr.heap.size wr X ∧ X.cell? ⟨g, k, none⟩ = some (.int .i64 x) ∧ X.cell? ⟨g, a, none⟩ = some (.int .i64 y))) (by kernel_rfl) ?_ (fun hHeld => ?_)
                  · exact ⟨(Below.refl _ _).drew, HCK.out, HCA.out⟩
                  refine wpAnyH_take (i := 0) (oi := { dst := some 30, op := Go.Op.move (Go.Operand.tmp 5), type := 35, pos := "screeref16.go:37", after := #[], guard := none }) (v := ?_) rfl (by kernel_rfl) (by kernel_rfl) (by kernel_rfl) (fun _ _ _ h => h) (Or.inl ⟨by rfl, ?_⟩) hHeld ?_
                  rotate_left
                  · (intro wq hSw; (try dsimp only at hSw); go_simp; try (with_reducible rfl))
                  try simp only [Act.put, List.setIfInBounds_toArray, List.set_cons_zero, List.set_cons_succ]
                  refine wpAnyH_take (i := 1) (oi := { dst := some 31, op := Go.Op.move (Go.Operand.tmp 8), type := 3, pos := "screeref16.go:37", after := #[], guard := none }) (v := ?_) rfl (by kernel_rfl) (by kernel_rfl) (by kernel_rfl) (fun _ _ _ h => h) (Or.inl ⟨by rfl, ?_⟩) hHeld ?_
                  rotate_left
                  · (intro wq hSw; (try dsimp only at hSw); go_simp; try (with_reducible rfl))
                  try simp only [Act.put, List.setIfInBounds_toArray, List.set_cons_zero, List.set_cons_succ]
                  refine wpAnyH_take (i := 2) (oi := { dst := some 32, op := Go.Op.indexAddr 35 (Go.Operand.tmp 30) (Go.Operand.tmp 31), type := 0, pos := "screeref16.go:37", after := #[{ on := 0, ground := Go.Ground.data }, { on := 1, ground := Go.Ground.data }], guard := none }) (v := ?_) rfl (by kernel_rfl) (by kernel_rfl) (by kernel_rfl) (fun _ _ _ h => h) (Or.inl ⟨by rfl, ?_⟩) hHeld ?_
                  rotate_left
                  · (intro wq hSw; (try dsimp only at hSw); go_simp; try (with_reducible rfl))
                  try simp only [Act.put, List.setIfInBounds_toArray, List.set_cons_zero, List.set_cons_succ]
                  refine wpAnyH_take (i := 3) (oi := { dst := some 33, op := Go.Op.load 3 (Go.Operand.tmp 32), type := 3, pos := "screeref16.go:37", after := #[{ on := 2, ground := Go.Ground.data }], guard := none }) (v := ?_) rfl (by kernel_rfl) (by kernel_rfl) (by kernel_rfl) (fun _ _ _ h => h) (Or.inl ⟨by rfl, ?_⟩) hHeld ?_
                  rotate_left
                  · (intro wq hSw; (try dsimp only at hSw); go_simp; try (with_reducible rfl))
                  try simp only [Act.put, List.setIfInBounds_toArray, List.set_cons_zero, List.set_cons_succ]
                  refine wpAnyH_take (i := 4) (oi := { dst := some 34, op := Go.Op.binOp Go.BinOp.geq 3 (Go.Operand.tmp 33) (Go.Operand.const (Go.Value.int Go.IntKind.i64 1000)) 3, type := 4, pos := "screeref16.go:37", after := #[{ on := 3, ground := Go.Ground.data }], guard := none }) (v := .bool true) rfl (by kernel_rfl) (by kernel_rfl) (by kernel_rfl) (fun _ _ _ h => h) (Or.inl ⟨by rfl, ?_⟩) hHeld ?_
                  · (intro wq hSw; (try dsimp only at hSw); go_simp; try omega)
                  try simp only [Act.put, List.setIfInBounds_toArray, List.set_cons_zero, List.set_cons_succ]
                  refine wpAnyH_take (i := 5) (oi := { dst := some 35, op := Go.Op.move (Go.Operand.tmp 34), type := 4, pos := "screeref16.go:37", after := #[{ on := 4, ground := Go.Ground.data }], guard := none }) (v := ?_) rfl (by kernel_rfl) (by kernel_rfl) (by kernel_rfl) (fun _ _ _ h => h) (Or.inl ⟨by rfl, ?_⟩) hHeld ?_
                  rotate_left
                  · (intro wq hSw; (try dsimp only at hSw); go_simp; try (with_reducible rfl))
                  try simp only [Act.put, List.setIfInBounds_toArray, List.set_cons_zero, List.set_cons_succ]
                  refine wpAnyH_take (i := 6) (oi := { dst := some 36, op := Go.Op.move (Go.Operand.tmp 7), type := 3, pos := "screeref16.go:37", after := #[{ on := 5, ground := Go.Ground.guard }], guard := some (5, true) }) (v := ?_) rfl (by kernel_rfl) (by kernel_rfl) (by kernel_rfl) (fun _ _ _ h => h) (Or.inl ⟨by rfl, ?_⟩) hHeld ?_
                  rotate_left
                  · (intro wq hSw; (try dsimp only at hSw); go_simp; try (with_reducible rfl))
                  try simp only [Act.put, List.setIfInBounds_toArray, List.set_cons_zero, List.set_cons_succ]
                  refine wpAnyH_take (i := 7) (oi := { dst := some 37, op := Go.Op.binOp Go.BinOp.lss 3 (Go.Operand.tmp 36) (Go.Operand.const (Go.Value.int Go.IntKind.i64 0)) 3, type := 4, pos := "screeref16.go:37", after := #[{ on := 6, ground := Go.Ground.data }, { on := 5, ground := Go.Ground.guard }], guard := some (5, true) }) (v := .bool false) rfl (by kernel_rfl) (by kernel_rfl) (by kernel_rfl) (fun _ _ _ h => h) (Or.inl ⟨by rfl, ?_⟩) hHeld ?_
                  · (intro wq hSw; (try dsimp only at hSw); go_simp; try omega)
                  try simp only [Act.put, List.setIfInBounds_toArray, List.set_cons_zero, List.set_cons_succ]
                  refine wpAnyH_take (i := 8) (oi := { dst := some 38, op := Go.Op.move (Go.Operand.tmp 37), type := 4, pos := "screeref16.go:37", after := #[{ on := 7, ground := Go.Ground.data }, { on := 5, ground := Go.Ground.chain }, { on := 5, ground := Go.Ground.guard }], guard := some (5, true) }) (v := ?_) rfl (by kernel_rfl) (by kernel_rfl) (by kernel_rfl) (fun _ _ _ h => h) (Or.inl ⟨by rfl, ?_⟩) hHeld ?_
                  rotate_left
                  · (intro wq hSw; (try dsimp only at hSw); go_simp; try (with_reducible rfl))
                  try simp only [Act.put, List.setIfInBounds_toArray, List.set_cons_zero, List.set_cons_succ]
                  refine wpAnyH_take (i := 9) (oi := { dst := some 39, op := Go.Op.move (Go.Operand.tmp 5), type := 35, pos := "screeref16.go:37", after := #[{ on := 8, ground := Go.Ground.guard }], guard := some (8, false) }) (v := ?_) rfl (by kernel_rfl) (by kernel_rfl) (by kernel_rfl) (fun _ _ _ h => h) (Or.inl ⟨by rfl, ?_⟩) hHeld ?_
                  rotate_left
                  · (intro wq hSw; (try dsimp only at hSw); go_simp; try (with_reducible rfl))
                  try simp only [Act.put, List.setIfInBounds_toArray, List.set_cons_zero, List.set_cons_succ]
                  refine wpAnyH_take (i := 10) (oi := { dst := some 40, op := Go.Op.move (Go.Operand.tmp 8), type := 3, pos := "screeref16.go:37", after := #[{ on := 8, ground := Go.Ground.guard }], guard := some (8, false) }) (v := ?_) rfl (by kernel_rfl) (by kernel_rfl) (by kernel_rfl) (fun _ _ _ h => h) (Or.inl ⟨by rfl, ?_⟩) hHeld ?_
                  rotate_left
                  · (intro wq hSw; (try dsimp only at hSw); go_simp; try (with_reducible rfl))
                  try simp only [Act.put, List.setIfInBounds_toArray, List.set_cons_zero, List.set_cons_succ]
                  refine wpAnyH_take (i := 11) (oi := { dst := some 41, op := Go.Op.indexAddr 35 (Go.Operand.tmp 39) (Go.Operand.tmp 40), type := 0, pos := "screeref16.go:37", after := #[{ on := 9, ground := Go.Ground.data }, { on := 10, ground := Go.Ground.data }, { on := 8, ground := Go.Ground.guard }], guard := some (8, false) }) (v := ?_) rfl (by kernel_rfl) (by kernel_rfl) (by kernel_rfl) (fun _ _ _ h => h) (Or.inl ⟨by rfl, ?_⟩) hHeld ?_
                  rotate_left
                  · (intro wq hSw; (try dsimp only at hSw); go_simp; try (with_reducible rfl))
                  try simp only [Act.put, List.setIfInBounds_toArray, List.set_cons_zero, List.set_cons_succ]
                  refine wpAnyH_take (i := 12) (oi := { dst := some 42, op := Go.Op.load 3 (Go.Operand.tmp 41), type := 3, pos := "screeref16.go:37", after := #[{ on := 11, ground := Go.Ground.data }, { on := 8, ground := Go.Ground.guard }], guard := some (8, false) }) (v := ?_) rfl (by kernel_rfl) (by kernel_rfl) (by kernel_rfl) (fun _ _ _ h => h) (Or.inl ⟨by rfl, ?_⟩) hHeld ?_
                  rotate_left
                  · (intro wq hSw; (try dsimp only at hSw); go_simp; try (with_reducible rfl))
                  try simp only [Act.put, List.setIfInBounds_toArray, List.set_cons_zero, List.set_cons_succ]
                  refine wpAnyH_take (i := 13) (oi := { dst := some 43, op := Go.Op.move (Go.Operand.tmp 5), type := 35, pos := "screeref16.go:37", after := #[{ on := 8, ground := Go.Ground.guard }], guard := some (8, false) }) (v := ?_) rfl (by kernel_rfl) (by kernel_rfl) (by kernel_rfl) (fun _ _ _ h => h) (Or.inl ⟨by rfl, ?_⟩) hHeld ?_
                  rotate_left
                  · (intro wq hSw; (try dsimp only at hSw); go_simp; try (with_reducible rfl))
                  try simp only [Act.put, List.setIfInBounds_toArray, List.set_cons_zero, List.set_cons_succ]
                  refine wpAnyH_take (i := 14) (oi := { dst := some 44, op := Go.Op.move (Go.Operand.tmp 7), type := 3, pos := "screeref16.go:37", after := #[{ on := 8, ground := Go.Ground.guard }], guard := some (8, false) }) (v := ?_) rfl (by kernel_rfl) (by kernel_rfl) (by kernel_rfl) (fun _ _ _ h => h) (Or.inl ⟨by rfl, ?_⟩) hHeld ?_
                  rotate_left
                  · (intro wq hSw; (try dsimp only at hSw); go_simp; try (with_reducible rfl))
                  try simp only [Act.put, List.setIfInBounds_toArray, List.set_cons_zero, List.set_cons_succ]
                  refine wpAnyH_take (i := 15) (oi := { dst := some 45, op := Go.Op.indexAddr 35 (Go.Operand.tmp 43) (Go.Operand.tmp 44), type := 0, pos := "screeref16.go:37", after := #[{ on := 13, ground := Go.Ground.data }, { on := 14, ground := Go.Ground.data }, { on := 8, ground := Go.Ground.guard }], guard := some (8, false) }) (v := ?_) rfl (by kernel_rfl) (by kernel_rfl) (by kernel_rfl) (fun _ _ _ h => h) (Or.inl ⟨by rfl, ?_⟩) hHeld ?_
                  rotate_left
                  · (intro wq hSw; (try dsimp only at hSw); go_simp; try (with_reducible rfl))
                  try simp only [Act.put, List.setIfInBounds_toArray, List.set_cons_zero, List.set_cons_succ]
                  refine wpAnyH_take (i := 16) (oi := { dst := some 46, op := Go.Op.load 3 (Go.Operand.tmp 45), type := 3, pos := "screeref16.go:37", after := #[{ on := 15, ground := Go.Ground.data }, { on := 8, ground := Go.Ground.guard }], guard := some (8, false) }) (v := ?_) rfl (by kernel_rfl) (by kernel_rfl) (by kernel_rfl) (fun _ _ _ h => h) (Or.inl ⟨by rfl, ?_⟩) hHeld ?_
                  rotate_left
                  · (intro wq hSw; (try dsimp only at hSw); go_simp; try (with_reducible rfl))
                  try simp only [Act.put, List.setIfInBounds_toArray, List.set_cons_zero, List.set_cons_succ]
                  refine wpAnyH_take (i := 17) (oi := { dst := some 47, op := Go.Op.binOp Go.BinOp.gtr 3 (Go.Operand.tmp 42) (Go.Operand.tmp 46) 3, type := 4, pos := "screeref16.go:37", after := #[{ on := 12, ground := Go.Ground.data }, { on := 16, ground := Go.Ground.data }, { on := 8, ground := Go.Ground.guard }], guard := some (8, false) }) (v := .bool true) rfl (by kernel_rfl) (by kernel_rfl) (by kernel_rfl) (fun _ _ _ h => h) (Or.inl ⟨by rfl, ?_⟩) hHeld ?_
                  · (intro wq hSw; (try dsimp only at hSw); go_simp; try omega)
                  try simp only [Act.put, List.setIfInBounds_toArray, List.set_cons_zero, List.set_cons_succ]
                  refine wpAnyH_take (i := 18) (oi := { dst := some 48, op := Go.Op.pick (Go.Operand.tmp 38) (Go.Operand.const (Go.Value.bool true)) (Go.Operand.tmp 47), type := 4, pos := "screeref16.go:37", after := #[{ on := 8, ground := Go.Ground.data }, { on := 17, ground := Go.Ground.data }, { on := 5, ground := Go.Ground.guard }], guard := some (5, true) }) (v := ?_) rfl (by kernel_rfl) (by kernel_rfl) (by kernel_rfl) (fun _ _ _ h => h) (Or.inl ⟨by rfl, ?_⟩) hHeld ?_
                  rotate_left
                  · (intro wq hSw; (try dsimp only at hSw); go_simp; try (with_reducible rfl))
                  try simp only [Act.put, List.setIfInBounds_toArray, List.set_cons_zero, List.set_cons_succ]
                  refine wpAnyH_take (i := 19) (oi := { dst := some 49, op := Go.Op.pick (Go.Operand.tmp 35) (Go.Operand.tmp 48) (Go.Operand.const (Go.Value.bool false)), type := 4, pos := "screeref16.go:37", after := #[{ on := 5, ground := Go.Ground.data }, { on := 18, ground := Go.Ground.data }], guard := none }) (v := ?_) rfl (by kernel_rfl) (by kernel_rfl) (by kernel_rfl) (fun _ _ _ h => h) (Or.inl ⟨by rfl, ?_⟩) hHeld ?_
                  rotate_left
                  · (intro wq hSw; (try dsimp only at hSw); go_simp; try (with_reducible rfl))
                  try simp only [Act.put, List.setIfInBounds_toArray, List.set_cons_zero, List.set_cons_succ]
                  refine wpAnyH_done (by kernel_rfl) ?_ _
                  go_wp2_with fail
                  go_roundw
                  case rel => exact ⟨k + 1, by omega, by first | (rw [HN1.out]; done) | (rw [HN1.out]; rfl), by (try go_num), HBR.out.trans ((Below.refl wr.heap.size wr).drew.mono HBR.out.size)⟩
                  case measure => simp [intOf]; omega
                · have HN1 : Hid (bestK ss' (k + 1) = some a) := by
                    show _ = _
                    conv => lhs; unfold bestK
                    rw [hb]
                    simp only
                    rw [hx, hy, if_neg (fun h => h2 h.2)]
                  clear hb hx hy ck ca
                  rw [show bI (some a) = (a : Int) from rfl]
                  go_wp2_with fail
                  refine wp_region_held_drew (S := (fun X => RowKit.Below wr.heap.size wr X ∧ X.cell? ⟨g, k, none⟩ = some (.int .i64 x) ∧ X.cell? ⟨g, a, none⟩ = some (.int .i64 y))) (by kernel_rfl) ?_ (fun hHeld => ?_)
                  · exact ⟨(Below.refl _ _).drew, HCK.out, HCA.out⟩
                  refine wpAnyH_take (i := 0) (oi := { dst := some 30, op := Go.Op.move (Go.Operand.tmp 5), type := 35, pos := "screeref16.go:37", after := #[], guard := none }) (v := ?_) rfl (by kernel_rfl) (by kernel_rfl) (by kernel_rfl) (fun _ _ _ h => h) (Or.inl ⟨by rfl, ?_⟩) hHeld ?_
                  rotate_left
                  · (intro wq hSw; (try dsimp only at hSw); go_simp; try (with_reducible rfl))
                  try simp only [Act.put, List.setIfInBounds_toArray, List.set_cons_zero, List.set_cons_succ]
                  refine wpAnyH_take (i := 1) (oi := { dst := some 31, op := Go.Op.move (Go.Operand.tmp 8), type := 3, pos := "screeref16.go:37", after := #[], guard := none }) (v := ?_) rfl (by kernel_rfl) (by kernel_rfl) (by kernel_rfl) (fun _ _ _ h => h) (Or.inl ⟨by rfl, ?_⟩) hHeld ?_
                  rotate_left
                  · (intro wq hSw; (try dsimp only at hSw); go_simp; try (with_reducible rfl))
                  try simp only [Act.put, List.setIfInBounds_toArray, List.set_cons_zero, List.set_cons_succ]
                  refine wpAnyH_take (i := 2) (oi := { dst := some 32, op := Go.Op.indexAddr 35 (Go.Operand.tmp 30) (Go.Operand.tmp 31), type := 0, pos := "screeref16.go:37", after := #[{ on := 0, ground := Go.Ground.data }, { on := 1, ground := Go.Ground.data }], guard := none }) (v := ?_) rfl (by kernel_rfl) (by kernel_rfl) (by kernel_rfl) (fun _ _ _ h => h) (Or.inl ⟨by rfl, ?_⟩) hHeld ?_
                  rotate_left
                  · (intro wq hSw; (try dsimp only at hSw); go_simp; try (with_reducible rfl))
                  try simp only [Act.put, List.setIfInBounds_toArray, List.set_cons_zero, List.set_cons_succ]
                  refine wpAnyH_take (i := 3) (oi := { dst := some 33, op := Go.Op.load 3 (Go.Operand.tmp 32), type := 3, pos := "screeref16.go:37", after := #[{ on := 2, ground := Go.Ground.data }], guard := none }) (v := ?_) rfl (by kernel_rfl) (by kernel_rfl) (by kernel_rfl) (fun _ _ _ h => h) (Or.inl ⟨by rfl, ?_⟩) hHeld ?_
                  rotate_left
                  · (intro wq hSw; (try dsimp only at hSw); go_simp; try (with_reducible rfl))
                  try simp only [Act.put, List.setIfInBounds_toArray, List.set_cons_zero, List.set_cons_succ]
                  refine wpAnyH_take (i := 4) (oi := { dst := some 34, op := Go.Op.binOp Go.BinOp.geq 3 (Go.Operand.tmp 33) (Go.Operand.const (Go.Value.int Go.IntKind.i64 1000)) 3, type := 4, pos := "screeref16.go:37", after := #[{ on := 3, ground := Go.Ground.data }], guard := none }) (v := .bool true) rfl (by kernel_rfl) (by kernel_rfl) (by kernel_rfl) (fun _ _ _ h => h) (Or.inl ⟨by rfl, ?_⟩) hHeld ?_
                  · (intro wq hSw; (try dsimp only at hSw); go_simp; try omega)
                  try simp only [Act.put, List.setIfInBounds_toArray, List.set_cons_zero, List.set_cons_succ]
                  refine wpAnyH_take (i := 5) (oi := { dst := some 35, op := Go.Op.move (Go.Operand.tmp 34), type := 4, pos := "screeref16.go:37", after := #[{ on := 4, ground := Go.Ground.data }], guard := none }) (v := ?_) rfl (by kernel_rfl) (by kernel_rfl) (by kernel_rfl) (fun _ _ _ h => h) (Or.inl ⟨by rfl, ?_⟩) hHeld ?_
                  rotate_left
                  · (intro wq hSw; (try dsimp only at hSw); go_simp; try (with_reducible rfl))
                  try simp only [Act.put, List.setIfInBounds_toArray, List.set_cons_zero, List.set_cons_succ]
                  refine wpAnyH_take (i := 6) (oi := { dst := some 36, op := Go.Op.move (Go.Operand.tmp 7), type := 3, pos := "screeref16.go:37", after := #[{ on := 5, ground := Go.Ground.guard }], guard := some (5, true) }) (v := ?_) rfl (by kernel_rfl) (by kernel_rfl) (by kernel_rfl) (fun _ _ _ h => h) (Or.inl ⟨by rfl, ?_⟩) hHeld ?_
                  rotate_left
                  · (intro wq hSw; (try dsimp only at hSw); go_simp; try (with_reducible rfl))
                  try simp only [Act.put, List.setIfInBounds_toArray, List.set_cons_zero, List.set_cons_succ]
                  refine wpAnyH_take (i := 7) (oi := { dst := some 37, op := Go.Op.binOp Go.BinOp.lss 3 (Go.Operand.tmp 36) (Go.Operand.const (Go.Value.int Go.IntKind.i64 0)) 3, type := 4, pos := "screeref16.go:37", after := #[{ on := 6, ground := Go.Ground.data }, { on := 5, ground := Go.Ground.guard }], guard := some (5, true) }) (v := .bool false) rfl (by kernel_rfl) (by kernel_rfl) (by kernel_rfl) (fun _ _ _ h => h) (Or.inl ⟨by rfl, ?_⟩) hHeld ?_
                  · (intro wq hSw; (try dsimp only at hSw); go_simp; try omega)
                  try simp only [Act.put, List.setIfInBounds_toArray, List.set_cons_zero, List.set_cons_succ]
                  refine wpAnyH_take (i := 8) (oi := { dst := some 38, op := Go.Op.move (Go.Operand.tmp 37), type := 4, pos := "screeref16.go:37", after := #[{ on := 7, ground := Go.Ground.data }, { on := 5, ground := Go.Ground.chain }, { on := 5, ground := Go.Ground.guard }], guard := some (5, true) }) (v := ?_) rfl (by kernel_rfl) (by kernel_rfl) (by kernel_rfl) (fun _ _ _ h => h) (Or.inl ⟨by rfl, ?_⟩) hHeld ?_
                  rotate_left
                  · (intro wq hSw; (try dsimp only at hSw); go_simp; try (with_reducible rfl))
                  try simp only [Act.put, List.setIfInBounds_toArray, List.set_cons_zero, List.set_cons_succ]
                  refine wpAnyH_take (i := 9) (oi := { dst := some 39, op := Go.Op.move (Go.Operand.tmp 5), type := 35, pos := "screeref16.go:37", after := #[{ on := 8, ground := Go.Ground.guard }], guard := some (8, false) }) (v := ?_) rfl (by kernel_rfl) (by kernel_rfl) (by kernel_rfl) (fun _ _ _ h => h) (Or.inl ⟨by rfl, ?_⟩) hHeld ?_
                  rotate_left
                  · (intro wq hSw; (try dsimp only at hSw); go_simp; try (with_reducible rfl))
                  try simp only [Act.put, List.setIfInBounds_toArray, List.set_cons_zero, List.set_cons_succ]
                  refine wpAnyH_take (i := 10) (oi := { dst := some 40, op := Go.Op.move (Go.Operand.tmp 8), type := 3, pos := "screeref16.go:37", after := #[{ on := 8, ground := Go.Ground.guard }], guard := some (8, false) }) (v := ?_) rfl (by kernel_rfl) (by kernel_rfl) (by kernel_rfl) (fun _ _ _ h => h) (Or.inl ⟨by rfl, ?_⟩) hHeld ?_
                  rotate_left
                  · (intro wq hSw; (try dsimp only at hSw); go_simp; try (with_reducible rfl))
                  try simp only [Act.put, List.setIfInBounds_toArray, List.set_cons_zero, List.set_cons_succ]
                  refine wpAnyH_take (i := 11) (oi := { dst := some 41, op := Go.Op.indexAddr 35 (Go.Operand.tmp 39) (Go.Operand.tmp 40), type := 0, pos := "screeref16.go:37", after := #[{ on := 9, ground := Go.Ground.data }, { on := 10, ground := Go.Ground.data }, { on := 8, ground := Go.Ground.guard }], guard := some (8, false) }) (v := ?_) rfl (by kernel_rfl) (by kernel_rfl) (by kernel_rfl) (fun _ _ _ h => h) (Or.inl ⟨by rfl, ?_⟩) hHeld ?_
                  rotate_left
                  · (intro wq hSw; (try dsimp only at hSw); go_simp; try (with_reducible rfl))
                  try simp only [Act.put, List.setIfInBounds_toArray, List.set_cons_zero, List.set_cons_succ]
                  refine wpAnyH_take (i := 12) (oi := { dst := some 42, op := Go.Op.load 3 (Go.Operand.tmp 41), type := 3, pos := "screeref16.go:37", after := #[{ on := 11, ground := Go.Ground.data }, { on := 8, ground := Go.Ground.guard }], guard := some (8, false) }) (v := ?_) rfl (by kernel_rfl) (by kernel_rfl) (by kernel_rfl) (fun _ _ _ h => h) (Or.inl ⟨by rfl, ?_⟩) hHeld ?_
                  rotate_left
                  · (intro wq hSw; (try dsimp only at hSw); go_simp; try (with_reducible rfl))
                  try simp only [Act.put, List.setIfInBounds_toArray, List.set_cons_zero, List.set_cons_succ]
                  refine wpAnyH_take (i := 13) (oi := { dst := some 43, op := Go.Op.move (Go.Operand.tmp 5), type := 35, pos := "screeref16.go:37", after := #[{ on := 8, ground := Go.Ground.guard }], guard := some (8, false) }) (v := ?_) rfl (by kernel_rfl) (by kernel_rfl) (by kernel_rfl) (fun _ _ _ h => h) (Or.inl ⟨by rfl, ?_⟩) hHeld ?_
                  rotate_left
                  · (intro wq hSw; (try dsimp only at hSw); go_simp; try (with_reducible rfl))
                  try simp only [Act.put, List.setIfInBounds_toArray, List.set_cons_zero, List.set_cons_succ]
                  refine wpAnyH_take (i := 14) (oi := { dst := some 44, op := Go.Op.move (Go.Operand.tmp 7), type := 3, pos := "screeref16.go:37", after := #[{ on := 8, ground := Go.Ground.guard }], guard := some (8, false) }) (v := ?_) rfl (by kernel_rfl) (by kernel_rfl) (by kernel_rfl) (fun _ _ _ h => h) (Or.inl ⟨by rfl, ?_⟩) hHeld ?_
                  rotate_left
                  · (intro wq hSw; (try dsimp only at hSw); go_simp; try (with_reducible rfl))
                  try simp only [Act.put, List.setIfInBounds_toArray, List.set_cons_zero, List.set_cons_succ]
                  refine wpAnyH_take (i := 15) (oi := { dst := some 45, op := Go.Op.indexAddr 35 (Go.Operand.tmp 43) (Go.Operand.tmp 44), type := 0, pos := "screeref16.go:37", after := #[{ on := 13, ground := Go.Ground.data }, { on := 14, ground := Go.Ground.data }, { on := 8, ground := Go.Ground.guard }], guard := some (8, false) }) (v := ?_) rfl (by kernel_rfl) (by kernel_rfl) (by kernel_rfl) (fun _ _ _ h => h) (Or.inl ⟨by rfl, ?_⟩) hHeld ?_
                  rotate_left
                  · (intro wq hSw; (try dsimp only at hSw); go_simp; try (with_reducible rfl))
                  try simp only [Act.put, List.setIfInBounds_toArray, List.set_cons_zero, List.set_cons_succ]
                  refine wpAnyH_take (i := 16) (oi := { dst := some 46, op := Go.Op.load 3 (Go.Operand.tmp 45), type := 3, pos := "screeref16.go:37", after := #[{ on := 15, ground := Go.Ground.data }, { on := 8, ground := Go.Ground.guard }], guard := some (8, false) }) (v := ?_) rfl (by kernel_rfl) (by kernel_rfl) (by kernel_rfl) (fun _ _ _ h => h) (Or.inl ⟨by rfl, ?_⟩) hHeld ?_
                  rotate_left
                  · (intro wq hSw; (try dsimp only at hSw); go_simp; try (with_reducible rfl))
                  try simp only [Act.put, List.setIfInBounds_toArray, List.set_cons_zero, List.set_cons_succ]
                  refine wpAnyH_take (i := 17) (oi := { dst := some 47, op := Go.Op.binOp Go.BinOp.gtr 3 (Go.Operand.tmp 42) (Go.Operand.tmp 46) 3, type := 4, pos := "screeref16.go:37", after := #[{ on := 12, ground := Go.Ground.data }, { on := 16, ground := Go.Ground.data }, { on := 8, ground := Go.Ground.guard }], guard := some (8, false) }) (v := .bool false) rfl (by kernel_rfl) (by kernel_rfl) (by kernel_rfl) (fun _ _ _ h => h) (Or.inl ⟨by rfl, ?_⟩) hHeld ?_
                  · (intro wq hSw; (try dsimp only at hSw); go_simp; try omega)
                  try simp only [Act.put, List.setIfInBounds_toArray, List.set_cons_zero, List.set_cons_succ]
                  refine wpAnyH_take (i := 18) (oi := { dst := some 48, op := Go.Op.pick (Go.Operand.tmp 38) (Go.Operand.const (Go.Value.bool true)) (Go.Operand.tmp 47), type := 4, pos := "screeref16.go:37", after := #[{ on := 8, ground := Go.Ground.data }, { on := 17, ground := Go.Ground.data }, { on := 5, ground := Go.Ground.guard }], guard := some (5, true) }) (v := ?_) rfl (by kernel_rfl) (by kernel_rfl) (by kernel_rfl) (fun _ _ _ h => h) (Or.inl ⟨by rfl, ?_⟩) hHeld ?_
                  rotate_left
                  · (intro wq hSw; (try dsimp only at hSw); go_simp; try (with_reducible rfl))
                  try simp only [Act.put, List.setIfInBounds_toArray, List.set_cons_zero, List.set_cons_succ]
                  refine wpAnyH_take (i := 19) (oi := { dst := some 49, op := Go.Op.pick (Go.Operand.tmp 35) (Go.Operand.tmp 48) (Go.Operand.const (Go.Value.bool false)), type := 4, pos := "screeref16.go:37", after := #[{ on := 5, ground := Go.Ground.data }, { on := 18, ground := Go.Ground.data }], guard := none }) (v := ?_) rfl (by kernel_rfl) (by kernel_rfl) (by kernel_rfl) (fun _ _ _ h => h) (Or.inl ⟨by rfl, ?_⟩) hHeld ?_
                  rotate_left
                  · (intro wq hSw; (try dsimp only at hSw); go_simp; try (with_reducible rfl))
                  try simp only [Act.put, List.setIfInBounds_toArray, List.set_cons_zero, List.set_cons_succ]
                  refine wpAnyH_done (by kernel_rfl) ?_ _
                  go_wp2_with fail
                  go_roundw
                  case rel => exact ⟨k + 1, by omega, by first | (rw [HN1.out]; done) | (rw [HN1.out]; rfl), by (try go_num), HBR.out.trans ((Below.refl wr.heap.size wr).drew.mono HBR.out.size)⟩
                  case measure => simp [intOf]; omega
            · have HN1 : Hid (bestK ss' (k + 1) = bestK ss' k) := by
                show _ = _
                conv => lhs; unfold bestK
                cases hb : bestK ss' k with
                | none => simp only; rw [hx, if_neg h1]
                | some a => simp only; rw [hx, if_neg (fun h => h1 h.1)]
              clear hx ck
              obtain ⟨bv, hbv⟩ : ∃ bv, bI (bestK ss' k) = bv := ⟨_, rfl⟩
              rw [hbv]
              have HBV := hidV hbv
              clear hbv
              go_wp2_with fail
              refine wp_region_held_drew (S := (fun X => RowKit.Below wr.heap.size wr X ∧ X.cell? ⟨g, k, none⟩ = some (.int .i64 x))) (by kernel_rfl) ?_ (fun hHeld => ?_)
              · exact ⟨(Below.refl _ _).drew, HCK.out⟩
              refine wpAnyH_take (i := 0) (oi := { dst := some 30, op := Go.Op.move (Go.Operand.tmp 5), type := 35, pos := "screeref16.go:37", after := #[], guard := none }) (v := ?_) rfl (by kernel_rfl) (by kernel_rfl) (by kernel_rfl) (fun _ _ _ h => h) (Or.inl ⟨by rfl, ?_⟩) hHeld ?_
              rotate_left
              · (intro wq hSw; (try dsimp only at hSw); go_simp; try (with_reducible rfl))
              try simp only [Act.put, List.setIfInBounds_toArray, List.set_cons_zero, List.set_cons_succ]
              refine wpAnyH_take (i := 1) (oi := { dst := some 31, op := Go.Op.move (Go.Operand.tmp 8), type := 3, pos := "screeref16.go:37", after := #[], guard := none }) (v := ?_) rfl (by kernel_rfl) (by kernel_rfl) (by kernel_rfl) (fun _ _ _ h => h) (Or.inl ⟨by rfl, ?_⟩) hHeld ?_
              rotate_left
              · (intro wq hSw; (try dsimp only at hSw); go_simp; try (with_reducible rfl))
              try simp only [Act.put, List.setIfInBounds_toArray, List.set_cons_zero, List.set_cons_succ]
              refine wpAnyH_take (i := 2) (oi := { dst := some 32, op := Go.Op.indexAddr 35 (Go.Operand.tmp 30) (Go.Operand.tmp 31), type := 0, pos := "screeref16.go:37", after := #[{ on := 0, ground := Go.Ground.data }, { on := 1, ground := Go.Ground.data }], guard := none }) (v := ?_) rfl (by kernel_rfl) (by kernel_rfl) (by kernel_rfl) (fun _ _ _ h => h) (Or.inl ⟨by rfl, ?_⟩) hHeld ?_
              rotate_left
              · (intro wq hSw; (try dsimp only at hSw); go_simp; try (with_reducible rfl))
              try simp only [Act.put, List.setIfInBounds_toArray, List.set_cons_zero, List.set_cons_succ]
              refine wpAnyH_take (i := 3) (oi := { dst := some 33, op := Go.Op.load 3 (Go.Operand.tmp 32), type := 3, pos := "screeref16.go:37", after := #[{ on := 2, ground := Go.Ground.data }], guard := none }) (v := ?_) rfl (by kernel_rfl) (by kernel_rfl) (by kernel_rfl) (fun _ _ _ h => h) (Or.inl ⟨by rfl, ?_⟩) hHeld ?_
              rotate_left
              · (intro wq hSw; (try dsimp only at hSw); go_simp; try (with_reducible rfl))
              try simp only [Act.put, List.setIfInBounds_toArray, List.set_cons_zero, List.set_cons_succ]
              refine wpAnyH_take (i := 4) (oi := { dst := some 34, op := Go.Op.binOp Go.BinOp.geq 3 (Go.Operand.tmp 33) (Go.Operand.const (Go.Value.int Go.IntKind.i64 1000)) 3, type := 4, pos := "screeref16.go:37", after := #[{ on := 3, ground := Go.Ground.data }], guard := none }) (v := .bool false) rfl (by kernel_rfl) (by kernel_rfl) (by kernel_rfl) (fun _ _ _ h => h) (Or.inl ⟨by rfl, ?_⟩) hHeld ?_
              · (intro wq hSw; (try dsimp only at hSw); go_simp; try omega)
              try simp only [Act.put, List.setIfInBounds_toArray, List.set_cons_zero, List.set_cons_succ]
              refine wpAnyH_take (i := 5) (oi := { dst := some 35, op := Go.Op.move (Go.Operand.tmp 34), type := 4, pos := "screeref16.go:37", after := #[{ on := 4, ground := Go.Ground.data }], guard := none }) (v := ?_) rfl (by kernel_rfl) (by kernel_rfl) (by kernel_rfl) (fun _ _ _ h => h) (Or.inl ⟨by rfl, ?_⟩) hHeld ?_
              rotate_left
              · (intro wq hSw; (try dsimp only at hSw); go_simp; try (with_reducible rfl))
              try simp only [Act.put, List.setIfInBounds_toArray, List.set_cons_zero, List.set_cons_succ]
              refine wpAnyH_take (i := 6) (oi := { dst := some 36, op := Go.Op.move (Go.Operand.tmp 7), type := 3, pos := "screeref16.go:37", after := #[{ on := 5, ground := Go.Ground.guard }], guard := some (5, true) }) (v := undef) rfl (by kernel_rfl) (by kernel_rfl) (by kernel_rfl) (fun _ _ _ h => h) (Or.inr ⟨by rfl, rfl⟩) hHeld ?_
              try simp only [Act.put, List.setIfInBounds_toArray, List.set_cons_zero, List.set_cons_succ]
              refine wpAnyH_take (i := 7) (oi := { dst := some 37, op := Go.Op.binOp Go.BinOp.lss 3 (Go.Operand.tmp 36) (Go.Operand.const (Go.Value.int Go.IntKind.i64 0)) 3, type := 4, pos := "screeref16.go:37", after := #[{ on := 6, ground := Go.Ground.data }, { on := 5, ground := Go.Ground.guard }], guard := some (5, true) }) (v := undef) rfl (by kernel_rfl) (by kernel_rfl) (by kernel_rfl) (fun _ _ _ h => h) (Or.inr ⟨by rfl, rfl⟩) hHeld ?_
              try simp only [Act.put, List.setIfInBounds_toArray, List.set_cons_zero, List.set_cons_succ]
              refine wpAnyH_take (i := 8) (oi := { dst := some 38, op := Go.Op.move (Go.Operand.tmp 37), type := 4, pos := "screeref16.go:37", after := #[{ on := 7, ground := Go.Ground.data }, { on := 5, ground := Go.Ground.chain }, { on := 5, ground := Go.Ground.guard }], guard := some (5, true) }) (v := undef) rfl (by kernel_rfl) (by kernel_rfl) (by kernel_rfl) (fun _ _ _ h => h) (Or.inr ⟨by rfl, rfl⟩) hHeld ?_
              try simp only [Act.put, List.setIfInBounds_toArray, List.set_cons_zero, List.set_cons_succ]
              refine wpAnyH_take (i := 9) (oi := { dst := some 39, op := Go.Op.move (Go.Operand.tmp 5), type := 35, pos := "screeref16.go:37", after := #[{ on := 8, ground := Go.Ground.guard }], guard := some (8, false) }) (v := undef) rfl (by kernel_rfl) (by kernel_rfl) (by kernel_rfl) (fun _ _ _ h => h) (Or.inr ⟨by rfl, rfl⟩) hHeld ?_
              try simp only [Act.put, List.setIfInBounds_toArray, List.set_cons_zero, List.set_cons_succ]
              refine wpAnyH_take (i := 10) (oi := { dst := some 40, op := Go.Op.move (Go.Operand.tmp 8), type := 3, pos := "screeref16.go:37", after := #[{ on := 8, ground := Go.Ground.guard }], guard := some (8, false) }) (v := undef) rfl (by kernel_rfl) (by kernel_rfl) (by kernel_rfl) (fun _ _ _ h => h) (Or.inr ⟨by rfl, rfl⟩) hHeld ?_
              try simp only [Act.put, List.setIfInBounds_toArray, List.set_cons_zero, List.set_cons_succ]
              refine wpAnyH_take (i := 11) (oi := { dst := some 41, op := Go.Op.indexAddr 35 (Go.Operand.tmp 39) (Go.Operand.tmp 40), type := 0, pos := "screeref16.go:37", after := #[{ on := 9, ground := Go.Ground.data }, { on := 10, ground := Go.Ground.data }, { on := 8, ground := Go.Ground.guard }], guard := some (8, false) }) (v := undef) rfl (by kernel_rfl) (by kernel_rfl) (by kernel_rfl) (fun _ _ _ h => h) (Or.inr ⟨by rfl, rfl⟩) hHeld ?_
              try simp only [Act.put, List.setIfInBounds_toArray, List.set_cons_zero, List.set_cons_succ]
              refine wpAnyH_take (i := 12) (oi := { dst := some 42, op := Go.Op.load 3 (Go.Operand.tmp 41), type := 3, pos := "screeref16.go:37", after := #[{ on := 11, ground := Go.Ground.data }, { on := 8, ground := Go.Ground.guard }], guard := some (8, false) }) (v := undef) rfl (by kernel_rfl) (by kernel_rfl) (by kernel_rfl) (fun _ _ _ h => h) (Or.inr ⟨by rfl, rfl⟩) hHeld ?_
              try simp only [Act.put, List.setIfInBounds_toArray, List.set_cons_zero, List.set_cons_succ]
              refine wpAnyH_take (i := 13) (oi := { dst := some 43, op := Go.Op.move (Go.Operand.tmp 5), type := 35, pos := "screeref16.go:37", after := #[{ on := 8, ground := Go.Ground.guard }], guard := some (8, false) }) (v := undef) rfl (by kernel_rfl) (by kernel_rfl) (by kernel_rfl) (fun _ _ _ h => h) (Or.inr ⟨by rfl, rfl⟩) hHeld ?_
              try simp only [Act.put, List.setIfInBounds_toArray, List.set_cons_zero, List.set_cons_succ]
              refine wpAnyH_take (i := 14) (oi := { dst := some 44, op := Go.Op.move (Go.Operand.tmp 7), type := 3, pos := "screeref16.go:37", after := #[{ on := 8, ground := Go.Ground.guard }], guard := some (8, false) }) (v := undef) rfl (by kernel_rfl) (by kernel_rfl) (by kernel_rfl) (fun _ _ _ h => h) (Or.inr ⟨by rfl, rfl⟩) hHeld ?_
              try simp only [Act.put, List.setIfInBounds_toArray, List.set_cons_zero, List.set_cons_succ]
              refine wpAnyH_take (i := 15) (oi := { dst := some 45, op := Go.Op.indexAddr 35 (Go.Operand.tmp 43) (Go.Operand.tmp 44), type := 0, pos := "screeref16.go:37", after := #[{ on := 13, ground := Go.Ground.data }, { on := 14, ground := Go.Ground.data }, { on := 8, ground := Go.Ground.guard }], guard := some (8, false) }) (v := undef) rfl (by kernel_rfl) (by kernel_rfl) (by kernel_rfl) (fun _ _ _ h => h) (Or.inr ⟨by rfl, rfl⟩) hHeld ?_
              try simp only [Act.put, List.setIfInBounds_toArray, List.set_cons_zero, List.set_cons_succ]
              refine wpAnyH_take (i := 16) (oi := { dst := some 46, op := Go.Op.load 3 (Go.Operand.tmp 45), type := 3, pos := "screeref16.go:37", after := #[{ on := 15, ground := Go.Ground.data }, { on := 8, ground := Go.Ground.guard }], guard := some (8, false) }) (v := undef) rfl (by kernel_rfl) (by kernel_rfl) (by kernel_rfl) (fun _ _ _ h => h) (Or.inr ⟨by rfl, rfl⟩) hHeld ?_
              try simp only [Act.put, List.setIfInBounds_toArray, List.set_cons_zero, List.set_cons_succ]
              refine wpAnyH_take (i := 17) (oi := { dst := some 47, op := Go.Op.binOp Go.BinOp.gtr 3 (Go.Operand.tmp 42) (Go.Operand.tmp 46) 3, type := 4, pos := "screeref16.go:37", after := #[{ on := 12, ground := Go.Ground.data }, { on := 16, ground := Go.Ground.data }, { on := 8, ground := Go.Ground.guard }], guard := some (8, false) }) (v := undef) rfl (by kernel_rfl) (by kernel_rfl) (by kernel_rfl) (fun _ _ _ h => h) (Or.inr ⟨by rfl, rfl⟩) hHeld ?_
              try simp only [Act.put, List.setIfInBounds_toArray, List.set_cons_zero, List.set_cons_succ]
              refine wpAnyH_take (i := 18) (oi := { dst := some 48, op := Go.Op.pick (Go.Operand.tmp 38) (Go.Operand.const (Go.Value.bool true)) (Go.Operand.tmp 47), type := 4, pos := "screeref16.go:37", after := #[{ on := 8, ground := Go.Ground.data }, { on := 17, ground := Go.Ground.data }, { on := 5, ground := Go.Ground.guard }], guard := some (5, true) }) (v := undef) rfl (by kernel_rfl) (by kernel_rfl) (by kernel_rfl) (fun _ _ _ h => h) (Or.inr ⟨by rfl, rfl⟩) hHeld ?_
              try simp only [Act.put, List.setIfInBounds_toArray, List.set_cons_zero, List.set_cons_succ]
              refine wpAnyH_take (i := 19) (oi := { dst := some 49, op := Go.Op.pick (Go.Operand.tmp 35) (Go.Operand.tmp 48) (Go.Operand.const (Go.Value.bool false)), type := 4, pos := "screeref16.go:37", after := #[{ on := 5, ground := Go.Ground.data }, { on := 18, ground := Go.Ground.data }], guard := none }) (v := ?_) rfl (by kernel_rfl) (by kernel_rfl) (by kernel_rfl) (fun _ _ _ h => h) (Or.inl ⟨by rfl, ?_⟩) hHeld ?_
              rotate_left
              · (intro wq hSw; (try dsimp only at hSw); go_simp; try (with_reducible rfl))
              try simp only [Act.put, List.setIfInBounds_toArray, List.set_cons_zero, List.set_cons_succ]
              refine wpAnyH_done (by kernel_rfl) ?_ _
              go_wp2_with fail
              go_roundw
              case rel => exact ⟨k + 1, by omega, by rw [HN1.out]; exact congrArg (Value.int .i64) HBV.out.symm, by (try go_num), HBR.out.trans ((Below.refl wr.heap.size wr).drew.mono HBR.out.size)⟩
              case measure => simp [intOf]; omega
          · have q1 : ¬ (k : Int) < (n : Int) := by omega
            have hkn : k = n := by omega
            subst hkn
            have HX4 := hidV (HX.out.below HBR.out)
            have hql : qn = (preO bb ++ out).length := by
              have := (OwnK.sk HX.out.o2).1
              rw [zI_len] at this
              exact this
            have hos := HX.out.oi.short
            rw [basO_len, ← HN.out] at hos
            have hpl : (preO bb).length ≤ 1 := by cases bb <;> simp [preO]
            have hqb : qn ≤ 1 + k := by rw [hql, List.length_append]; omega
            cases hb : bestK ss' k with
            | none =>
              have HBN := hidV hb
              clear hb hql
              rw [show bI none = -1 from rfl]
              go_wp2_with fail
              go_ret
              have HF : Hid (Ls kI wr (qa, qn, qc) (zI (ordL c V zs)) ∧ RowKit.Below w.heap.size w wr) := ⟨HX4.out.fin HBN.out HBB.out HZ.out.1 HZ.out.2, HW.out.1.trans (HX4.out.old.below.mono HW.out.1.size)⟩
              first
              | exact ⟨(qa, qn, qc), rfl, HF.out.1, HF.out.2⟩
              | exact ⟨qa, qn, qc, ⟨rfl, rfl, rfl⟩, HF.out.1, HF.out.2⟩
              | (refine ⟨qa, qn, qc, ?_, HF.out.1, HF.out.2⟩; simp [svV])
            | some z =>
              have HBN := hidV hb
              have hzn : z < k := (bestK_some hb).1
              have hzi : (z : Int) < (k : Int) := by omega
              have hz9 : ¬ (z : Int) < 0 := by omega
              have cz := HX4.out.cell hzn
              have HCZ := hidV cz
              clear hb cz
              rw [show bI (some z) = (z : Int) from rfl]
              have hsl : (zI (preO bb ++ out)).length ≤ 100 := by rw [zI_len, ← hql]; omega
              have hsl2 : (zI (preO bb ++ out)).length = qn := by rw [zI_len, hql]
              have HSL := hidV hsl2
              clear hsl2 hql
              go_wp2_with (at_builtin; go_loud (refine wpList_appK kI _ (by rfl) (.tmp 54) (.tmp 56) 35 (by rfl) iz Tryz.underlying35 hi hz0 hz1' hz2' 2 T3 (.slice qa qn qc) (zI (preO bb ++ out)) (by rfl) (HX4.out.o2.below ((Below.refl _ _).alloc (Nat.le_refl _) _)) (some ⟨wr.heap.size, 0, none⟩) 1 1 [(z : Int)] (by rfl) rfl (by simp) (isK_int _ _) (by simp; omega) ?_; intro a' c' T' w5 ho5 hg5; have HY : Hid (OwnK kI 2 T' w5 (.slice a' ((zI (preO bb ++ out)).length + 1) c') (zI (preO bb ++ out) ++ [(z : Int)]) ∧ Goes (· = 2) T3 wr T' w5) := ⟨ho5, (Goes.below (t := (· = 2)) ((Below.refl _ _).alloc (Nat.le_refl _) _)).trans hg5⟩; have cz' : w5.cell? ⟨g, z, none⟩ = some (.int .i64 (scA ss' z)) := (HY.out.2.cell (b := g) (j := z) (OwnK.tgl HX4.out.o1) (by rw [OwnK.tg HX4.out.o1]; decide)).trans HCZ.out; have fz' : w5.frozen? ⟨g, z, none⟩ = false := OwnK.fz (HX4.out.o1.goes HY.out.2 (by decide)) z; clear ho5 hg5; simp only [List.length_singleton, HSL.out]))
              go_roundw
              case rel => exact ⟨_, _, (a', _, c'), T', rfl, HX4.out.next HBN.out HY.out.2 (by have h9 := HY.out.1; rw [HSL.out] at h9; exact h9)⟩
              case measure => simp [lnOf]; omega
end Vr
end Go.Proofs.YtaejjpbpnedblaaGreat
