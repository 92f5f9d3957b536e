import Derived.Test.YtkofopaejkabhaaMk6
import Derived.Test.YtkofopaejkabhaaMg3
namespace Go.Proofs.Ytkofopaejkabhaa
namespace Mem
open Go.RowKit Laws Irw Erw KMath Skm Byt Sk Grp
set_option linter.unusedVariables false
set_option maxRecDepth 100000
set_option linter.unusedSimpArgs false

/-- batches that may be -/
structure Bs (gs : List (List Chk.Wr)) : Prop where
  len : gs.length ≤ 60
  l16 : ∀ g ∈ gs, g.length ≤ 16
  ok : ∀ g ∈ gs, ∀ x ∈ g, 0 < x.1.size ∧ x.1.size ≤ 64 ∧ x.2.2.size ≤ 512 ∧ Chk.val x.2.1 x.2.2 = x.2.2
theorem Bs.of (gs : List (List Chk.Wr)) : Bs ((gs.take 60).map rightL) := by
  refine ⟨by simp; omega, fun g hg => ?_, fun g hg => ?_⟩
  · obtain ⟨ws, _, rfl⟩ := List.mem_map.1 hg
    exact rightL_len ws
  · obtain ⟨ws, _, rfl⟩ := List.mem_map.1 hg
    exact rightL_ok
theorem Bs.mem {gs : List (List Chk.Wr)} {i : Nat} (h : i < gs.length) : gs.getD i [] ∈ gs := by
  have : gs.getD i [] = gs[i] := by simp [h]
  rw [this]; exact List.getElem_mem h
theorem errB_of {g : List Chk.Wr} (hl : g.length ≤ 16) (h : ∀ x ∈ g, 0 < x.1.size ∧ x.1.size ≤ 64 ∧ x.2.2.size ≤ 512 ∧ Chk.val x.2.1 x.2.2 = x.2.2) : Chk.errB g = 0 := by
  unfold Chk.errB
  rw [if_neg (by omega)]
  clear hl
  induction g with
  | nil => rfl
  | cons x r ih =>
    obtain ⟨h1, h2, h3, h4⟩ := h x (by simp)
    have e : Chk.errW x.1 x.2.1 x.2.2 = 0 := by
      have e0 : Chk.err x.1.size = 0 := by unfold Chk.err; rw [if_neg (by omega), if_neg (by omega)]
      unfold Chk.errW
      rw [if_pos e0, h4, if_neg (by omega)]
    show (if Chk.errW x.1 x.2.1 x.2.2 = 0 then Chk.errL r else _) = 0
    rw [if_pos e]
    exact ih fun y hy => h y (by simp [hy])
theorem Bs.errB {gs : List (List Chk.Wr)} (hb : Bs gs) {i : Nat} (h : i < gs.length) : Chk.errB (gs.getD i []) = 0 := errB_of (hb.l16 _ (Bs.mem h)) (hb.ok _ (Bs.mem h))
/-- the entries of batch i, numbered from f on -/
def bt (f : Nat) (gs : List (List Chk.Wr)) (i : Nat) : List En := Ents.ents ((f + off gs i : Nat) : Int) (gs.getD i [])
def fwd (f : Nat) (gs : List (List Chk.Wr)) (k : Nat) : List En := ((List.range k).map (bt f gs)).flatten
def rvs (f : Nat) (gs : List (List Chk.Wr)) (k : Nat) : List En := ((List.range k).map fun i => bt f gs (gs.length - 1 - i)).flatten
theorem fwd_succ (f : Nat) (gs : List (List Chk.Wr)) (k : Nat) : fwd f gs (k + 1) = fwd f gs k ++ bt f gs k := by
  unfold fwd
  rw [List.range_succ, List.map_append, List.flatten_append]
  simp
theorem rvs_succ (f : Nat) (gs : List (List Chk.Wr)) (k : Nat) : rvs f gs (k + 1) = rvs f gs k ++ bt f gs (gs.length - 1 - k) := by
  unfold rvs
  rw [List.range_succ, List.map_append, List.flatten_append]
  simp
theorem rvs_perm (f : Nat) (gs : List (List Chk.Wr)) : (rvs f gs gs.length).Perm (fwd f gs gs.length) := by
  unfold rvs fwd
  refine List.Perm.flatten ?_
  have e : ((List.range gs.length).map fun i => bt f gs (gs.length - 1 - i)) = ((List.range gs.length).map (bt f gs)).reverse := by
    apply List.ext_getElem
    · simp
    · intro i h1 h2
      simp at h1
      rw [List.getElem_reverse]
      simp
  rw [e]
  exact List.reverse_perm _
theorem fwd_len (f : Nat) (gs : List (List Chk.Wr)) : ∀ k, k ≤ gs.length → (fwd f gs k).length = off gs k := by
  intro k
  induction k with
  | zero => intro _; simp [fwd, off]
  | succ k ih =>
    intro hk
    rw [fwd_succ, List.length_append, ih (by omega), off_succ (by omega)]
    unfold bt
    rw [Ents.ents_length]
theorem seqAt_small {f j : Nat} (h : f + j ≤ 1000000) : Ents.seqAt (f : Int) j = ((f + j : Nat) : Int) := by
  unfold Ents.seqAt
  rw [IntKind.wrap_u64]
  omega
theorem bt_seq {f : Nat} {gs : List (List Chk.Wr)} (hb : Bs gs) (hf : f ≤ 1000) {i : Nat} (hi : i < gs.length) : (bt f gs i).map (fun e => e.2.1) = (List.range (gs.getD i []).length).map fun j => ((f + off gs i + j : Nat) : Int) := by
  have ho := off_le hb.l16 i (by omega)
  have hl := hb.len
  have h16 := hb.l16 _ (Bs.mem hi)
  apply List.ext_getElem
  · simp [bt, Ents.ents_length]
  · intro j h1 h2
    simp [bt, Ents.ents_length] at h1
    have hj : j < (gs.getD i []).length := by simpa [bt, Ents.ents_length] using h1
    have hx := Ents.ents_get (first := ((f + off gs i : Nat) : Int)) (List.getElem?_eq_getElem hj)
    rw [List.getElem?_eq_getElem (by rw [Ents.ents_length]; exact hj)] at hx
    simp only [List.getElem_map, List.getElem_range]
    unfold bt
    rw [Option.some.inj hx]
    exact seqAt_small (by omega)
theorem fwd_seq {f : Nat} {gs : List (List Chk.Wr)} (hb : Bs gs) (hf : f ≤ 1000) : ∀ k, k ≤ gs.length → (fwd f gs k).map (fun e => e.2.1) = (List.range (off gs k)).map fun j => ((f + j : Nat) : Int) := by
  intro k
  induction k with
  | zero => intro _; simp [fwd, off]
  | succ k ih =>
    intro hk
    rw [fwd_succ, List.map_append, ih (by omega), off_succ (by omega), bt_seq hb hf (by omega), List.range_add, List.map_append, List.map_map]
    congr 1
    apply List.map_congr_left
    intro j _
    show ((f + off gs k + j : Nat) : Int) = ((f + (off gs k + j) : Nat) : Int)
    rw [Nat.add_assoc]
theorem fwd_apart {f : Nat} {gs : List (List Chk.Wr)} (hb : Bs gs) (hf : f ≤ 1000) {k : Nat} (hk : k ≤ gs.length) : (fwd f gs k).Pairwise (fun a b => cmpE a.1 b.1 a.2.1 b.2.1 ≠ 0) := by
  have h1 : ((fwd f gs k).map (fun e => e.2.1)).Pairwise (fun a b : Int => a ≠ b) := by
    rw [fwd_seq hb hf k hk, List.pairwise_map]
    exact List.nodup_range.imp fun h => by omega
  rw [List.pairwise_map] at h1
  exact h1.imp fun h h0 => h ((cmpE_zero_iff _ _ _ _).1 h0).2
theorem apart_sym (a b : En) (h : cmpE a.1 b.1 a.2.1 b.2.1 ≠ 0) : cmpE b.1 a.1 b.2.1 a.2.1 ≠ 0 := cmpE_ne_symm h
/-- what all is in, whichever way it came -/
theorem adds_all {f : Nat} {gs : List (List Chk.Wr)} (hb : Bs gs) (hf : f ≤ 1000) {ds : List Nat} {ns : List Nd} {es : List En} (h : Adds ds [] es ns) (hp : es.Perm (fwd f gs gs.length)) : (ns.map Nd.e).Perm (fwd f gs gs.length) := by
  have h1 := h.perm (by
    rw [List.map_nil, List.nil_append]
    exact (hp.pairwise_iff (fun h => apart_sym _ _ h)).2 (fwd_apart hb hf (Nat.le_refl _)))
  rw [List.map_nil, List.nil_append] at h1
  exact h1.trans hp
theorem same_all {f : Nat} {gs : List (List Chk.Wr)} {ns ms : List Nd} (h1 : (ns.map Nd.e).Perm (fwd f gs gs.length)) (h2 : (ms.map Nd.e).Perm (fwd f gs gs.length)) (s1 : ns.Pairwise (fun a b => ltE a.e b.e)) (s2 : ms.Pairwise (fun a b => ltE a.e b.e)) : ns.map Nd.e = ms.map Nd.e :=
  eq_sorted ltE_asym (h1.trans h2.symm) (List.pairwise_map.2 s1) (List.pairwise_map.2 s2)
/-- what writes weigh -/
def gw (x : Chk.Wr) : Nat := 2 * x.1.size + x.2.2.size + 448
def bw (g : List Chk.Wr) (k : Nat) : Nat := ((g.take k).map gw).sum
def tw (gs : List (List Chk.Wr)) (i : Nat) : Nat := ((gs.take i).map fun g => (g.map gw).sum).sum
theorem bw_succ {g : List Chk.Wr} {k : Nat} (h : k < g.length) : bw g (k + 1) = bw g k + gw g[k] := by
  unfold bw
  rw [List.take_succ_eq_append_getElem h, List.map_append, List.sum_append]
  simp
theorem tw_succ {gs : List (List Chk.Wr)} {i : Nat} (h : i < gs.length) : tw gs (i + 1) = tw gs i + bw (gs.getD i []) (gs.getD i []).length := by
  unfold tw bw
  rw [List.take_succ_eq_append_getElem h, List.map_append, List.sum_append]
  simp [h]
theorem wS_sum (ns : List Nd) : wS ns = ((ns.map Nd.e).map wN).sum := by unfold wS; rw [List.map_map]; rfl
theorem bt_w {f : Nat} {gs : List (List Chk.Wr)} (hb : Bs gs) {i : Nat} (hi : i < gs.length) : ((bt f gs i).map wN).sum = bw (gs.getD i []) (gs.getD i []).length := by
  unfold bw
  rw [List.take_of_length_le (Nat.le_refl _)]
  congr 1
  apply List.ext_getElem
  · simp [bt, Ents.ents_length]
  · intro j h1 h2
    have hj : j < (gs.getD i []).length := by simpa [bt, Ents.ents_length] using h1
    have hx := Ents.ents_get (first := ((f + off gs i : Nat) : Int)) (List.getElem?_eq_getElem hj)
    rw [List.getElem?_eq_getElem (by rw [Ents.ents_length]; exact hj)] at hx
    simp only [List.getElem_map]
    unfold bt
    rw [Option.some.inj hx]
    obtain ⟨_, _, _, h4⟩ := hb.ok _ (Bs.mem hi) _ (List.getElem_mem hj)
    unfold wN gw
    dsimp only
    rw [Wei.val_val, h4]
theorem fwd_w {f : Nat} {gs : List (List Chk.Wr)} (hb : Bs gs) : ∀ k, k ≤ gs.length → ((fwd f gs k).map wN).sum = tw gs k := by
  intro k
  induction k with
  | zero => intro _; simp [fwd, tw]
  | succ k ih =>
    intro hk
    rw [fwd_succ, List.map_append, List.sum_append, ih (by omega), bt_w hb (by omega), tw_succ (by omega)]
theorem lM_le {ns : List Nd} {X : Int} (h0 : 0 ≤ X) (h : ∀ n ∈ ns, n.e.2.1 ≤ X) : lM ns ≤ X := by
  induction ns with
  | nil => exact h0
  | cons n r ih =>
    have := h n (by simp)
    have := ih fun m hm => h m (by simp [hm])
    simp only [lM]; omega
theorem lM_ge {ns : List Nd} {n : Nd} (h : n ∈ ns) : n.e.2.1 ≤ lM ns := by
  induction ns with
  | nil => cases h
  | cons m r ih =>
    simp only [lM]
    rcases List.mem_cons.1 h with rfl | h
    · omega
    · have := ih h; omega
theorem last_all {gs : List (List Chk.Wr)} (hb : Bs gs) {ns : List Nd} (h : (ns.map Nd.e).Perm (fwd 1 gs gs.length)) : lM ns = (off gs gs.length : Int) := by
  have hs := fwd_seq hb (f := 1) (by omega) gs.length (Nat.le_refl _)
  have hm : ∀ x : Int, x ∈ (ns.map Nd.e).map (fun e => e.2.1) ↔ x ∈ (List.range (off gs gs.length)).map fun j => ((1 + j : Nat) : Int) := fun x => by
    rw [← hs]
    exact (h.map _).mem_iff
  apply Int.le_antisymm
  · refine lM_le (by omega) fun n hn => ?_
    obtain ⟨j, hj, e⟩ := List.mem_map.1 ((hm n.e.2.1).1 (List.mem_map.2 ⟨n.e, List.mem_map.2 ⟨n, hn, rfl⟩, rfl⟩))
    have := List.mem_range.1 hj
    omega
  · rcases Nat.eq_zero_or_pos (off gs gs.length) with h0 | h0
    · have := lM_pos ns; omega
    · obtain ⟨e, he, q⟩ := List.mem_map.1 ((hm (off gs gs.length : Int)).2 (List.mem_map.2 ⟨off gs gs.length - 1, List.mem_range.2 (by omega), by omega⟩))
      obtain ⟨n, hn, rfl⟩ := List.mem_map.1 he
      have := lM_ge hn
      omega
theorem weight_all {f : Nat} {gs : List (List Chk.Wr)} (hb : Bs gs) {ns : List Nd} (h : (ns.map Nd.e).Perm (fwd f gs gs.length)) : wS ns = tw gs gs.length := by
  rw [wS_sum, (h.map wN).sum_nat, fwd_w hb _ (Nat.le_refl _)]
theorem bw_le {gs : List (List Chk.Wr)} (hb : Bs gs) {i : Nat} (hi : i < gs.length) : ∀ k, k ≤ (gs.getD i []).length → bw (gs.getD i []) k ≤ 1088 * k := by
  intro k
  induction k with
  | zero => intro _; simp [bw]
  | succ k ih =>
    intro hk
    rw [bw_succ (by omega)]
    have := ih (by omega)
    obtain ⟨_, h2, h3, _⟩ := hb.ok _ (Bs.mem hi) (gs.getD i [])[k] (List.getElem_mem _)
    unfold gw
    omega
theorem tw_le {gs : List (List Chk.Wr)} (hb : Bs gs) : ∀ k, k ≤ gs.length → tw gs k ≤ 17408 * k := by
  intro k
  induction k with
  | zero => intro _; simp [tw]
  | succ k ih =>
    intro hk
    rw [tw_succ (by omega)]
    have := ih (by omega)
    have h1 := bw_le hb (i := k) (by omega) _ (Nat.le_refl _)
    have h2 := hb.l16 _ (Bs.mem (i := k) (by omega))
    omega
end Mem
end Go.Proofs.Ytkofopaejkabhaa
