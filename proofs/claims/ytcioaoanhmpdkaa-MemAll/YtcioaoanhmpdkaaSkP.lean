import Derived.Test.YtcioaoanhmpdkaaSk6
namespace Go.Proofs.Ytcioaoanhmpdkaa
namespace Sk
open Go.RowKit Laws Irw Erw KMath Skm Byt
set_option linter.unusedVariables false
set_option maxRecDepth 100000
set_option linter.unusedSimpArgs false

theorem nxt_stop {i : Nat} {x : List Nd} {n : Nd} (hn : i < n.h) (r r' : List Nd) : nxt i (x ++ n :: r) = nxt i (x ++ n :: r') := by
  induction x with
  | nil => simp [nxt, hn]
  | cons m x ih =>
    simp only [List.cons_append, nxt]
    rw [ih]
/-- what a station's next is, once the new node is there -/
theorem link_nxt (s i : Nat) (y post : List Nd) (new : Nd) (hne : ∀ n ∈ y, n.b ≠ s) : nxt i (y ++ new :: post) = if i < new.h ∧ lst s i y = s then some ⟨new.b, 0, none⟩ else nxt i (y ++ post) := by
  obtain ⟨Y, hY, h⟩ := lst_at s i y
  rcases h with ⟨h1, rfl⟩ | ⟨x, n, rfl, h1, h2⟩
  · rw [nxt_append hY, nxt_append hY]
    by_cases hi : i < new.h
    · rw [if_pos ⟨hi, h1⟩, nxt, if_pos hi]
    · rw [if_neg (fun h => hi h.1), nxt, if_neg hi]
  · rw [if_neg (fun h => hne n (by simp) (h1.symm.trans h.2))]
    have e1 : (x ++ n :: Y) ++ new :: post = x ++ n :: (Y ++ new :: post) := by simp
    have e2 : (x ++ n :: Y) ++ post = x ++ n :: (Y ++ post) := by simp
    rw [e1, e2]
    exact nxt_stop h2 _ _
theorem lst_from {L i : Nat} {z y : List Nd} {n : Nd} (hn : i < n.h) : lst L i (z ++ n :: y) = lst n.b i y := by
  rw [lst_append]
  show lst (if i < n.h then n.b else _) i y = _
  rw [if_pos hn]
theorem lst_mem (L i : Nat) (p : List Nd) : lst L i p = L ∨ ∃ n ∈ p, lst L i p = n.b ∧ i < n.h := by
  obtain ⟨Y, hY, h⟩ := lst_at L i p
  rcases h with ⟨h1, _⟩ | ⟨x, n, rfl, h1, h2⟩
  · exact .inl h1
  · exact .inr ⟨n, by simp, h1, h2⟩

/-- k lists linked -/
def lnk (L M : Nat) (pre post : List Nd) (W : World) : Nat → World
  | 0 => W
  | k + 1 => ((lnk L M pre post W k).setCell ⟨M, 5 + k, none⟩ (.pointer (nxt k post))).setCell ⟨lst L k pre, 5 + k, none⟩ (.pointer (some ⟨M, 0, none⟩))

section
variable {L M : Nat} {pre post : List Nd} {W : World}
theorem lnk_size (k : Nat) : (lnk L M pre post W k).heap.size = W.heap.size := by
  induction k with
  | zero => rfl
  | succ k ih => simp only [lnk, World.size_setCell]; exact ih
theorem lnk_same (k : Nat) : (lnk L M pre post W k).os = W.os ∧ (lnk L M pre post W k).tape = W.tape ∧ (lnk L M pre post W k).output = W.output := by
  induction k with
  | zero => exact ⟨rfl, rfl, rfl⟩
  | succ k ih => exact ih
theorem lnk_frozen (k : Nat) (a : Addr) : (lnk L M pre post W k).frozen? a = W.frozen? a := by
  induction k with
  | zero => rfl
  | succ k ih => simp only [lnk, World.frozen?_setCell]; exact ih
theorem lnk_block (k b : Nat) (h1 : b ≠ M) (h2 : ∀ i, i < k → b ≠ lst L i pre) : (lnk L M pre post W k).heap[b]? = W.heap[b]? := by
  induction k with
  | zero => rfl
  | succ k ih =>
    show (((lnk L M pre post W k).setCell _ _).setCell _ _).heap[b]? = _
    rw [Below.heap_setCell _ _ _ _ (h2 k (by omega)), Below.heap_setCell _ _ _ _ h1]
    exact ih fun i hi => h2 i (by omega)
theorem lnk_off (k b j : Nat) (hj : ∀ i, i < k → j ≠ 5 + i) : (lnk L M pre post W k).cell? ⟨b, j, none⟩ = W.cell? ⟨b, j, none⟩ := by
  induction k with
  | zero => rfl
  | succ k ih =>
    show (((lnk L M pre post W k).setCell ⟨M, 5 + k, none⟩ _).setCell ⟨lst L k pre, 5 + k, none⟩ _).cell? ⟨b, j, none⟩ = _
    have hk := hj k (by omega)
    rw [World.cell?_setCell_other _ ⟨lst L k pre, 5 + k, none⟩ ⟨b, j, none⟩ _ (fun e => hk (congrArg Addr.off e).symm), World.cell?_setCell_other _ ⟨M, 5 + k, none⟩ ⟨b, j, none⟩ _ (fun e => hk (congrArg Addr.off e).symm)]
    exact ih fun i hi => hj i (by omega)
theorem lnk_M (hM : ∀ i, i < 12 → lst L i pre ≠ M) (hc : ∀ i, i < 12 → ∃ u, W.cell? ⟨M, 5 + i, none⟩ = some u) (k : Nat) (hk : k ≤ 12) (i : Nat) (hi : i < k) : (lnk L M pre post W k).cell? ⟨M, 5 + i, none⟩ = some (.pointer (nxt i post)) := by
  induction k with
  | zero => omega
  | succ k ih =>
    show (((lnk L M pre post W k).setCell ⟨M, 5 + k, none⟩ _).setCell ⟨lst L k pre, 5 + k, none⟩ _).cell? ⟨M, 5 + i, none⟩ = _
    rw [World.cell?_setCell_other _ ⟨lst L k pre, 5 + k, none⟩ ⟨M, 5 + i, none⟩ _ (fun e => hM k (by omega) (congrArg Addr.block e))]
    by_cases hik : i = k
    · subst hik
      obtain ⟨u, hu⟩ := hc i (by omega)
      exact World.cell?_setCell_same _ _ _ ((lnk_off i M (5 + i) (fun q hq => by omega)).trans hu)
    · rw [World.cell?_setCell_other _ ⟨M, 5 + k, none⟩ ⟨M, 5 + i, none⟩ _ (fun e => hik (by have h9 : 5 + k = 5 + i := congrArg Addr.off e; omega))]
      exact ih (by omega) (by omega)
theorem lnk_S (hc : ∀ i, i < 12 → ∃ u, W.cell? ⟨lst L i pre, 5 + i, none⟩ = some u) (b : Nat) (hb : b ≠ M) (k : Nat) (hk : k ≤ 12) (i : Nat) : (lnk L M pre post W k).cell? ⟨b, 5 + i, none⟩ = if i < k ∧ lst L i pre = b then some (.pointer (some ⟨M, 0, none⟩)) else W.cell? ⟨b, 5 + i, none⟩ := by
  induction k with
  | zero => rw [if_neg (by omega)]; rfl
  | succ k ih =>
    have ih := ih (by omega)
    show (((lnk L M pre post W k).setCell ⟨M, 5 + k, none⟩ _).setCell ⟨lst L k pre, 5 + k, none⟩ _).cell? ⟨b, 5 + i, none⟩ = _
    by_cases hik : i = k ∧ lst L i pre = b
    · obtain ⟨rfl, rfl⟩ := hik
      rw [if_pos ⟨by omega, rfl⟩]
      obtain ⟨u, hu⟩ := hc i (by omega)
      have h1 : ((lnk L M pre post W i).setCell ⟨M, 5 + i, none⟩ (.pointer (nxt i post))).cell? ⟨lst L i pre, 5 + i, none⟩ = some u := by
        rw [World.cell?_setCell_other _ ⟨M, 5 + i, none⟩ ⟨lst L i pre, 5 + i, none⟩ _ (fun e => hb (congrArg Addr.block e).symm)]
        exact (lnk_off i _ (5 + i) (fun q hq => by omega)).trans hu
      exact World.cell?_setCell_same _ _ _ h1
    · rw [World.cell?_setCell_other _ ⟨lst L k pre, 5 + k, none⟩ ⟨b, 5 + i, none⟩ _ (fun e => hik (by have h9 : 5 + k = 5 + i := congrArg Addr.off e; have h8 : lst L k pre = b := congrArg Addr.block e; have h7 : i = k := (by omega); exact ⟨h7, by rw [h7]; exact h8⟩)), World.cell?_setCell_other _ ⟨M, 5 + k, none⟩ ⟨b, 5 + i, none⟩ _ (fun e => hb (congrArg Addr.block e).symm), ih]
      by_cases h1 : i < k ∧ lst L i pre = b
      · rw [if_pos h1, if_pos ⟨by omega, h1.2⟩]
      · rw [if_neg h1, if_neg (fun h => h1 ⟨by
          rcases Nat.lt_succ_iff_lt_or_eq.1 h.1 with h2 | h2
          · exact h2
          · exact absurd ⟨h2, h.2⟩ hik, h.2⟩)]
end
end Sk
end Go.Proofs.Ytcioaoanhmpdkaa
namespace Go.Proofs.Ytcioaoanhmpdkaa
namespace Sk
open Go.RowKit Laws Irw Erw KMath Skm Byt
set_option linter.unusedVariables false
set_option maxRecDepth 100000
set_option linter.unusedSimpArgs false

theorem aheadB_trans {k : ByteArray} {s : Int} {a b : Nd} (h : ltE a.e b.e) (hb : aheadB k s b = true) : aheadB k s a = true := by
  have h1 : cmpE b.e.1 k b.e.2.1 s < 0 := by simpa [aheadB] using hb
  have h2 := (cmpE_trans a.e.1 b.e.1 k a.e.2.1 b.e.2.1 s).2.2.2 h (by omega)
  simpa [aheadB] using h2
/-- what is ahead of a place, and what isn't -/
theorem split_at (k : ByteArray) (s : Int) : ∀ (ns : List Nd), ns.Pairwise (fun a b => ltE a.e b.e) → ∃ pre post, ns = pre ++ post ∧ (∀ n ∈ pre, aheadB k s n = true) ∧ (∀ n ∈ post, aheadB k s n = false)
  | [], _ => ⟨[], [], rfl, by simp, by simp⟩
  | n :: r, h => by
    obtain ⟨h1, h2⟩ := List.pairwise_cons.1 h
    obtain ⟨pre, post, rfl, h3, h4⟩ := split_at k s r h2
    cases hn : aheadB k s n with
    | true =>
      refine ⟨n :: pre, post, rfl, fun m hm => ?_, h4⟩
      rcases List.mem_cons.1 hm with rfl | hm
      · exact hn
      · exact h3 m hm
    | false =>
      refine ⟨[], n :: (pre ++ post), rfl, by simp, fun m hm => ?_⟩
      rcases List.mem_cons.1 hm with rfl | hm
      · exact hn
      · cases hm' : aheadB k s m with
        | false => rfl
        | true =>
          have := aheadB_trans (h1 m hm) hm'
          rw [hn] at this
          cases this
theorem post_gt {e : En} {nd : Nd} {r : List Nd} (h : (nd :: r).Pairwise (fun a b => ltE a.e b.e)) (h0 : aheadB e.1 e.2.1 nd = false) (hne : cmpE nd.e.1 e.1 nd.e.2.1 e.2.1 ≠ 0) : ∀ n ∈ nd :: r, ltE e n.e := by
  have h1 : 0 ≤ cmpE nd.e.1 e.1 nd.e.2.1 e.2.1 := by simpa [aheadB] using h0
  have h2 : ltE e nd.e := by
    unfold ltE
    have := cmpE_neg e.1 nd.e.1 e.2.1 nd.e.2.1
    omega
  intro n hn
  rcases List.mem_cons.1 hn with rfl | hn
  · exact h2
  · have h3 := (List.pairwise_cons.1 h).1 n hn
    unfold ltE at *
    exact (cmpE_trans e.1 nd.e.1 n.e.1 e.2.1 nd.e.2.1 n.e.2.1).2.2.2 h2 (by omega)

theorem sl_put {t : Nat} {T : Nat → Nat} {w W : World} {L M H : Nat} {ds : List Nat} {ns pre post : List Nd} {e : En} (h : Sl t T w L ds ns) (hns : ns = pre ++ post) (hpre : ∀ n ∈ pre, aheadB e.1 e.2.1 n = true) (hpost : ∀ n ∈ post, ltE e n.e) (hH : 1 ≤ H ∧ H ≤ 12)
    (hb : Below w.heap.size w W) (hM : w.heap.size ≤ M) (ho : W.heap[M]? = some (.cells #[.string e.1, .int .u64 e.2.1, .bool e.2.2.1, .string e.2.2.2, .int .i64 (H : Int), .pointer none, .pointer none, .pointer none, .pointer none, .pointer none, .pointer none, .pointer none, .pointer none, .pointer none, .pointer none, .pointer none, .pointer none] 122)) (ht : 0 < t) :
    Sl t (upd T M t) ((lnk L M pre post W H).setCell ⟨L, 18, none⟩ (.int .i64 ((ns.length : Int) + 1))) L ds (pre ++ ⟨M, e, H⟩ :: post) ∧ Goes (· = t) T w (upd T M t) ((lnk L M pre post W H).setCell ⟨L, 18, none⟩ (.int .i64 ((ns.length : Int) + 1))) := by
  have hL := h.lt
  have hMs : M < W.heap.size := (Array.getElem?_eq_some_iff.1 ho).1
  have hnlt : ∀ n ∈ ns, n.b < w.heap.size := fun n hn => h.chain.lt hn
  have hin : ∀ n ∈ pre, n ∈ ns := fun n hn => by rw [hns]; simp [hn]
  have hip : ∀ n ∈ post, n ∈ ns := fun n hn => by rw [hns]; simp [hn]
  have hWL := hb.block L hL
  have hWn : ∀ n ∈ ns, W.heap[n.b]? = w.heap[n.b]? := fun n hn => hb.block _ (hnlt n hn)
  have htow : Tow W L 12 ns := h.tow.keep hWL
  have hch : Chain W ns := h.chain.keep hWn
  have hlst : ∀ i, lst L i pre = L ∨ ∃ n ∈ pre, lst L i pre = n.b ∧ i < n.h := fun i => lst_mem L i pre
  have hlw : ∀ i, lst L i pre < w.heap.size := fun i => by
    rcases hlst i with h1 | ⟨n, h1, h2, _⟩
    · rw [h1]; exact hL
    · rw [h2]; exact hnlt n (hin n h1)
  have hcS : ∀ i, i < 12 → ∃ u, W.cell? ⟨lst L i pre, 5 + i, none⟩ = some u := fun i hi => by
    rcases hlst i with h1 | ⟨n, h1, h2, h3⟩
    · rw [h1]; exact ⟨_, htow i hi hi⟩
    · obtain ⟨r, hr⟩ := hch.node (hin n h1)
      rw [h2]; exact ⟨_, hr.tow i hi h3⟩
  have hcM : ∀ i, i < 12 → ∃ u, W.cell? ⟨M, 5 + i, none⟩ = some u := fun i hi => by
    rw [cell_of_obj ho]
    match i, hi with
    | 0, _ => exact ⟨_, rfl⟩
    | 1, _ => exact ⟨_, rfl⟩
    | 2, _ => exact ⟨_, rfl⟩
    | 3, _ => exact ⟨_, rfl⟩
    | 4, _ => exact ⟨_, rfl⟩
    | 5, _ => exact ⟨_, rfl⟩
    | 6, _ => exact ⟨_, rfl⟩
    | 7, _ => exact ⟨_, rfl⟩
    | 8, _ => exact ⟨_, rfl⟩
    | 9, _ => exact ⟨_, rfl⟩
    | 10, _ => exact ⟨_, rfl⟩
    | 11, _ => exact ⟨_, rfl⟩
    | i + 12, hi => omega
  have hlM : ∀ i, i < 12 → lst L i pre ≠ M := fun i _ => by have := hlw i; omega
  have nodL : ∀ n ∈ ns, n.b ≠ L := fun n hn e => (List.nodup_cons.1 h.nod).1 (List.mem_map.2 ⟨n, hn, e⟩)
  have hnd : (ns.map Nd.b).Nodup := (List.nodup_cons.1 h.nod).2
  -- the last setCell touches a place that no list knows
  have c18 : ∀ b j, (b ≠ L ∨ j ≠ 18) → ((lnk L M pre post W H).setCell ⟨L, 18, none⟩ (.int .i64 ((ns.length : Int) + 1))).cell? ⟨b, j, none⟩ = (lnk L M pre post W H).cell? ⟨b, j, none⟩ := fun b j hbj =>
    World.cell?_setCell_other _ ⟨L, 18, none⟩ ⟨b, j, none⟩ _ (fun e => by
      rcases hbj with h1 | h1
      · exact h1 (congrArg Addr.block e).symm
      · exact h1 (congrArg Addr.off e).symm)
  have blk : ∀ b, b ≠ M → b ≠ L → (∀ n ∈ pre, b ≠ n.b) → ((lnk L M pre post W H).setCell ⟨L, 18, none⟩ (.int .i64 ((ns.length : Int) + 1))).heap[b]? = W.heap[b]? := fun b h1 h2 h3 => by
    rw [Below.heap_setCell _ _ _ b h2]
    refine lnk_block H b h1 fun i _ => ?_
    rcases hlst i with h4 | ⟨n, h4, h5, _⟩
    · rw [h4]; exact h2
    · rw [h5]; exact h3 n h4
  have froz : ∀ a, ((lnk L M pre post W H).setCell ⟨L, 18, none⟩ (.int .i64 ((ns.length : Int) + 1))).frozen? a = W.frozen? a := fun a => by
    rw [World.frozen?_setCell]; exact lnk_frozen H a
  have tail : ∀ (s : Nat) (y : List Nd) (hs : s ≠ M) (hy : ∀ n ∈ y, n.b ≠ s) (i : Nat) (hi : i < 12) (hl : lst L i pre = lst s i y), W.cell? ⟨s, 5 + i, none⟩ = some (.pointer (nxt i (y ++ post))) → ((lnk L M pre post W H).setCell ⟨L, 18, none⟩ (.int .i64 ((ns.length : Int) + 1))).cell? ⟨s, 5 + i, none⟩ = some (.pointer (nxt i (y ++ ⟨M, e, H⟩ :: post))) := fun s y hs hy i hi hl hc => by
    rw [c18 s _ (.inr (by omega)), lnk_S hcS s hs H hH.2 i, link_nxt s i y post ⟨M, e, H⟩ hy, hl]
    by_cases hcd : i < H ∧ lst s i y = s
    · rw [if_pos hcd, if_pos hcd]
    · rw [if_neg hcd, if_neg hcd]; exact hc
  have off5 : ∀ b j, (j < 5 ∨ j = 17) → ((lnk L M pre post W H).setCell ⟨L, 18, none⟩ (.int .i64 ((ns.length : Int) + 1))).cell? ⟨b, j, none⟩ = W.cell? ⟨b, j, none⟩ := fun b j hj => by
    rw [c18 b j (.inr (by omega))]
    exact lnk_off H b j (fun i hi => by omega)
  have cM : ∀ i, i < H → ((lnk L M pre post W H).setCell ⟨L, 18, none⟩ (.int .i64 ((ns.length : Int) + 1))).cell? ⟨M, 5 + i, none⟩ = some (.pointer (nxt i post)) := fun i hi => by
    rw [c18 M _ (.inl (by omega))]
    exact lnk_M hlM hcM H hH.2 i hi
  have hsz : ((lnk L M pre post W H).setCell ⟨L, 18, none⟩ (.int .i64 ((ns.length : Int) + 1))).heap.size = W.heap.size := by rw [World.size_setCell, lnk_size]
  have c19 : ((lnk L M pre post W H).setCell ⟨L, 18, none⟩ (.int .i64 ((ns.length : Int) + 1))).cell? ⟨L, 18, none⟩ = some (.int .i64 ((ns.length : Int) + 1)) := by
    have h9 : (lnk L M pre post W H).cell? ⟨L, 18, none⟩ = some (.int .i64 (ns.length : Int)) := by
      rw [lnk_off H L 18 (fun i hi => by omega), World.cell?_of_block (a := ⟨L, 18, none⟩) hWL]
      exact h.cnt
    exact World.cell?_setCell_same _ _ _ h9
  have sam := lnk_same (L := L) (M := M) (pre := pre) (post := post) (W := W) H
  have hos : ((lnk L M pre post W H).setCell ⟨L, 18, none⟩ (.int .i64 ((ns.length : Int) + 1))).os = W.os ∧ ((lnk L M pre post W H).setCell ⟨L, 18, none⟩ (.int .i64 ((ns.length : Int) + 1))).tape = W.tape ∧ ((lnk L M pre post W H).setCell ⟨L, 18, none⟩ (.int .i64 ((ns.length : Int) + 1))).output = W.output := sam
  generalize (lnk L M pre post W H).setCell ⟨L, 18, none⟩ (.int .i64 ((ns.length : Int) + 1)) = F at *
  clear sam c18 hcS hcM hlM hlst
  have hne : ∀ n ∈ ns, n.b ≠ M := fun n hn => by have := hnlt n hn; omega
  have hsb := hb.size
  refine ⟨⟨(upd_other _ _ (by omega)).trans h.tag, by omega, fun i hi _ => ?_, fun z n r ez => ?_, ?_, ?_, fun n hn => ?_, ?_, fun n hn => ?_, ?_, fun j => ?_, fun n hn j => ?_⟩, ⟨hos.1.trans hb.os, hos.2.1.trans hb.tape, hos.2.2.trans hb.output, by omega, fun b hb1 hb2 => ?_, fun b hb1 hb2 => upd_other _ _ (by omega), fun b hb1 h0 => by rw [upd_other _ _ (by omega)]; exact h0⟩⟩
  · have h1 := htow i hi hi
    rw [hns] at h1
    exact tail L pre (by omega) (fun n hn => nodL n (hin n hn)) i hi rfl h1
  · -- the chain
    have inpre : ∀ y, pre = z ++ n :: y → NodeAt F n (y ++ ⟨M, e, H⟩ :: post) := fun y hy => by
      have hx : ns = z ++ n :: (y ++ post) := by rw [hns, hy]; simp
      have hold := hch z n (y ++ post) hx
      have hm : n ∈ ns := by rw [hx]; simp
      refine ⟨⟨(off5 _ _ (.inl (by omega))).trans hold.ent.1, (off5 _ _ (.inl (by omega))).trans hold.ent.2.1, (off5 _ _ (.inl (by omega))).trans hold.ent.2.2.1, (off5 _ _ (.inl (by omega))).trans hold.ent.2.2.2⟩, (off5 _ _ (.inl (by omega))).trans hold.hgt, fun i hi h2 => ?_⟩
      refine tail n.b y (hne n hm) (fun m hm2 e9 => ?_) i hi (by rw [hy]; exact lst_from h2) (hold.tow i hi h2)
      rw [hx, List.map_append, List.map_cons] at hnd
      have h3 := (List.nodup_cons.1 (List.nodup_append.1 hnd).2.1).1
      exact h3 (List.mem_map.2 ⟨m, by simp [hm2], e9⟩)
    have isnew : NodeAt F ⟨M, e, H⟩ post := by
      refine ⟨⟨?_, ?_, ?_, ?_⟩, ?_, fun i hi h2 => cM i h2⟩
      all_goals (rw [off5 _ _ (.inl (by omega)), cell_of_obj ho]; rfl)
    have inpost : ∀ y, post = y ++ n :: r → NodeAt F n r := fun y hy => by
      have hx : ns = (pre ++ y) ++ n :: r := by rw [hns, hy]; simp
      have hm : n ∈ ns := by rw [hx]; simp
      refine (hch _ n r hx).keep (blk n.b (hne n hm) (nodL n hm) fun m hm2 e9 => ?_)
      rw [hx, List.map_append] at hnd
      have h3 := (List.nodup_append.1 hnd).2.2 m.b (List.mem_map.2 ⟨m, by simp [hm2], rfl⟩) n.b (by simp)
      exact h3 e9.symm
    rcases List.append_eq_append_iff.1 ez with ⟨a', h1, h2⟩ | ⟨c', h1, h2⟩
    · cases a' with
      | nil =>
        simp at h2
        obtain ⟨rfl, rfl⟩ := h2
        exact isnew
      | cons q a' =>
        simp at h2
        exact inpost a' h2.2
    · cases c' with
      | nil =>
        simp at h2
        obtain ⟨rfl, rfl⟩ := h2
        exact isnew
      | cons q c' =>
        simp at h2
        obtain ⟨rfl, rfl⟩ := h2
        exact inpre c' h1
  · obtain ⟨a, c, d1, d2, d3⟩ := h.dra
    have hd : ∀ ad, a = some ad → F.heap[ad.block]? = w.heap[ad.block]? := fun ad ea => by
      obtain ⟨e1, e2⟩ := d3 ad ea
      have hq : ∀ b, T b = t → ad.block ≠ b := fun b hb3 e3 => by rw [e3, hb3] at e1; omega
      exact (blk _ (by omega) (hq L h.tag) (fun n hn => hq n.b (h.tags n (hin n hn)))).trans (hb.block _ e2)
    exact ⟨a, c, (off5 L 17 (.inr rfl)).trans ((World.cell?_of_block (a := ⟨L, 17, none⟩) hWL).trans d1), IsB.keep' d2 hd (by omega), fun ad ea => ⟨by rw [upd_other _ _ (by have := (d3 ad ea).2; omega)]; exact (d3 ad ea).1, by have := (d3 ad ea).2; omega⟩⟩
  · rw [c19, hns]
    simp only [List.length_append, List.length_cons]
    congr 2
  · rcases List.mem_append.1 hn with h1 | h1
    · rw [upd_other _ _ (hne n (hin n h1))]; exact h.tags n (hin n h1)
    · rcases List.mem_cons.1 h1 with rfl | h1
      · exact upd_same _ _ _
      · rw [upd_other _ _ (hne n (hip n h1))]; exact h.tags n (hip n h1)
  · have hp : (L :: (pre ++ (⟨M, e, H⟩ : Nd) :: post).map Nd.b).Perm (M :: L :: ns.map Nd.b) := by
      rw [hns]
      simp only [List.map_append, List.map_cons]
      exact (List.Perm.cons _ List.perm_middle).trans (List.Perm.swap _ _ _)
    rw [hp.nodup_iff, List.nodup_cons]
    refine ⟨fun hm => ?_, h.nod⟩
    rcases List.mem_cons.1 hm with h1 | h1
    · omega
    · obtain ⟨n, h2, h3⟩ := List.mem_map.1 h1
      exact hne n h2 h3
  · rcases List.mem_append.1 hn with h1 | h1
    · exact h.hts n (hin n h1)
    · rcases List.mem_cons.1 h1 with rfl | h1
      · exact hH
      · exact h.hts n (hip n h1)
  · have hs := h.sorted
    rw [hns, List.pairwise_append] at hs
    obtain ⟨s1, s2, s3⟩ := hs
    rw [List.pairwise_append, List.pairwise_cons]
    refine ⟨s1, ⟨fun n hn => hpost n hn, s2⟩, fun a ha b hb2 => ?_⟩
    rcases List.mem_cons.1 hb2 with rfl | hb2
    · have := hpre a ha
      simpa [aheadB, ltE] using this
    · exact s3 a ha b hb2
  · rw [froz, World.frozen?_of_block (a := ⟨L, j, none⟩) hWL]; exact h.frL j
  · rw [froz]
    rcases List.mem_append.1 hn with h1 | h1
    · rw [World.frozen?_of_block (a := ⟨n.b, j, none⟩) (hWn n (hin n h1))]; exact h.frN n (hin n h1) j
    · rcases List.mem_cons.1 h1 with rfl | h1
      · exact froz_of_obj ho
      · rw [World.frozen?_of_block (a := ⟨n.b, j, none⟩) (hWn n (hip n h1))]; exact h.frN n (hip n h1) j
  · exact (blk b (by omega) (fun e1 => hb2 (by rw [e1]; exact h.tag)) (fun n hn e1 => hb2 (by rw [e1]; exact h.tags n (hin n hn)))).trans (hb.block b hb1)
end Sk
end Go.Proofs.Ytcioaoanhmpdkaa
