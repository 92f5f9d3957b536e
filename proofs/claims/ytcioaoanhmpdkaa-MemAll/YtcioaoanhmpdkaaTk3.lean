import Derived.Test.YtcioaoanhmpdkaaSkS
import Derived.Test.YtcioaoanhmpdkaaEAg
namespace Go.Proofs.Ytcioaoanhmpdkaa
namespace Sk
open Go.RowKit Go.Shelf Laws Irw Erw KMath Skm Byt
set_option linter.unusedVariables false
set_option maxRecDepth 100000
set_option linter.unusedSimpArgs false

def uT (x : Nat) : Prop := x = 7 ∨ x = 8
/-- taken's boxes, from block N on: n, out, well, ended. -/
structure Tk (T : Nat → Nat) (w : World) (N : Nat) (nn : Int) (ended : Bool) (l : List En) : Prop where
  tags : ∀ b, N ≤ b → b < N + 4 → T b = 8 ∧ b < w.heap.size
  num : w.cell? ⟨N, 0, none⟩ = some (.int .i64 nn)
  out : ∃ v, w.cell? ⟨N + 1, 0, none⟩ = some v ∧ OwnE 7 T w v l
  well : w.cell? ⟨N + 2, 0, none⟩ = some (.bool true)
  end_ : w.cell? ⟨N + 3, 0, none⟩ = some (.bool ended)
  fro : ∀ b, N ≤ b → b < N + 4 → w.frozen? ⟨b, 0, none⟩ = false
theorem OwnE.same {s : Nat} {T : Nat → Nat} {w w' : World} {v : Value} {l : List En} (h : OwnE s T w v l) (hb : ∀ g, v.ownBlock = some g → w'.heap[g]? = w.heap[g]?) : OwnE s T w' v l := by
  refine ⟨⟨h.1.1, ?_⟩, h.2⟩
  rcases h.1.2 with h1 | ⟨g, cap, cur, hv, hb', hh, hr⟩
  · exact .inl h1
  · have hv' : v.ownBlock = some g := by rw [hv]; rfl
    exact .inr ⟨g, cap, cur, hv, hb', (hb g hv').trans hh, hr⟩
theorem OwnE.cells {s : Nat} {T : Nat → Nat} {w : World} {v : Value} {l : List En} (h : OwnE s T w v l) {g : Nat} (hg : v.ownBlock = some g) : ∃ cur t, w.heap[g]? = some (.cells cur t) := by
  rcases h.1.2 with ⟨h1, _⟩ | ⟨g', cap, cur, hv, hb', hh, hr⟩
  · rw [h1] at hg; simp [Value.ownBlock] at hg
  · rw [hv] at hg
    simp only [Value.ownBlock, Option.some.injEq] at hg
    subst hg
    exact ⟨cur, _, hh⟩
theorem Tk.below {T : Nat → Nat} {w w' : World} {N : Nat} {nn : Int} {ended : Bool} {l : List En} (h : Tk T w N nn ended l) (hb : Below w.heap.size w w') : Tk T w' N nn ended l := by
  have hl : ∀ b, N ≤ b → b < N + 4 → w'.heap[b]? = w.heap[b]? := fun b h1 h2 => hb.block b (h.tags b h1 h2).2
  obtain ⟨v, h1, h2⟩ := h.out
  exact ⟨fun b h1 h2 => ⟨(h.tags b h1 h2).1, Nat.lt_of_lt_of_le (h.tags b h1 h2).2 hb.size⟩, (World.cell?_of_block (a := ⟨N, 0, none⟩) (hl (N) (by omega) (by omega))).trans h.num, ⟨v, (World.cell?_of_block (a := ⟨N + 1, 0, none⟩) (hl (N + 1) (by omega) (by omega))).trans h1, h2.below hb⟩, (World.cell?_of_block (a := ⟨N + 2, 0, none⟩) (hl (N + 2) (by omega) (by omega))).trans h.well, (World.cell?_of_block (a := ⟨N + 3, 0, none⟩) (hl (N + 3) (by omega) (by omega))).trans h.end_, fun b h1 h2 => (World.frozen?_of_block (a := ⟨b, 0, none⟩) (hl b h1 h2)).trans (h.fro b h1 h2)⟩
/-- what is no cells may turn -/
theorem Tk.own {T : Nat → Nat} {w w' : World} {N : Nat} {nn : Int} {ended : Bool} {l : List En} (h : Tk T w N nn ended l) {row : Option Nat} (hg : w.grownBy w' row) (hr : ∀ r, row = some r → N + 4 ≤ r ∧ ∃ o : Obj, w.heap[r]? = some o ∧ o.isCells = false) : Tk T w' N nn ended l := by
  have hl : ∀ b, N ≤ b → b < N + 4 → w'.heap[b]? = w.heap[b]? := fun b h1 h2 => hg.block b (h.tags b h1 h2).2 (fun e => by have := (hr b e.symm).1; omega)
  obtain ⟨v, h1, h2⟩ := h.out
  refine ⟨fun b h1 h2 => ⟨(h.tags b h1 h2).1, Nat.lt_of_lt_of_le (h.tags b h1 h2).2 hg.size⟩, (World.cell?_of_block (a := ⟨N, 0, none⟩) (hl (N) (by omega) (by omega))).trans h.num, ⟨v, (World.cell?_of_block (a := ⟨N + 1, 0, none⟩) (hl (N + 1) (by omega) (by omega))).trans h1, OwnE.same h2 fun g hv => ?_⟩, (World.cell?_of_block (a := ⟨N + 2, 0, none⟩) (hl (N + 2) (by omega) (by omega))).trans h.well, (World.cell?_of_block (a := ⟨N + 3, 0, none⟩) (hl (N + 3) (by omega) (by omega))).trans h.end_, fun b h1 h2 => (World.frozen?_of_block (a := ⟨b, 0, none⟩) (hl b h1 h2)).trans (h.fro b h1 h2)⟩
  obtain ⟨cur, t, hc⟩ := OwnE.cells h2 hv
  refine hg.block g (Array.getElem?_eq_some_iff.1 hc).1 (fun e => ?_)
  obtain ⟨_, o, ho, hn⟩ := hr g e.symm
  rw [hc] at ho
  cases ho
  simp [Obj.isCells] at hn
/-- behind the append -/
theorem takenc_mid {T T7 : Nat → Nat} {W1 w7 : World} {N : Nat} {nn : Int} {l : List En} {v : Value} {e : En} (h : Tk T W1 N nn false l) (hg : Goes (· = 7) T W1 T7 w7) (ho : OwnE 7 T7 w7 v (l ++ [e])) :
    w7.cell? ⟨N, 0, none⟩ = some (.int .i64 nn) ∧ (∃ u, w7.cell? ⟨N + 1, 0, none⟩ = some u) ∧ w7.cell? ⟨N + 3, 0, none⟩ = some (.bool false) ∧ w7.frozen? ⟨N + 1, 0, none⟩ = false ∧ w7.frozen? ⟨N + 3, 0, none⟩ = false ∧ (∀ b, Hid (Tk T7 ((w7.setCell ⟨N + 1, 0, none⟩ v).setCell ⟨N + 3, 0, none⟩ (.bool b)) N nn b (l ++ [e]))) ∧ ∀ b, Hid (Goes uT T W1 T7 ((w7.setCell ⟨N + 1, 0, none⟩ v).setCell ⟨N + 3, 0, none⟩ (.bool b))) := by
  have ht : ∀ b, N ≤ b → b < N + 4 → w7.heap[b]? = W1.heap[b]? ∧ T7 b = 8 := fun b h1 h2 => by
    obtain ⟨h3, h4⟩ := h.tags b h1 h2
    exact ⟨hg.block b h4 (by omega), (hg.tag b h4 (by omega)).trans h3⟩
  have cl : ∀ b, N ≤ b → b < N + 4 → w7.cell? ⟨b, 0, none⟩ = W1.cell? ⟨b, 0, none⟩ := fun b h1 h2 => World.cell?_of_block (a := ⟨b, 0, none⟩) (ht b h1 h2).1
  have fr : ∀ b, N ≤ b → b < N + 4 → w7.frozen? ⟨b, 0, none⟩ = false := fun b h1 h2 => (World.frozen?_of_block (a := ⟨b, 0, none⟩) (ht b h1 h2).1).trans (h.fro b h1 h2)
  obtain ⟨v0, hv0, _⟩ := h.out
  have c1 : w7.cell? ⟨N + 1, 0, none⟩ = some v0 := (cl (N + 1) (by omega) (by omega)).trans hv0
  have c3 : w7.cell? ⟨N + 3, 0, none⟩ = some (.bool false) := (cl (N + 3) (by omega) (by omega)).trans h.end_
  have ne : ∀ (b c : Nat), b ≠ c → (⟨b, 0, none⟩ : Addr) ≠ ⟨c, 0, none⟩ := fun b c hbc e => hbc (congrArg Addr.block e)
  have gs : ∀ b, Goes uT T7 w7 T7 ((w7.setCell ⟨N + 1, 0, none⟩ v).setCell ⟨N + 3, 0, none⟩ (.bool b)) := fun b => (Goes.setCell (t := uT) (T := T7) (p := N + 1) (.inr (ht (N + 1) (by omega) (by omega)).2)).trans (Goes.setCell (t := uT) (T := T7) (p := N + 3) (.inr (ht (N + 3) (by omega) (by omega)).2))
  have g8 : ∀ b, Goes (· = 8) T7 w7 T7 ((w7.setCell ⟨N + 1, 0, none⟩ v).setCell ⟨N + 3, 0, none⟩ (.bool b)) := fun b => (Goes.setCell (t := (· = 8)) (T := T7) (p := N + 1) (ht (N + 1) (by omega) (by omega)).2).trans (Goes.setCell (t := (· = 8)) (T := T7) (p := N + 3) (ht (N + 3) (by omega) (by omega)).2)
  refine ⟨(cl N (by omega) (by omega)).trans h.num, ⟨v0, c1⟩, c3, fr _ (by omega) (by omega), fr _ (by omega) (by omega), fun b => ?_, fun b => ?_⟩
  · refine ⟨fun q h1 h2 => ⟨(ht q h1 h2).2, ?_⟩, ?_, ⟨v, ?_, ho.goes (g8 b) (by omega)⟩, ?_, ?_, fun q h1 h2 => ?_⟩
    · have := (h.tags q h1 h2).2; have := hg.size; simp; omega
    · rw [World.cell?_setCell_other _ ⟨N + 3, 0, none⟩ ⟨N, 0, none⟩ _ (ne _ _ (by omega)), World.cell?_setCell_other _ ⟨N + 1, 0, none⟩ ⟨N, 0, none⟩ _ (ne _ _ (by omega)), cl N (by omega) (by omega)]; exact h.num
    · rw [World.cell?_setCell_other _ ⟨N + 3, 0, none⟩ ⟨N + 1, 0, none⟩ _ (ne _ _ (by omega))]
      exact World.cell?_setCell_same _ _ _ c1
    · rw [World.cell?_setCell_other _ ⟨N + 3, 0, none⟩ ⟨N + 2, 0, none⟩ _ (ne _ _ (by omega)), World.cell?_setCell_other _ ⟨N + 1, 0, none⟩ ⟨N + 2, 0, none⟩ _ (ne _ _ (by omega)), cl (N + 2) (by omega) (by omega)]; exact h.well
    · refine World.cell?_setCell_same _ _ _ (u := .bool false) ?_
      rw [World.cell?_setCell_other _ ⟨N + 1, 0, none⟩ ⟨N + 3, 0, none⟩ _ (ne _ _ (by omega))]; exact c3
    · rw [World.frozen?_setCell, World.frozen?_setCell]; exact fr q h1 h2
  · exact (hg.mono fun x hx => .inl hx).trans (gs b)
theorem undE5 : Try.prog.underlying 80 = some (.slice 77) := by kernel_rfl

theorem isE_new5 {w : World} {x : En} {u : TypeId} : IsE (w.alloc (.cells #[.string x.1, .int .u64 x.2.1, .bool x.2.2.1, .string x.2.2.2] u)) (some ⟨w.heap.size, 0, none⟩) [x] := by
  refine IsE.of ⟨by simp, fun i z hz => ?_⟩
  cases i with
  | zero => simp at hz; subst hz; refine ⟨?_, ?_, ?_, ?_⟩ <;> (rw [World.cell?_alloc_at _ _ _ _ rfl]; rfl)
  | succ i => simp at hz

set_option maxHeartbeats 1000000 in
theorem takenc_any (T : Nat → Nat) (w : World) (N : Nat) (nn : Int) (l : List En) (e : En) (h : Tk T w N nn false l) (hlen : l.length < 2932031007402) (hz : ∀ b, w.heap.size ≤ b → T b = 0) :
    Calls Try.prog 72 #[.agg #[.string e.1, .int .u64 e.2.1, .bool e.2.2.1, .string e.2.2.2], .pointer (some ⟨N + 3, 0, none⟩), .pointer (some ⟨N + 2, 0, none⟩), .pointer (some ⟨N + 1, 0, none⟩), .pointer (some ⟨N, 0, none⟩)] w fun r w' => r = .returned (.bool (!decide ((l.length : Int) + 1 = nn))) ∧ ∃ T', Tk T' w' N nn (decide ((l.length : Int) + 1 = nn)) (l ++ [e]) ∧ Goes uT T w T' w' ∧ (∀ b, w'.heap.size ≤ b → T' b = 0) ∧ KeepsOthers w w' := by
  obtain ⟨ek, es, ed, ev⟩ := e
  dsimp only
  obtain ⟨i0, hi0, hz0, hz1, hz2⟩ := info_parts infoE
  have HB1 : Hid (Below w.heap.size w (w.alloc (.cells #[.string ek, .int .u64 es, .bool ed, .string ev] 77))) := (Below.refl _ _).alloc (Nat.le_refl _) _
  have HK0 : Hid (KeepsOthers w (w.alloc (.cells #[.string ek, .int .u64 es, .bool ed, .string ev] 77))) := KeepsOthers.alloc _ _
  have HK1 : Hid (Tk T (w.alloc (.cells #[.string ek, .int .u64 es, .bool ed, .string ev] 77)) N nn false l) := h.below HB1.out
  have g1 : (w.alloc (.cells #[.string ek, .int .u64 es, .bool ed, .string ev] 77)).heap[w.heap.size]? = some (.cells #[.string ek, .int .u64 es, .bool ed, .string ev] 77) := World.alloc_heap_new _ _
  have hs1 : (w.alloc (.cells #[.string ek, .int .u64 es, .bool ed, .string ev] 77)).heap.size = w.heap.size + 1 := by simp
  clear h
  go_enter Try.func72, Try.ntmps72
  generalize hW1 : w.alloc (.cells #[.string ek, .int .u64 es, .bool ed, .string ev] 77) = W1 at *
  have b0 : W1.cell? ⟨w.heap.size, 0, none⟩ = some (.string ek) := by rw [cell_of_obj g1]; rfl
  have b1 : W1.cell? ⟨w.heap.size, 1, none⟩ = some (.int .u64 es) := by rw [cell_of_obj g1]; rfl
  have b2 : W1.cell? ⟨w.heap.size, 2, none⟩ = some (.bool ed) := by rw [cell_of_obj g1]; rfl
  have b3 : W1.cell? ⟨w.heap.size, 3, none⟩ = some (.string ev) := by rw [cell_of_obj g1]; rfl
  have k3 := HK1.out.end_
  obtain ⟨v, k1, ho⟩ := HK1.out.out
  obtain ⟨a, c, rfl, hi, hcap, hnil⟩ := ho.form
  have HO : Hid (OwnE 7 T W1 (.slice a l.length c) l) := ho
  have HHZ : Hid (∀ b, w.heap.size ≤ b → T b = 0) := hz
  have HS1 : Hid (W1.heap.size = w.heap.size + 1) := hs1
  have HBA : Hid (Below W1.heap.size W1 (W1.alloc (.cells #[.string ek, .int .u64 es, .bool ed, .string ev] 77))) := (Below.refl _ _).alloc (Nat.le_refl _) _
  have hl2 : (l.length : Int) ≤ 2932031007402 := by omega
  clear ho g1 hz hi hcap hnil hs1
  go_wp2_with (at_builtin; go_loud (refine wpList_appEg _ (by rfl) (.tmp 8) (.tmp 10) 80 (by rfl) i0 undE5 hi0 hz0 hz1 hz2 7 T (.slice a l.length c) l (by rfl) (HO.out.below HBA.out) (some ⟨W1.heap.size, 0, none⟩) 1 1 [(ek, es, ed, ev)] (by rfl) (by rfl) (by simp) isE_new5 (by simp; omega) ?_; intro a7 c7 T7 w7 hown7 hgo7 hgr7 hat7; simp only [List.length_cons, List.length_nil, Nat.zero_add] at hown7 ⊢; have hg' : Goes (· = 7) T W1 T7 w7 := (Goes.below HBA.out).trans hgo7; obtain ⟨hq1, ⟨u7, hq2⟩, hq3, hq4, hq5, hq6, hq7⟩ := takenc_mid HK1.out hg' hown7; have HQ : Hid (∀ b, Tk T7 ((w7.setCell ⟨N + 1, 0, none⟩ (.slice a7 (l.length + 1) c7)).setCell ⟨N + 3, 0, none⟩ (.bool b)) N nn b (l ++ [(ek, es, ed, ev)]) ∧ Goes uT T W1 T7 ((w7.setCell ⟨N + 1, 0, none⟩ (.slice a7 (l.length + 1) c7)).setCell ⟨N + 3, 0, none⟩ (.bool b))) := fun b => ⟨(hq6 b).out, (hq7 b).out⟩; have HKO : Hid (KeepsOthers w w7) := (HK0.out.trans (KeepsOthers.alloc _ _)).trans (KeepsOthers.of_grownBy hgr7 (fun j o ej hj => by obtain ⟨cur, tt, hc⟩ := OwnE.cells (HO.out.below HBA.out) ej; rw [hc] at hj; cases hj; rfl)); clear hown7 hgo7 hat7 hgr7 hg' hq6 hq7))
  go_ret
  refine ⟨rfl, T7, (HQ.out _).1, (Goes.below HB1.out).trans (HQ.out _).2, fun b hb => (HQ.out _).2.high b hb (HHZ.out b ?_), (HKO.out.trans (KeepsOthers.setCell _ _ _)).trans (KeepsOthers.setCell _ _ _)⟩
  have h1 := (HQ.out ((l.length : Int) + 1 == nn)).2.size
  have h2 := HS1.out
  omega
end Sk
end Go.Proofs.Ytcioaoanhmpdkaa
namespace Go.Proofs.Ytcioaoanhmpdkaa
namespace Sk
open Go.RowKit Go.Shelf Laws Irw Erw KMath Skm Byt
set_option linter.unusedVariables false
set_option maxRecDepth 100000
set_option linter.unusedSimpArgs false
attribute [local go_sem] Oper.semAt_some

set_option maxHeartbeats 1000000 in
/-- From's iterator, gone through by taken: all of it. -/
theorem all_in (t : Nat) (ht : ¬ uT t) (T0 : Nat → Nat) (Bl Bk Bs L N : Nat) (k : ByteArray) (s : Int) (ns pre post : List Nd) (W : World) (hw : Wk W L k s ns pre post)
    (htg : ∀ nd ∈ ns, T0 nd.b = t) (htL : T0 L = t) (hz0 : ∀ b, W.heap.size ≤ b → T0 b = 0) (hN : N + 4 ≤ W.heap.size)
    (hBl : W.cell? ⟨Bl, 0, none⟩ = some (.pointer (some ⟨L, 0, none⟩))) (hBk : W.cell? ⟨Bk, 0, none⟩ = some (.string k)) (hBs : W.cell? ⟨Bs, 0, none⟩ = some (.int .u64 s))
    (htk : Tk T0 W N (-1) false []) (hlen : ns.length ≤ 2932031007402) :
    CallsIn Fence.wide 6 Try.prog 88 #[.func (.func 72) #[] #[.pointer (some ⟨N + 3, 0, none⟩), .pointer (some ⟨N + 2, 0, none⟩), .pointer (some ⟨N + 1, 0, none⟩), .pointer (some ⟨N, 0, none⟩)], .pointer (some ⟨Bl, 0, none⟩), .pointer (some ⟨Bk, 0, none⟩), .pointer (some ⟨Bs, 0, none⟩)] W fun e W' => (∃ v, e = .returned v) ∧ ∃ T', Tk T' W' N (-1) false (post.map Nd.e) ∧ Goes uT T0 W T' W' ∧ ∀ b, W'.heap.size ≤ b → T' b = 0 := by
  have HW : Hid (Wk W L k s ns pre post) := hw
  have HTK : Hid (Tk T0 W N (-1) false []) := htk
  have HTG : Hid ((∀ nd ∈ ns, T0 nd.b = t) ∧ T0 L = t ∧ ∀ b, W.heap.size ≤ b → T0 b = 0) := ⟨htg, htL, hz0⟩
  have HUT : Hid (¬ uT t) := ht
  clear hw htk htg htL hz0 ht
  refine callsIn_of_wp_marks Try.func88 rfl trivial ?_ rfl
  simp only [Try.ntmps88, List.size_toArray, List.length_cons, List.length_nil, Nat.reduceAdd, Nat.reduceSub, Array.replicate_succ, Array.replicate_zero, List.push_toArray, List.append_toArray, List.nil_append, List.cons_append]
  have hfB : Fence.wide.fn 90 := trivial
  have hfA : Fence.wide.fn 89 := trivial
  have hb1 : Below W.heap.size W (W.alloc (.cells #[.func (.func 72) #[] #[.pointer (some ⟨N + 3, 0, none⟩), .pointer (some ⟨N + 2, 0, none⟩), .pointer (some ⟨N + 1, 0, none⟩), .pointer (some ⟨N, 0, none⟩)]] 92)) := (Below.refl _ _).alloc (Nat.le_refl _) _
  have g1 : (W.alloc (.cells #[.func (.func 72) #[] #[.pointer (some ⟨N + 3, 0, none⟩), .pointer (some ⟨N + 2, 0, none⟩), .pointer (some ⟨N + 1, 0, none⟩), .pointer (some ⟨N, 0, none⟩)]] 92)).heap[W.heap.size]? = some (.cells #[.func (.func 72) #[] #[.pointer (some ⟨N + 3, 0, none⟩), .pointer (some ⟨N + 2, 0, none⟩), .pointer (some ⟨N + 1, 0, none⟩), .pointer (some ⟨N, 0, none⟩)]] 92) := World.alloc_heap_new _ _
  have l1 := (hb1.cell (p := ⟨Bl, 0, none⟩) (World.block_lt_of_cell? W _ hBl)).trans hBl
  have k1 := (hb1.cell (p := ⟨Bk, 0, none⟩) (World.block_lt_of_cell? W _ hBk)).trans hBk
  have s1 := (hb1.cell (p := ⟨Bs, 0, none⟩) (World.block_lt_of_cell? W _ hBs)).trans hBs
  generalize hW1 : W.alloc (.cells #[.func (.func 72) #[] #[.pointer (some ⟨N + 3, 0, none⟩), .pointer (some ⟨N + 2, 0, none⟩), .pointer (some ⟨N + 1, 0, none⟩), .pointer (some ⟨N, 0, none⟩)]] 92) = W1 at *
  have HW1 : Hid (Wk W1 L k s ns pre post) := HW.out.under hb1
  gi_wp2_with fail
  try rw [hW1]
  refine (callsIn_wide.2 (HW1.out.ahead false ⟨#[]⟩)).mono ?_
  rintro e w2 ⟨rfl, hb2⟩
  unfold lastV lp
  have HB2 : Hid (Below W.heap.size W w2) := hb1.trans (hb2.mono hb1.size)
  have hY1 : W.heap.size < W1.heap.size := (Array.getElem?_eq_some_iff.1 g1).1
  have g2 : w2.heap[W.heap.size]? = some (.cells #[.func (.func 72) #[] #[.pointer (some ⟨N + 3, 0, none⟩), .pointer (some ⟨N + 2, 0, none⟩), .pointer (some ⟨N + 1, 0, none⟩), .pointer (some ⟨N, 0, none⟩)]] 92) := (hb2.block _ hY1).trans g1
  have hs2 := hb2.size
  clear hW1 l1 k1 s1 HW1 g1
  have hb3 : Below w2.heap.size w2 (w2.alloc (.cells #[.pointer (some ⟨lst L 0 pre, 0, none⟩), .pointer (some ⟨lst L 1 pre, 0, none⟩), .pointer (some ⟨lst L 2 pre, 0, none⟩), .pointer (some ⟨lst L 3 pre, 0, none⟩), .pointer (some ⟨lst L 4 pre, 0, none⟩), .pointer (some ⟨lst L 5 pre, 0, none⟩), .pointer (some ⟨lst L 6 pre, 0, none⟩), .pointer (some ⟨lst L 7 pre, 0, none⟩), .pointer (some ⟨lst L 8 pre, 0, none⟩), .pointer (some ⟨lst L 9 pre, 0, none⟩), .pointer (some ⟨lst L 10 pre, 0, none⟩), .pointer (some ⟨lst L 11 pre, 0, none⟩)] 120)) := (Below.refl _ _).alloc (Nat.le_refl _) _
  have a0 : (w2.alloc (.cells #[.pointer (some ⟨lst L 0 pre, 0, none⟩), .pointer (some ⟨lst L 1 pre, 0, none⟩), .pointer (some ⟨lst L 2 pre, 0, none⟩), .pointer (some ⟨lst L 3 pre, 0, none⟩), .pointer (some ⟨lst L 4 pre, 0, none⟩), .pointer (some ⟨lst L 5 pre, 0, none⟩), .pointer (some ⟨lst L 6 pre, 0, none⟩), .pointer (some ⟨lst L 7 pre, 0, none⟩), .pointer (some ⟨lst L 8 pre, 0, none⟩), .pointer (some ⟨lst L 9 pre, 0, none⟩), .pointer (some ⟨lst L 10 pre, 0, none⟩), .pointer (some ⟨lst L 11 pre, 0, none⟩)] 120)).cell? ⟨w2.heap.size, 0, none⟩ = some (.pointer (some ⟨lst L 0 pre, 0, none⟩)) := by rw [cell_of_obj (World.alloc_heap_new _ _)]; rfl
  have hs3 : (w2.alloc (.cells #[.pointer (some ⟨lst L 0 pre, 0, none⟩), .pointer (some ⟨lst L 1 pre, 0, none⟩), .pointer (some ⟨lst L 2 pre, 0, none⟩), .pointer (some ⟨lst L 3 pre, 0, none⟩), .pointer (some ⟨lst L 4 pre, 0, none⟩), .pointer (some ⟨lst L 5 pre, 0, none⟩), .pointer (some ⟨lst L 6 pre, 0, none⟩), .pointer (some ⟨lst L 7 pre, 0, none⟩), .pointer (some ⟨lst L 8 pre, 0, none⟩), .pointer (some ⟨lst L 9 pre, 0, none⟩), .pointer (some ⟨lst L 10 pre, 0, none⟩), .pointer (some ⟨lst L 11 pre, 0, none⟩)] 120)).heap.size = w2.heap.size + 1 := by simp
  generalize hW3 : w2.alloc (.cells #[.pointer (some ⟨lst L 0 pre, 0, none⟩), .pointer (some ⟨lst L 1 pre, 0, none⟩), .pointer (some ⟨lst L 2 pre, 0, none⟩), .pointer (some ⟨lst L 3 pre, 0, none⟩), .pointer (some ⟨lst L 4 pre, 0, none⟩), .pointer (some ⟨lst L 5 pre, 0, none⟩), .pointer (some ⟨lst L 6 pre, 0, none⟩), .pointer (some ⟨lst L 7 pre, 0, none⟩), .pointer (some ⟨lst L 8 pre, 0, none⟩), .pointer (some ⟨lst L 9 pre, 0, none⟩), .pointer (some ⟨lst L 10 pre, 0, none⟩), .pointer (some ⟨lst L 11 pre, 0, none⟩)] 120) = W3 at *
  gi_wp2_with (gi_at_call 90; refine (behind_in _ _ _ _).mono ?_; rintro e w' ⟨rfl, rfl⟩)
  try rw [hW3]
  clear hW3
  have HB3 : Hid (Below W.heap.size W W3) := HB2.out.trans (hb3.mono HB2.out.size)
  have g3 : W3.heap[W.heap.size]? = some (.cells #[.func (.func 72) #[] #[.pointer (some ⟨N + 3, 0, none⟩), .pointer (some ⟨N + 2, 0, none⟩), .pointer (some ⟨N + 1, 0, none⟩), .pointer (some ⟨N, 0, none⟩)]] 92) := (hb3.block _ (by omega)).trans g2
  have hb5 : Below W3.heap.size W3 ((W3.alloc (.cells #[.pointer (some ⟨lst L 0 pre, 0, none⟩)] 119)).alloc (.cells #[.int .i64 0] 3)) := ((Below.refl _ _).alloc (Nat.le_refl _) _).alloc (by simp) _
  have bn : ((W3.alloc (.cells #[.pointer (some ⟨lst L 0 pre, 0, none⟩)] 119)).alloc (.cells #[.int .i64 0] 3)).cell? ⟨w2.heap.size + 1, 0, none⟩ = some (.pointer (some ⟨lst L 0 pre, 0, none⟩)) := by
    rw [World.cell?_of_block (Below.heap_alloc _ _ _ (by simp; omega)), ← hs3, World.cell?_alloc_at _ _ _ _ rfl]; rfl
  have bi : ((W3.alloc (.cells #[.pointer (some ⟨lst L 0 pre, 0, none⟩)] 119)).alloc (.cells #[.int .i64 0] 3)).cell? ⟨w2.heap.size + 1 + 1, 0, none⟩ = some (.int .i64 ((0 : Nat) : Int)) := by
    rw [World.cell?_alloc_at _ _ _ _ (by simp; omega)]; rfl
  have hs5 : ((W3.alloc (.cells #[.pointer (some ⟨lst L 0 pre, 0, none⟩)] 119)).alloc (.cells #[.int .i64 0] 3)).heap.size = w2.heap.size + 3 := by simp; omega
  generalize (W3.alloc (.cells #[.pointer (some ⟨lst L 0 pre, 0, none⟩)] 119)).alloc (.cells #[.int .i64 0] 3) = W5 at *
  have HB5 : Hid (Below W.heap.size W W5) := HB3.out.trans (hb5.mono HB3.out.size)
  have hg5 : W5.heap[W.heap.size]? = some (.cells #[.func (.func 72) #[] #[.pointer (some ⟨N + 3, 0, none⟩), .pointer (some ⟨N + 2, 0, none⟩), .pointer (some ⟨N + 1, 0, none⟩), .pointer (some ⟨N, 0, none⟩)]] 92) := (hb5.block _ (by omega)).trans g3
  have hw5 := HW.out.under HB5.out
  obtain ⟨sh, hsh, hTs, hst, hsub⟩ := hw5.st
  have hnl : ∀ nd ∈ ns, nd.b < W.heap.size := fun nd hnd => HW.out.chain.lt hnd
  have hps1 : ∀ nd ∈ post, 1 ≤ nd.h := fun nd hnd => (HW.out.hts nd (by rw [HW.out.cut]; simp [hnd])).1
  clear hb1 hb2 hb3 hb5 g2 g3 a0
  refine wpIn_rangeFunc_ownG rfl (by decide) (gf := 100) (lb := #[.pointer (some ⟨w2.heap.size + 1, 0, none⟩), .pointer (some ⟨w2.heap.size + 1 + 1, 0, none⟩)]) rfl trivial (enters_of Try.func100 (by kernel_rfl) rfl)
    (behind_stops (6 - 1) (by decide) (w2.heap.size + 1) (w2.heap.size + 1 + 1) 0 (by omega) (lst L 0 pre) sh hsh post ns hsub W5 bn bi hTs hst hw5.chain) Kp.trans ?kb (Below.refl _ _) (fun _ => rfl)
    (fun come W' => ∃ T, Tk T W' N (-1) false (come.map fun x => x.1.e) ∧ Goes uT T0 W T W' ∧ W5.heap.size ≤ W'.heap.size ∧ (∀ b, W.heap.size ≤ b → b < W5.heap.size → T b = 0 ∧ W'.heap[b]? = W5.heap[b]?) ∧ ∀ b, W'.heap.size ≤ b → T b = 0)
    (fun _ _ _ => False)
    ?own1 (fun _ _ _ _ _ hs _ _ => hs) ⟨T0, HTK.out.below HB5.out, Goes.below HB5.out, Nat.le_refl _, fun b hb _ => ⟨HTG.out.2.2 b hb, rfl⟩, fun b hb => HTG.out.2.2 b (by omega)⟩
    (fun x => { tmps := #[.func (.func 72) #[] #[.pointer (some ⟨N + 3, 0, none⟩), .pointer (some ⟨N + 2, 0, none⟩), .pointer (some ⟨N + 1, 0, none⟩), .pointer (some ⟨N, 0, none⟩)], .pointer (some ⟨Bl, 0, none⟩), .pointer (some ⟨Bk, 0, none⟩), .pointer (some ⟨Bs, 0, none⟩), .pointer (some ⟨W.heap.size, 0, none⟩), .pointer (some ⟨w2.heap.size, 0, none⟩), .pointer (some ⟨x.1.b, 0, none⟩), .pointer (some ⟨L, 0, none⟩), .string k, .int .u64 s, .agg #[.string k, .int .u64 s, .bool false, .string ⟨#[]⟩], .agg #[.pointer (some ⟨lst L 0 pre, 0, none⟩), .pointer (some ⟨lst L 1 pre, 0, none⟩), .pointer (some ⟨lst L 2 pre, 0, none⟩), .pointer (some ⟨lst L 3 pre, 0, none⟩), .pointer (some ⟨lst L 4 pre, 0, none⟩), .pointer (some ⟨lst L 5 pre, 0, none⟩), .pointer (some ⟨lst L 6 pre, 0, none⟩), .pointer (some ⟨lst L 7 pre, 0, none⟩), .pointer (some ⟨lst L 8 pre, 0, none⟩), .pointer (some ⟨lst L 9 pre, 0, none⟩), .pointer (some ⟨lst L 10 pre, 0, none⟩), .pointer (some ⟨lst L 11 pre, 0, none⟩)], .pointer (some ⟨w2.heap.size, 0, none⟩), .pointer (some ⟨lst L 0 pre, 0, none⟩), .func (.func 100) #[] #[.pointer (some ⟨w2.heap.size + 1, 0, none⟩), .pointer (some ⟨w2.heap.size + 1 + 1, 0, none⟩)], .pointer (some ⟨x.1.b, 0, none⟩), undef, undef, undef, undef, undef, undef, undef], defers := [] }) ?assign ?body ?done ?stop
  case kb =>
    intro W' l o o' hl h _ _
    exact ⟨fun nd hnd => World.putObj_heap_other (by have := hnl nd hnd; omega), World.putObj_heap_other (by omega), World.putObj_heap_other (by omega)⟩
  case own1 =>
    rintro come A B row ⟨T, h1, h2, h3, h4, h5⟩ hg hr
    have hk : ∀ b, b < W5.heap.size → B.heap[b]? = A.heap[b]? := fun b hb => hg.block b (by omega) (fun e => by have := (hr b e.symm).1; omega)
    refine ⟨T, h1.own hg (fun r e => ⟨by have := (hr r e).1; omega, (hr r e).2⟩), ?_, Nat.le_trans h3 hg.size, fun b hb hb2 => ⟨(h4 b hb hb2).1, (hk b hb2).trans (h4 b hb hb2).2⟩, fun b hb => h5 b (Nat.le_trans hg.size hb)⟩
    exact ⟨hg.os.trans h2.os, hg.tape.trans h2.tape, hg.output.trans h2.output, Nat.le_trans h2.size hg.size, fun b hb hu => (hk b (by omega)).trans (h2.block b hb hu), h2.tag, fun b hb h0 => h2.high b (Nat.le_trans hg.size hb) h0⟩
  case assign =>
    intro l1 x W' K' hK'
    simp only [encN]
    gi_wp2
    exact hK'
  case body =>
    rintro l1 come x W' ⟨T, hTk, hgo, hsW, hkW, hzW⟩ hcl
    obtain ⟨rx, hnx⟩ := HW.out.chain.node x.2
    obtain ⟨c0, c1, c2, c3⟩ := (hnx.keep (hgo.block _ (hnl _ x.2) (by rw [HTG.out.1 _ x.2]; exact HUT.out))).ent
    have y0 : W'.cell? ⟨W.heap.size, 0, none⟩ = some (.func (.func 72) #[] #[.pointer (some ⟨N + 3, 0, none⟩), .pointer (some ⟨N + 2, 0, none⟩), .pointer (some ⟨N + 1, 0, none⟩), .pointer (some ⟨N, 0, none⟩)]) := by
      rw [cell_of_obj ((hkW _ (Nat.le_refl _) (by omega)).2.trans hg5)]; rfl
    have hfT : Fence.wide.fn 72 := trivial
    have HCL : Hid (Calls Try.prog 72 #[.agg #[.string x.1.e.1, .int .u64 x.1.e.2.1, .bool x.1.e.2.2.1, .string x.1.e.2.2.2], .pointer (some ⟨N + 3, 0, none⟩), .pointer (some ⟨N + 2, 0, none⟩), .pointer (some ⟨N + 1, 0, none⟩), .pointer (some ⟨N, 0, none⟩)] W'.drew fun r w' => r = .returned (.bool true) ∧ ∃ T', Tk T' w' N (-1) false ((come ++ [x]).map fun x => x.1.e) ∧ Goes uT T W' T' w' ∧ (∀ b, w'.heap.size ≤ b → T' b = 0) ∧ KeepsOthers W' w') := by
      have hd : Below W'.heap.size W' W'.drew := (Below.refl _ _).drew
      have h9 := takenc_any T W'.drew N (-1) (come.map fun x => x.1.e) x.1.e (hTk.below hd) (by simp; omega) hzW
      have e9 : decide (((come.map fun x : Of ns => x.1.e).length : Int) + 1 = -1) = false := by simp; omega
      rw [e9] at h9
      refine h9.mono ?_
      rintro r w9 ⟨hr, T9, q1, q2, q3, q4⟩
      exact ⟨hr, T9, by rw [List.map_append]; exact q1, (Goes.below hd).trans q2, q3, (KeepsOthers.drew _).trans q4⟩
    have HIN : Hid (Goes uT T0 W T W' ∧ W5.heap.size ≤ W'.heap.size ∧ (∀ b, W.heap.size ≤ b → b < W5.heap.size → T b = 0 ∧ W'.heap[b]? = W5.heap[b]?)) := ⟨hgo, hsW, hkW⟩
    obtain ⟨⟨xb, ⟨xk, xs, xd, xv⟩, xh⟩, hxm⟩ := x
    dsimp only at *
    clear hTk hgo hkW hzW hnx
    gi_wp2
    gi_region_with (gi_at_call 72; refine (CallsIn.inRound l1 (callsIn_wide.2 HCL.out)).mono ?_; rintro r W2 ⟨rfl, hj2⟩)
    all_goals (
      have HJ2 : Hid _ := hj2
      clear hj2
      gi_wp2
      obtain ⟨T2, q1, q2, q3, q4⟩ := HJ2.out
      obtain ⟨hgo, hsW, hkW⟩ := HIN.out
      have h0 : ¬ uT 0 := by unfold uT; omega
      have hold : ∀ b, W.heap.size ≤ b → b < W5.heap.size → T2 b = 0 ∧ W2.heap[b]? = W5.heap[b]? := fun b hb hb2 => by
        obtain ⟨e1, e2⟩ := hkW b hb hb2
        have hu : ¬ uT (T b) := by rw [e1]; exact h0
        exact ⟨(q2.tag b (by omega) hu).trans e1, (q2.block b (by omega) hu).trans e2⟩
      refine ⟨q4.from _, ⟨fun nd hnd => ?_, ?_, ?_⟩, T2, q1, hgo.trans q2, Nat.le_trans hsW q2.size, hold, q3⟩
      · have e1 := hgo.tag _ (hnl nd hnd) (by rw [HTG.out.1 nd hnd]; exact HUT.out)
        exact q2.block _ (Nat.lt_of_lt_of_le (hnl nd hnd) hgo.size) (by rw [e1, HTG.out.1 nd hnd]; exact HUT.out)
      · exact (hold _ (by omega) (by omega)).2.trans (hkW _ (by omega) (by omega)).2.symm
      · exact (hold _ (by omega) (by omega)).2.trans (hkW _ (by omega) (by omega)).2.symm)
  case done =>
    rintro D come W' hD hcome ⟨T, hTk, hgo, hsW, hkW, hzW⟩ hDd
    have HEQ : Hid ((come.map fun x => x.1.e) = post.map Nd.e) := by
      rw [lev0 hps1] at hcome
      have := congrArg (List.map Nd.e) hcome
      rw [List.map_map] at this
      exact this
    clear hcome
    gi_wp2
    refine ⟨by simp, .inl ⟨_, _, rfl, run_takeDeferred hDd, ?_⟩⟩
    have hgp := grownBy_putObj' W' D (.deferred none)
    refine ⟨_, results_none rfl _ _ _, ⟨_, rfl⟩, T, ?_, ?_, fun b hb => hzW b (by simpa using hb)⟩
    · rw [← HEQ.out]
      exact hTk.own hgp (fun r e => by cases e; exact ⟨by omega, _, hDd, rfl⟩)
    · exact ⟨hgo.os, hgo.tape, hgo.output, by simpa using hgo.size, fun b hb hu => (World.putObj_heap_other (by omega)).trans (hgo.block b hb hu), hgo.tag, fun b hb h0 => hgo.high b (by simpa using hb) h0⟩
  case stop =>
    rintro D c pre W' _ _ h _
    exact h.elim
end Sk
end Go.Proofs.Ytcioaoanhmpdkaa
namespace Go.Proofs.Ytcioaoanhmpdkaa
namespace Sk
open Go.RowKit Go.Shelf Laws Irw Erw KMath Skm Byt
set_option linter.unusedVariables false
set_option maxRecDepth 100000
set_option linter.unusedSimpArgs false

open Classical in
/-- the tags of one call of taken -/
noncomputable def tkT (L : Nat) (ns : List Nd) (N : Nat) (b : Nat) : Nat := if N ≤ b ∧ b < N + 4 then 8 else if b = L ∨ ∃ nd ∈ ns, nd.b = b then 1 else 0
theorem tkT_lo {L : Nat} {ns : List Nd} {N b : Nat} (h : b < N) : ¬ uT (tkT L ns N b) := by
  unfold tkT uT
  rw [if_neg (by omega)]
  split <;> omega
theorem tkT_hi {L : Nat} {ns : List Nd} {N b : Nat} (h : N + 4 ≤ b) (hL : L < N) (hn : ∀ nd ∈ ns, nd.b < N) : tkT L ns N b = 0 := by
  unfold tkT
  rw [if_neg (by omega), if_neg]
  rintro (h1 | ⟨nd, h1, h2⟩)
  · omega
  · have := hn nd h1; omega
theorem tkT_box {L : Nat} {ns : List Nd} {N b : Nat} (h1 : N ≤ b) (h2 : b < N + 4) : tkT L ns N b = 8 := by unfold tkT; rw [if_pos ⟨h1, h2⟩]
theorem tkT_node {L : Nat} {ns : List Nd} {N b : Nat} (h : b < N) (hb : b = L ∨ ∃ nd ∈ ns, nd.b = b) : tkT L ns N b = 1 := by unfold tkT; rw [if_neg (by omega), if_pos hb]

theorem und58 : Try.prog.underlying 58 = some (.func #[92] #[] false) := by kernel_rfl
theorem fun_eq (d fn : Nat) (caps : Array Value) (w : World) : (Op.equalIn (d + 1) 58 (.func (.func fn) #[] caps) .nilFunc).run Try.prog w = .ok false w := by
  simp [Op.equalIn, run_underlying und58]
theorem fun_nil (fn : Nat) (caps : Array Value) (w : World) : (binOp .eql 58 (.func (.func fn) #[] caps) .nilFunc).run Try.prog w = .ok (.bool false) w := by
  have h := fun_eq 9999 fn caps w
  simp only [binOp]
  simp [Op.equal, Op.maxDepth, h]
set_option maxHeartbeats 1000000 in
theorem taken_all (Bl Bk Bs L : Nat) (k : ByteArray) (s : Int) (ns pre post : List Nd) (w : World) (hw : Wk w L k s ns pre post)
    (hBl : w.cell? ⟨Bl, 0, none⟩ = some (.pointer (some ⟨L, 0, none⟩))) (hBk : w.cell? ⟨Bk, 0, none⟩ = some (.string k)) (hBs : w.cell? ⟨Bs, 0, none⟩ = some (.int .u64 s)) (hlen : ns.length ≤ 2932031007402) :
    Calls Try.prog 26 #[.func (.func 88) #[] #[.pointer (some ⟨Bl, 0, none⟩), .pointer (some ⟨Bk, 0, none⟩), .pointer (some ⟨Bs, 0, none⟩)], .int .i64 (-1)] w fun e w' => ∃ a c, e = .returned (.tuple #[.slice a post.length c, .bool true]) ∧ IsE w' a (post.map Nd.e) ∧ (a = none → c = 0) ∧ Below w.heap.size w w' := by
  have HW : Hid (Wk w L k s ns pre post) := hw
  have hmf : ∀ (fn : Fn) (first cap : Array Value) (w : World), (Instr.makeFunc fn first cap).run Try.prog w = .ok (.func fn first cap) w := fun _ _ _ _ => rfl
  have hfn : ∀ (x y z : Nat) (w : World), (binOp .eql 58 (.func (.func 88) #[] #[.pointer (some ⟨x, 0, none⟩), .pointer (some ⟨y, 0, none⟩), .pointer (some ⟨z, 0, none⟩)]) .nilFunc).run Try.prog w = .ok (.bool false) w := fun x y z w => fun_nil _ _ _
  clear hw
  go_enter Try.func26, Try.ntmps26
  go_wp2_with fail
  generalize ho1 : (Obj.cells #[.int .i64 (-1)] 3) = o1
  generalize ho2 : (Obj.cells #[.slice none 0 0] 80) = o2
  generalize ho3 : (Obj.cells #[.bool true] 4) = o3
  generalize ho4 : (Obj.cells #[.bool false] 4) = o4
  have g1 : ((((w.alloc o1).alloc o2).alloc o3).alloc o4).heap[w.heap.size]? = some o1 := by
    rw [Below.heap_alloc _ _ _ (by simp <;> omega), Below.heap_alloc _ _ _ (by simp <;> omega), Below.heap_alloc _ _ _ (by simp <;> omega)]
    exact World.alloc_heap_new w o1
  have g2 : ((((w.alloc o1).alloc o2).alloc o3).alloc o4).heap[w.heap.size + 1]? = some o2 := by
    rw [Below.heap_alloc _ _ _ (by simp <;> omega), Below.heap_alloc _ _ _ (by simp <;> omega)]
    have := World.alloc_heap_new (w.alloc o1) o2
    rwa [World.size_alloc] at this
  have g3 : ((((w.alloc o1).alloc o2).alloc o3).alloc o4).heap[w.heap.size + 2]? = some o3 := by
    rw [Below.heap_alloc _ _ _ (by simp <;> omega)]
    have := World.alloc_heap_new ((w.alloc o1).alloc o2) o3
    rwa [World.size_alloc, World.size_alloc] at this
  have g4 : ((((w.alloc o1).alloc o2).alloc o3).alloc o4).heap[w.heap.size + 3]? = some o4 := by
    have := World.alloc_heap_new (((w.alloc o1).alloc o2).alloc o3) o4
    rwa [World.size_alloc, World.size_alloc, World.size_alloc] at this
  have hb4 : Below w.heap.size w ((((w.alloc o1).alloc o2).alloc o3).alloc o4) := ((((Below.refl _ _).alloc (Nat.le_refl _) _).alloc (by simp) _).alloc (by simp; omega) _).alloc (by simp; omega) _
  have hs4 : ((((w.alloc o1).alloc o2).alloc o3).alloc o4).heap.size = w.heap.size + 4 := by simp
  generalize (((w.alloc o1).alloc o2).alloc o3).alloc o4 = W4 at *
  subst ho1 ho2 ho3 ho4
  have hnl : ∀ nd ∈ ns, nd.b < w.heap.size := fun nd hnd => HW.out.chain.lt hnd
  have hTk : Tk (tkT L ns w.heap.size) W4 w.heap.size (-1) false [] := by
    refine ⟨fun b h1 h2 => ⟨tkT_box h1 h2, by omega⟩, by rw [cell_of_obj g1]; rfl, ⟨.slice none 0 0, by rw [cell_of_obj g2]; rfl, OwnE.empty _ _ _⟩, by rw [cell_of_obj g3]; rfl, by rw [cell_of_obj g4]; rfl, fun b h1 h2 => ?_⟩
    rcases (show b = w.heap.size ∨ b = w.heap.size + 1 ∨ b = w.heap.size + 2 ∨ b = w.heap.size + 3 by omega) with rfl | rfl | rfl | rfl
    · exact froz_of_obj g1
    · exact froz_of_obj g2
    · exact froz_of_obj g3
    · exact froz_of_obj g4
  refine (callsIn_wide.1 (all_in 1 (by unfold uT; omega) (tkT L ns w.heap.size) Bl Bk Bs L w.heap.size k s ns pre post W4 (HW.out.under hb4) (fun nd hnd => tkT_node (hnl nd hnd) (.inr ⟨nd, hnd, rfl⟩)) (tkT_node HW.out.lt (.inl rfl)) (fun b hb => tkT_hi (by omega) HW.out.lt hnl) (by omega) ((hb4.cell (p := ⟨Bl, 0, none⟩) (World.block_lt_of_cell? w _ hBl)).trans hBl) ((hb4.cell (p := ⟨Bk, 0, none⟩) (World.block_lt_of_cell? w _ hBk)).trans hBk) ((hb4.cell (p := ⟨Bs, 0, none⟩) (World.block_lt_of_cell? w _ hBs)).trans hBs) hTk hlen)).mono ?_
  rintro e w5 ⟨⟨v, rfl⟩, T5, h5, hg5, hz5⟩
  have hbl : Below w.heap.size w w5 := hb4.trans ⟨hg5.os, hg5.tape, hg5.output, hg5.size, fun b hb => hg5.block b (by omega) (tkT_lo hb)⟩
  obtain ⟨v5, k1, ho5⟩ := h5.out
  obtain ⟨a5, c5, rfl, hi5, _, hn5⟩ := ho5.form
  rw [List.length_map] at k1
  have k2 := h5.well
  have HF : Hid (IsE w5 a5 (post.map Nd.e) ∧ (a5 = none → c5 = 0) ∧ Below w.heap.size w w5) := ⟨hi5, hn5, hbl⟩
  clear hbl ho5 hi5 hn5 h5 hg5 hz5 hTk g1 g2 g3 g4
  go_wp2
  go_quiet (fail)
  go_wp2
  go_ret2
  exact ⟨a5, c5, rfl, HF.out.1.below (below_drewN (Below.refl _ _) _), HF.out.2.1, below_drewN HF.out.2.2 _⟩
end Sk
end Go.Proofs.Ytcioaoanhmpdkaa
