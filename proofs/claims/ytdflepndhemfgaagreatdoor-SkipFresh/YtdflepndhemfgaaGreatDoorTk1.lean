import Derived.Test.YtdflepndhemfgaaGreatDoorSkT
import Derived.Test.YtdflepndhemfgaaGreatDoorEAg
namespace Go.Proofs.YtdflepndhemfgaaGreatDoor
namespace Sk
open Go.RowKit Go.Shelf Laws Irw Erw KMath Skm Byt
set_option linter.unusedVariables false
set_option maxRecDepth 100000
set_option linter.unusedSimpArgs false

def uT (x : Nat) : Prop := x = 7 ∨ x = 8
/-- taken's boxes, from block N on: n, out, well, ended. -/
structure Tk (T : Nat → Nat) (w : World) (N : Nat) (nn : Int) (ended : Bool) (l : List En) : Prop where
  tags : ∀ b, N ≤ b → b < N + 4 → T b = 8 ∧ b < w.heap.size
  num : w.cell? ⟨N, 0, none⟩ = some (.int .i64 nn)
  out : ∃ v, w.cell? ⟨N + 1, 0, none⟩ = some v ∧ OwnE 7 T w v l
  well : w.cell? ⟨N + 2, 0, none⟩ = some (.bool true)
  end_ : w.cell? ⟨N + 3, 0, none⟩ = some (.bool ended)
  fro : ∀ b, N ≤ b → b < N + 4 → w.frozen? ⟨b, 0, none⟩ = false
theorem OwnE.same {s : Nat} {T : Nat → Nat} {w w' : World} {v : Value} {l : List En} (h : OwnE s T w v l) (hb : ∀ g, v.ownBlock = some g → w'.heap[g]? = w.heap[g]?) : OwnE s T w' v l := by
  refine ⟨⟨h.1.1, ?_⟩, h.2⟩
  rcases h.1.2 with h1 | ⟨g, cap, cur, hv, hb', hh, hr⟩
  · exact .inl h1
  · have hv' : v.ownBlock = some g := by rw [hv]; rfl
    exact .inr ⟨g, cap, cur, hv, hb', (hb g hv').trans hh, hr⟩
theorem OwnE.cells {s : Nat} {T : Nat → Nat} {w : World} {v : Value} {l : List En} (h : OwnE s T w v l) {g : Nat} (hg : v.ownBlock = some g) : ∃ cur t, w.heap[g]? = some (.cells cur t) := by
  rcases h.1.2 with ⟨h1, _⟩ | ⟨g', cap, cur, hv, hb', hh, hr⟩
  · rw [h1] at hg; simp [Value.ownBlock] at hg
  · rw [hv] at hg
    simp only [Value.ownBlock, Option.some.injEq] at hg
    subst hg
    exact ⟨cur, _, hh⟩
theorem Tk.below {T : Nat → Nat} {w w' : World} {N : Nat} {nn : Int} {ended : Bool} {l : List En} (h : Tk T w N nn ended l) (hb : Below w.heap.size w w') : Tk T w' N nn ended l := by
  have hl : ∀ b, N ≤ b → b < N + 4 → w'.heap[b]? = w.heap[b]? := fun b h1 h2 => hb.block b (h.tags b h1 h2).2
  obtain ⟨v, h1, h2⟩ := h.out
  exact ⟨fun b h1 h2 => ⟨(h.tags b h1 h2).1, Nat.lt_of_lt_of_le (h.tags b h1 h2).2 hb.size⟩, (World.cell?_of_block (a := ⟨N, 0, none⟩) (hl (N) (by omega) (by omega))).trans h.num, ⟨v, (World.cell?_of_block (a := ⟨N + 1, 0, none⟩) (hl (N + 1) (by omega) (by omega))).trans h1, h2.below hb⟩, (World.cell?_of_block (a := ⟨N + 2, 0, none⟩) (hl (N + 2) (by omega) (by omega))).trans h.well, (World.cell?_of_block (a := ⟨N + 3, 0, none⟩) (hl (N + 3) (by omega) (by omega))).trans h.end_, fun b h1 h2 => (World.frozen?_of_block (a := ⟨b, 0, none⟩) (hl b h1 h2)).trans (h.fro b h1 h2)⟩
/-- what is no cells may turn -/
theorem Tk.own {T : Nat → Nat} {w w' : World} {N : Nat} {nn : Int} {ended : Bool} {l : List En} (h : Tk T w N nn ended l) {row : Option Nat} (hg : w.grownBy w' row) (hr : ∀ r, row = some r → N + 4 ≤ r ∧ ∃ o : Obj, w.heap[r]? = some o ∧ o.isCells = false) : Tk T w' N nn ended l := by
  have hl : ∀ b, N ≤ b → b < N + 4 → w'.heap[b]? = w.heap[b]? := fun b h1 h2 => hg.block b (h.tags b h1 h2).2 (fun e => by have := (hr b e.symm).1; omega)
  obtain ⟨v, h1, h2⟩ := h.out
  refine ⟨fun b h1 h2 => ⟨(h.tags b h1 h2).1, Nat.lt_of_lt_of_le (h.tags b h1 h2).2 hg.size⟩, (World.cell?_of_block (a := ⟨N, 0, none⟩) (hl (N) (by omega) (by omega))).trans h.num, ⟨v, (World.cell?_of_block (a := ⟨N + 1, 0, none⟩) (hl (N + 1) (by omega) (by omega))).trans h1, OwnE.same h2 fun g hv => ?_⟩, (World.cell?_of_block (a := ⟨N + 2, 0, none⟩) (hl (N + 2) (by omega) (by omega))).trans h.well, (World.cell?_of_block (a := ⟨N + 3, 0, none⟩) (hl (N + 3) (by omega) (by omega))).trans h.end_, fun b h1 h2 => (World.frozen?_of_block (a := ⟨b, 0, none⟩) (hl b h1 h2)).trans (h.fro b h1 h2)⟩
  obtain ⟨cur, t, hc⟩ := OwnE.cells h2 hv
  refine hg.block g (Array.getElem?_eq_some_iff.1 hc).1 (fun e => ?_)
  obtain ⟨_, o, ho, hn⟩ := hr g e.symm
  rw [hc] at ho
  cases ho
  simp [Obj.isCells] at hn
/-- behind the append -/
theorem takenc_mid {T T7 : Nat → Nat} {W1 w7 : World} {N : Nat} {nn : Int} {l : List En} {v : Value} {e : En} (h : Tk T W1 N nn false l) (hg : Goes (· = 7) T W1 T7 w7) (ho : OwnE 7 T7 w7 v (l ++ [e])) :
    w7.cell? ⟨N, 0, none⟩ = some (.int .i64 nn) ∧ (∃ u, w7.cell? ⟨N + 1, 0, none⟩ = some u) ∧ w7.cell? ⟨N + 3, 0, none⟩ = some (.bool false) ∧ w7.frozen? ⟨N + 1, 0, none⟩ = false ∧ w7.frozen? ⟨N + 3, 0, none⟩ = false ∧ (∀ b, Hid (Tk T7 ((w7.setCell ⟨N + 1, 0, none⟩ v).setCell ⟨N + 3, 0, none⟩ (.bool b)) N nn b (l ++ [e]))) ∧ ∀ b, Hid (Goes uT T W1 T7 ((w7.setCell ⟨N + 1, 0, none⟩ v).setCell ⟨N + 3, 0, none⟩ (.bool b))) := by
  have ht : ∀ b, N ≤ b → b < N + 4 → w7.heap[b]? = W1.heap[b]? ∧ T7 b = 8 := fun b h1 h2 => by
    obtain ⟨h3, h4⟩ := h.tags b h1 h2
    exact ⟨hg.block b h4 (by omega), (hg.tag b h4 (by omega)).trans h3⟩
  have cl : ∀ b, N ≤ b → b < N + 4 → w7.cell? ⟨b, 0, none⟩ = W1.cell? ⟨b, 0, none⟩ := fun b h1 h2 => World.cell?_of_block (a := ⟨b, 0, none⟩) (ht b h1 h2).1
  have fr : ∀ b, N ≤ b → b < N + 4 → w7.frozen? ⟨b, 0, none⟩ = false := fun b h1 h2 => (World.frozen?_of_block (a := ⟨b, 0, none⟩) (ht b h1 h2).1).trans (h.fro b h1 h2)
  obtain ⟨v0, hv0, _⟩ := h.out
  have c1 : w7.cell? ⟨N + 1, 0, none⟩ = some v0 := (cl (N + 1) (by omega) (by omega)).trans hv0
  have c3 : w7.cell? ⟨N + 3, 0, none⟩ = some (.bool false) := (cl (N + 3) (by omega) (by omega)).trans h.end_
  have ne : ∀ (b c : Nat), b ≠ c → (⟨b, 0, none⟩ : Addr) ≠ ⟨c, 0, none⟩ := fun b c hbc e => hbc (congrArg Addr.block e)
  have gs : ∀ b, Goes uT T7 w7 T7 ((w7.setCell ⟨N + 1, 0, none⟩ v).setCell ⟨N + 3, 0, none⟩ (.bool b)) := fun b => (Goes.setCell (t := uT) (T := T7) (p := N + 1) (.inr (ht (N + 1) (by omega) (by omega)).2)).trans (Goes.setCell (t := uT) (T := T7) (p := N + 3) (.inr (ht (N + 3) (by omega) (by omega)).2))
  have g8 : ∀ b, Goes (· = 8) T7 w7 T7 ((w7.setCell ⟨N + 1, 0, none⟩ v).setCell ⟨N + 3, 0, none⟩ (.bool b)) := fun b => (Goes.setCell (t := (· = 8)) (T := T7) (p := N + 1) (ht (N + 1) (by omega) (by omega)).2).trans (Goes.setCell (t := (· = 8)) (T := T7) (p := N + 3) (ht (N + 3) (by omega) (by omega)).2)
  refine ⟨(cl N (by omega) (by omega)).trans h.num, ⟨v0, c1⟩, c3, fr _ (by omega) (by omega), fr _ (by omega) (by omega), fun b => ?_, fun b => ?_⟩
  · refine ⟨fun q h1 h2 => ⟨(ht q h1 h2).2, ?_⟩, ?_, ⟨v, ?_, ho.goes (g8 b) (by omega)⟩, ?_, ?_, fun q h1 h2 => ?_⟩
    · have := (h.tags q h1 h2).2; have := hg.size; simp; omega
    · rw [World.cell?_setCell_other _ ⟨N + 3, 0, none⟩ ⟨N, 0, none⟩ _ (ne _ _ (by omega)), World.cell?_setCell_other _ ⟨N + 1, 0, none⟩ ⟨N, 0, none⟩ _ (ne _ _ (by omega)), cl N (by omega) (by omega)]; exact h.num
    · rw [World.cell?_setCell_other _ ⟨N + 3, 0, none⟩ ⟨N + 1, 0, none⟩ _ (ne _ _ (by omega))]
      exact World.cell?_setCell_same _ _ _ c1
    · rw [World.cell?_setCell_other _ ⟨N + 3, 0, none⟩ ⟨N + 2, 0, none⟩ _ (ne _ _ (by omega)), World.cell?_setCell_other _ ⟨N + 1, 0, none⟩ ⟨N + 2, 0, none⟩ _ (ne _ _ (by omega)), cl (N + 2) (by omega) (by omega)]; exact h.well
    · refine World.cell?_setCell_same _ _ _ (u := .bool false) ?_
      rw [World.cell?_setCell_other _ ⟨N + 1, 0, none⟩ ⟨N + 3, 0, none⟩ _ (ne _ _ (by omega))]; exact c3
    · rw [World.frozen?_setCell, World.frozen?_setCell]; exact fr q h1 h2
  · exact (hg.mono fun x hx => .inl hx).trans (gs b)
theorem undE5 : Tryz.prog.underlying 23 = some (.slice 61) := by kernel_rfl

theorem isE_new5 {w : World} {x : En} {u : TypeId} : IsE (w.alloc (.cells #[.string x.1, .int .u64 x.2.1, .bool x.2.2.1, .string x.2.2.2] u)) (some ⟨w.heap.size, 0, none⟩) [x] := by
  refine IsE.of ⟨by simp, fun i z hz => ?_⟩
  cases i with
  | zero => simp at hz; subst hz; refine ⟨?_, ?_, ?_, ?_⟩ <;> (rw [World.cell?_alloc_at _ _ _ _ rfl]; rfl)
  | succ i => simp at hz

set_option maxHeartbeats 1000000 in
theorem takenc_any (T : Nat → Nat) (w : World) (N : Nat) (nn : Int) (l : List En) (e : En) (h : Tk T w N nn false l) (hlen : l.length < 2932031007402) (hz : ∀ b, w.heap.size ≤ b → T b = 0) :
    Calls Tryz.prog 43 #[.agg #[.string e.1, .int .u64 e.2.1, .bool e.2.2.1, .string e.2.2.2], .pointer (some ⟨N + 3, 0, none⟩), .pointer (some ⟨N + 2, 0, none⟩), .pointer (some ⟨N + 1, 0, none⟩), .pointer (some ⟨N, 0, none⟩)] w fun r w' => r = .returned (.bool (!decide ((l.length : Int) + 1 = nn))) ∧ ∃ T', Tk T' w' N nn (decide ((l.length : Int) + 1 = nn)) (l ++ [e]) ∧ Goes uT T w T' w' ∧ (∀ b, w'.heap.size ≤ b → T' b = 0) ∧ KeepsOthers w w' := by
  obtain ⟨ek, es, ed, ev⟩ := e
  dsimp only
  obtain ⟨i0, hi0, hz0, hz1, hz2⟩ := info_parts infoE
  have HB1 : Hid (Below w.heap.size w (w.alloc (.cells #[.string ek, .int .u64 es, .bool ed, .string ev] 61))) := (Below.refl _ _).alloc (Nat.le_refl _) _
  have HK0 : Hid (KeepsOthers w (w.alloc (.cells #[.string ek, .int .u64 es, .bool ed, .string ev] 61))) := KeepsOthers.alloc _ _
  have HK1 : Hid (Tk T (w.alloc (.cells #[.string ek, .int .u64 es, .bool ed, .string ev] 61)) N nn false l) := h.below HB1.out
  have g1 : (w.alloc (.cells #[.string ek, .int .u64 es, .bool ed, .string ev] 61)).heap[w.heap.size]? = some (.cells #[.string ek, .int .u64 es, .bool ed, .string ev] 61) := World.alloc_heap_new _ _
  have hs1 : (w.alloc (.cells #[.string ek, .int .u64 es, .bool ed, .string ev] 61)).heap.size = w.heap.size + 1 := by simp
  clear h
  go_enter Tryz.func43, Tryz.ntmps43
  generalize hW1 : w.alloc (.cells #[.string ek, .int .u64 es, .bool ed, .string ev] 61) = W1 at *
  have b0 : W1.cell? ⟨w.heap.size, 0, none⟩ = some (.string ek) := by rw [cell_of_obj g1]; rfl
  have b1 : W1.cell? ⟨w.heap.size, 1, none⟩ = some (.int .u64 es) := by rw [cell_of_obj g1]; rfl
  have b2 : W1.cell? ⟨w.heap.size, 2, none⟩ = some (.bool ed) := by rw [cell_of_obj g1]; rfl
  have b3 : W1.cell? ⟨w.heap.size, 3, none⟩ = some (.string ev) := by rw [cell_of_obj g1]; rfl
  have k3 := HK1.out.end_
  obtain ⟨v, k1, ho⟩ := HK1.out.out
  obtain ⟨a, c, rfl, hi, hcap, hnil⟩ := ho.form
  have HO : Hid (OwnE 7 T W1 (.slice a l.length c) l) := ho
  have HHZ : Hid (∀ b, w.heap.size ≤ b → T b = 0) := hz
  have HS1 : Hid (W1.heap.size = w.heap.size + 1) := hs1
  have HBA : Hid (Below W1.heap.size W1 (W1.alloc (.cells #[.string ek, .int .u64 es, .bool ed, .string ev] 61))) := (Below.refl _ _).alloc (Nat.le_refl _) _
  have hl2 : (l.length : Int) ≤ 2932031007402 := by omega
  clear ho g1 hz hi hcap hnil hs1
  go_wp2_with (at_builtin; go_loud (refine wpList_appEg _ (by rfl) (.tmp 8) (.tmp 10) 23 (by rfl) i0 undE5 hi0 hz0 hz1 hz2 7 T (.slice a l.length c) l (by rfl) (HO.out.below HBA.out) (some ⟨W1.heap.size, 0, none⟩) 1 1 [(ek, es, ed, ev)] (by rfl) (by rfl) (by simp) isE_new5 (by simp; omega) ?_; intro a7 c7 T7 w7 hown7 hgo7 hgr7 hat7; simp only [List.length_cons, List.length_nil, Nat.zero_add] at hown7 ⊢; have hg' : Goes (· = 7) T W1 T7 w7 := (Goes.below HBA.out).trans hgo7; obtain ⟨hq1, ⟨u7, hq2⟩, hq3, hq4, hq5, hq6, hq7⟩ := takenc_mid HK1.out hg' hown7; have HQ : Hid (∀ b, Tk T7 ((w7.setCell ⟨N + 1, 0, none⟩ (.slice a7 (l.length + 1) c7)).setCell ⟨N + 3, 0, none⟩ (.bool b)) N nn b (l ++ [(ek, es, ed, ev)]) ∧ Goes uT T W1 T7 ((w7.setCell ⟨N + 1, 0, none⟩ (.slice a7 (l.length + 1) c7)).setCell ⟨N + 3, 0, none⟩ (.bool b))) := fun b => ⟨(hq6 b).out, (hq7 b).out⟩; have HKO : Hid (KeepsOthers w w7) := (HK0.out.trans (KeepsOthers.alloc _ _)).trans (KeepsOthers.of_grownBy hgr7 (fun j o ej hj => by obtain ⟨cur, tt, hc⟩ := OwnE.cells (HO.out.below HBA.out) ej; rw [hc] at hj; cases hj; rfl)); clear hown7 hgo7 hat7 hgr7 hg' hq6 hq7))
  go_ret
  refine ⟨rfl, T7, (HQ.out _).1, (Goes.below HB1.out).trans (HQ.out _).2, fun b hb => (HQ.out _).2.high b hb (HHZ.out b ?_), (HKO.out.trans (KeepsOthers.setCell _ _ _)).trans (KeepsOthers.setCell _ _ _)⟩
  have h1 := (HQ.out ((l.length : Int) + 1 == nn)).2.size
  have h2 := HS1.out
  omega
end Sk
end Go.Proofs.YtdflepndhemfgaaGreatDoor
