import Derived.Test.YtbloifnibgdeoaaDUnd
namespace Go.Proofs.Ytbloifnibgdeoaa
namespace Dsk
open Go.RowKit Go.Shelf Go.Maps Go.Sort Byt Laws
set_option linter.unusedVariables false
set_option maxRecDepth 100000
attribute [local go_sem] Oper.semAt_some

def undoAll {n : Nat} (l : List (Key × Nat)) (pre : List (Nat × OkC n)) : List (Key × Nat) := pre.foldl (fun l x => undo1 l x.2.1) l
theorem undoAll_snoc {n : Nat} (l : List (Key × Nat)) (pre : List (Nat × OkC n)) (x : Nat × OkC n) : undoAll l (pre ++ [x]) = undo1 (undoAll l pre) x.2.1 := by simp [undoAll]
theorem undoAll_len {n : Nat} (l : List (Key × Nat)) (pre : List (Nat × OkC n)) : (undoAll l pre).length ≤ l.length + 2 * pre.length := by
  induction pre generalizing l with
  | nil => simp [undoAll]
  | cons x r ih =>
    have h1 := ih (undo1 l x.2.1)
    have h2 := undo1_len l x.2.1
    have e : undoAll l (x :: r) = undoAll (undo1 l x.2.1) r := rfl
    rw [e]
    simp only [List.length_cons]
    omega
theorem pv_ptr (fb : Nat → Nat) (o : Option Nat) : ∃ z, pv fb o = .pointer z := by cases o <;> exact ⟨_, rfl⟩
theorem size0 {s : ByteArray} (h : s.size = 0) : s = ⟨#[]⟩ := by
  have : s.data = #[] := Array.eq_empty_of_size_eq_zero h
  cases s; simp_all

/-- What stands between two rounds of undo. -/
structure UndI {n : Nat} (w : World) (mb B0 : Nat) (fb : Nat → Nat) (l0 : List (Key × Nat)) (pre : List (Nat × OkC n)) (W : World) : Prop where
  map : ∃ n' D', W.ownsMap Try.prog 9 ptrR mb n' D' ∧ DirIs D' fb (undoAll l0 pre)
  box : W.cell? ⟨B0, 0, none⟩ = some (.map (some mb))
  keep : Keep [mb] w W
theorem UndI.own {n : Nat} {w : World} {mb B0 : Nat} {fb : Nat → Nat} {l0 : List (Key × Nat)} {B : Nat} (hm : mb < B) (hB : w.heap.size ≤ B) : OwnFrom B (UndI (n := n) w mb B0 fb l0) := fun s X Y row hs hg hr => by
  obtain ⟨n', D', h1, h2⟩ := hs.map
  refine ⟨⟨n', D', h1.kept hg (fun e => by have := (hr mb e.symm).1; omega), h2⟩, cell_kept hs.box hg (fun r e => (hr r e).2), ?_⟩
  exact ⟨hg.os.trans hs.keep.os, hg.tape.trans hs.keep.tape, hg.output.trans hs.keep.output, Nat.le_trans hs.keep.size hg.size, fun k hk hn => (hg.block k (Nat.lt_of_lt_of_le hk hs.keep.size) (fun e => by have := (hr k e.symm).1; omega)).trans (hs.keep.block k hk hn)⟩

theorem UndI.below {n : Nat} {w : World} {mb B0 : Nat} {fb : Nat → Nat} {l0 : List (Key × Nat)} {pre : List (Nat × OkC n)} {W W' : World} (h : UndI w mb B0 fb l0 pre W) (hb : Below W.heap.size W W') (hm : mb < W.heap.size) (hB : B0 < W.heap.size) : UndI w mb B0 fb l0 pre W' := by
  obtain ⟨n', D', ⟨es, clock, h1, h2⟩, h3⟩ := h.map
  exact ⟨⟨n', D', ⟨es, clock, (hb.block mb hm).trans h1, h2⟩, h3⟩, (hb.cell (p := ⟨B0, 0, none⟩) hB).trans h.box, h.keep.trans (Keep.below hb)⟩
set_option maxHeartbeats 4000000 in
theorem undo_in {w : World} {mb n0 : Nat} {fb : Nat → Nat} {l : List (Key × Nat)} {D : DataW (Option Addr)} (ho : w.ownsMap Try.prog 9 ptrR mb n0 D) (hd : DirIs D fb l) {m : Nat} (v : Value) (ps : List (Nat × OkC m)) (hps : ∀ (j : Nat) (x : Nat × OkC m), ps[j]? = some x → x.1 = j) (b : Nat) (hb : b < w.heap.size) (hbm : b ≠ mb) (hlen : ps.length ≤ 1000000) (hI : ChgS fb w v ps b) (hl : l.length ≤ 536870912) :
    CallsIn Fence.wide 6 Try.prog 52 #[.map (some mb), v] w fun e w' => e = .returned (.tuple #[]) ∧ (∃ n' D', w'.ownsMap Try.prog 9 ptrR mb n' D' ∧ DirIs D' fb (undoAll l ps.reverse)) ∧ Keep [mb] w w' := by
  have hmlt := ho.lt
  obtain ⟨a, len, cap, rfl⟩ : ∃ a len cap, v = .slice a len cap := by
    rcases hI with ⟨rfl, _⟩ | ⟨off, cap, rfl, _⟩
    · exact ⟨_, _, _, rfl⟩
    · exact ⟨_, _, _, rfl⟩
  refine callsIn_of_wp_marks Try.func52 rfl trivial ?_ rfl
  simp only [Try.ntmps52, List.size_toArray, List.length_cons, List.length_nil, Nat.reduceAdd, Nat.reduceSub, Array.replicate_succ, Array.replicate_zero, List.push_toArray, List.append_toArray, List.nil_append, List.cons_append]
  have hfB : Fence.wide.fn 79 := trivial
  have HO : Hid (w.ownsMap Try.prog 9 ptrR mb n0 D) := ho
  have HD : Hid (DirIs D fb l) := hd
  have HI : Hid (ChgS fb w (.slice a len cap) ps b) := hI
  have HPS : Hid (∀ (j : Nat) (x : Nat × OkC m), ps[j]? = some x → x.1 = j) := hps
  clear ho hd hI hps
  gi_wp2_with (gi_at_call 79; refine (back_in _ _ _ _ _).mono ?_; rintro e w' ⟨rfl, rfl⟩)
  have hB0 : Below w.heap.size w ((w.alloc (.cells #[.map (some mb)] 82)).alloc (.cells #[.slice a len cap] 83)) := ((Below.refl _ w).alloc (Nat.le_refl _) _).alloc (by simp) _
  have hsz : ((w.alloc (.cells #[.map (some mb)] 82)).alloc (.cells #[.slice a len cap] 83)).heap.size = w.heap.size + 2 := by simp
  have bx : ((w.alloc (.cells #[.map (some mb)] 82)).alloc (.cells #[.slice a len cap] 83)).cell? ⟨w.heap.size, 0, none⟩ = some (.map (some mb)) := by
    rw [World.cell?_of_block (Below.heap_alloc _ _ _ (by simp)), World.cell?_alloc_at _ _ _ _ rfl]; rfl
  have bs : ((w.alloc (.cells #[.map (some mb)] 82)).alloc (.cells #[.slice a len cap] 83)).cell? ⟨w.heap.size + 1, 0, none⟩ = some (.slice a len cap) := by
    rw [World.cell?_alloc_at _ _ _ _ (by simp)]; rfl
  obtain ⟨W0, hW0⟩ : ∃ W0, (w.alloc (.cells #[.map (some mb)] 82)).alloc (.cells #[.slice a len cap] 83) = W0 := ⟨_, rfl⟩
  rw [hW0] at hB0 hsz bx bs ⊢
  clear hW0
  have hI0 : ChgS fb W0 (.slice a len cap) ps b := by
    rcases HI.out with h | ⟨off, cap', h1, h2, h3⟩
    · exact .inl h
    · exact .inr ⟨off, cap', h1, h2, h3.kp (Bs := 0) (hB0.block b hb)⟩
  have hmap0 : W0.ownsMap Try.prog 9 ptrR mb n0 D := by
    obtain ⟨es, clock, h1, h2⟩ := HO.out
    exact ⟨es, clock, (hB0.block mb hmlt).trans h1, h2⟩
  refine wpIn_rangeFunc_ownH rfl (by decide) (gf := 87) (lb := #[.pointer (some ⟨w.heap.size + 1, 0, none⟩)]) rfl trivial (enters_of Try.func87 (by kernel_rfl) rfl)
    (back_stops fb (6 - 1) (by decide) (w.heap.size + 1) b (.slice a len cap) ps HPS.out hlen W0 (by omega) (by omega) bs hI0) KpC.trans
    (fun W l o o' hl h _ _ => ?kb) (Below.refl _ _) (fun _ => rfl)
    (UndI W0 mb w.heap.size fb l) (fun _ _ _ => False) (UndI.own (by omega) (Nat.le_refl _)) (fun _ _ _ _ _ hs _ _ => hs)
    ⟨⟨n0, D, hmap0, HD.out⟩, bx, Keep.refl _ _⟩
    (fun x a' W => ∃ Bx, W0.heap.size ≤ Bx ∧ (W.cell? ⟨Bx, 0, none⟩ = some (.string x.2.1.name) ∧ W.cell? ⟨Bx, 1, none⟩ = some (pv fb x.2.1.was) ∧ W.cell? ⟨Bx, 2, none⟩ = some (.string x.2.1.to) ∧ W.cell? ⟨Bx, 3, none⟩ = some (pv fb x.2.1.over)) ∧
      a' = { tmps := #[.map (some mb), .slice a len cap, .pointer (some ⟨w.heap.size, 0, none⟩), undef, undef, .pointer (some ⟨Bx, 0, none⟩), .slice a len cap, .func (.func 87) #[] #[.pointer (some ⟨w.heap.size + 1, 0, none⟩)], .int .i64 (x.1 : Int), chgV fb x.2.1, undef, undef, undef, undef, undef, undef, undef, undef, undef, undef, undef, undef, undef, undef, undef], defers := [] })
    (fun x a' _ X Y row hs hg hr => ?ax) ?assign ?body ?done ?stop
  case kb =>
    have e : ∀ k, k < W0.heap.size → (W.putObj l o').heap[k]? = W.heap[k]? := fun k hk => (grownBy_putObj' W l o').block k (by have := (Array.getElem?_eq_some_iff.1 h).1; omega) (fun e => by cases e; omega)
    exact ⟨e b (by omega), e _ (by omega)⟩
  case ax =>
    obtain ⟨Bx, h1, ⟨h2, h3, h4, h5⟩, h6⟩ := hs
    have hr' : ∀ r, row = some r → ∃ o : Obj, X.heap[r]? = some o ∧ o.isCells = false := fun r e => (hr r e).2
    exact ⟨Bx, h1, ⟨cell_kept h2 hg hr', cell_kept h3 hg hr', cell_kept h4 hg hr', cell_kept h5 hg hr'⟩, h6⟩
  case assign =>
    rintro l1 pre x W K hi hK
    obtain ⟨z1, hz1⟩ := pv_ptr fb x.2.1.was
    obtain ⟨z2, hz2⟩ := pv_ptr fb x.2.1.over
    simp only [encC, chgV, hz1, hz2] at hK ⊢
    have HI1 : Hid (UndI W0 mb w.heap.size fb l pre W) := hi
    have hsW := hi.keep.size
    clear hi
    gi_wp2
    have hbA : Below W.heap.size W (W.alloc (.cells #[.string x.2.1.name, .pointer z1, .string x.2.1.to, .pointer z2] 112)) := (Below.refl _ _).alloc (Nat.le_refl _) _
    refine hK _ _ ((KeepsOthers.alloc _ _).from _) ⟨hbA.block b (by omega), hbA.block _ (by omega)⟩ (HI1.out.below hbA (by omega) (by omega)) ⟨W.heap.size, hsW, ⟨?_, ?_, ?_, ?_⟩, rfl⟩
    all_goals (rw [World.cell?_alloc_at _ _ _ _ rfl]; rfl)
  case body =>
    rintro l1 pre x a' W hl1 ⟨r, hr⟩ hi ⟨Bx, hBx, ⟨c0, c1, c2, c3⟩, rfl⟩ hlt
    obtain ⟨⟨n1, D1, ho1, hd1⟩, hbox, hkeep⟩ := hi
    have hsW := hkeep.size
    have h1' : 1 ≤ 6 - 1 - 1 := by decide
    have hfP : Fence.wide.fn 80 := trivial
    have hok := x.2.2
    have hll : (undoAll l pre).length < 536870912 + 2000000 := by have := undoAll_len l pre; omega
    have HO1 : Hid (W.ownsMap Try.prog 9 ptrR mb n1 D1) := ho1
    have HD1 : Hid (DirIs D1 fb (undoAll l pre)) := hd1
    have HKE : Hid (Keep [mb] W0 W) := hkeep
    have HOK : Hid (okCh m x.2.1) := hok
    clear ho1 hd1 hkeep hok
    by_cases hto : x.2.1.to.toList.isEmpty = true
    · have HTE : Hid (x.2.1.to.toList.isEmpty = true) := hto
      gi_wp2
      refine (CallsIn.inRound l1 (callsIn_wide.2 (put_any HO1.out HD1.out x.2.1.name HOK.out.1 x.2.1.was (by omega)))).mono ?_
      rintro e W3 ⟨rfl, ⟨n3, D3, ho3, hd3⟩, hg3⟩
      have H3 : Hid (UndI W0 mb w.heap.size fb l (pre ++ [x]) W3 ∧ W.grownBy W3 (some mb)) := by
        refine ⟨⟨⟨n3, D3, ho3, ?_⟩, ?_, HKE.out.trans (Keep.grown hg3)⟩, hg3⟩
        · rw [undoAll_snoc]
          unfold undo1
          rw [if_pos HTE.out]
          exact hd3
        · exact (World.cell?_of_block (a := ⟨w.heap.size, 0, none⟩) (hg3.block w.heap.size (by omega) (fun e => by cases e; omega))).trans hbox
      clear ho3 hd3 hg3
      gi_wp2
      exact ⟨KeepsFrom.of_grownBy H3.out.2 (fun j e => by cases e; omega), ⟨H3.out.2.block b (by omega) (fun e => hbm (by cases e; rfl)), H3.out.2.block _ (by omega) (fun e => by cases e; omega)⟩, H3.out.1⟩
    · have hto2 : x.2.1.to.toList.isEmpty = false := by simpa using hto
      have HTO : Hid (¬ x.2.1.to.toList.isEmpty = true) := hto
      clear hto
      gi_wp2
      refine (CallsIn.inRound l1 (callsIn_wide.2 (put_any HO1.out HD1.out x.2.1.to HOK.out.2.1 x.2.1.over (by omega)))).mono ?_
      rintro e W2 ⟨rfl, ⟨n2, D2, ho2, hd2⟩, hg2⟩
      have H2 : Hid (W2.ownsMap Try.prog 9 ptrR mb n2 D2 ∧ DirIs D2 fb (putD (undoAll l pre) (ky x.2.1.to) x.2.1.over) ∧ W.grownBy W2 (some mb)) := ⟨ho2, hd2, hg2⟩
      have hBl : Bx < W.heap.size := World.block_lt_of_cell? W _ c0
      have c0' : W2.cell? ⟨Bx, 0, none⟩ = some (.string x.2.1.name) := (World.cell?_of_block (a := ⟨Bx, 0, none⟩) (hg2.block Bx hBl (fun e => by cases e; omega))).trans c0
      have c1' : W2.cell? ⟨Bx, 1, none⟩ = some (pv fb x.2.1.was) := (World.cell?_of_block (a := ⟨Bx, 1, none⟩) (hg2.block Bx hBl (fun e => by cases e; omega))).trans c1
      have hbox2 : W2.cell? ⟨w.heap.size, 0, none⟩ = some (.map (some mb)) := (World.cell?_of_block (a := ⟨w.heap.size, 0, none⟩) (hg2.block w.heap.size (by omega) (fun e => by cases e; omega))).trans hbox
      have hs2 := hg2.size
      have hl2 := putD_len (undoAll l pre) (ky x.2.1.to) x.2.1.over
      clear ho2 hd2 hg2 c0 c1 c2 c3
      gi_wp2
      refine (CallsIn.inRound l1 (callsIn_wide.2 (put_any H2.out.1 H2.out.2.1 x.2.1.name HOK.out.1 x.2.1.was (by omega)))).mono ?_
      rintro e W3 ⟨rfl, ⟨n3, D3, ho3, hd3⟩, hg3⟩
      have hg23 : W.grownBy W3 (some mb) := H2.out.2.2.trans hg3
      have H3 : Hid (UndI W0 mb w.heap.size fb l (pre ++ [x]) W3 ∧ W.grownBy W3 (some mb)) := by
        refine ⟨⟨⟨n3, D3, ho3, ?_⟩, ?_, HKE.out.trans (Keep.grown hg23)⟩, hg23⟩
        · rw [undoAll_snoc]
          unfold undo1
          rw [if_neg HTO.out]
          exact hd3
        · exact (World.cell?_of_block (a := ⟨w.heap.size, 0, none⟩) (hg3.block w.heap.size (by omega) (fun e => by cases e; omega))).trans hbox2
      clear ho3 hd3 hg3 hg23
      gi_wp2
      exact ⟨KeepsFrom.of_grownBy H3.out.2 (fun j e => by cases e; omega), ⟨H3.out.2.block b (by omega) (fun e => hbm (by cases e; rfl)), H3.out.2.block _ (by omega) (fun e => by cases e; omega)⟩, H3.out.1⟩
  case done =>
    rintro D9 ys W hD rfl hi hK
    obtain ⟨⟨n1, D1, ho1, hd1⟩, hbox, hkeep⟩ := hi
    gi_wp2
    refine ⟨by simp, .inl ⟨_, _, rfl, run_takeDeferred hK, ?_⟩⟩
    have gp := grownBy_putObj' W D9 (.deferred none)
    have hk2 := (Keep.below (bs := [mb]) hB0).trans hkeep
    have hsW := hk2.size
    exact ⟨_, results_none rfl _ _ _, rfl, ⟨n1, D1, ho1.kept gp (fun e => by cases e; omega), hd1⟩, ⟨gp.os.trans hk2.os, gp.tape.trans hk2.tape, gp.output.trans hk2.output, Nat.le_trans hk2.size gp.size, fun k hk hn => (gp.block k (by omega) (fun e => by cases e; omega)).trans (hk2.block k hk hn)⟩⟩
  case stop =>
    rintro D c pre W _ _ h _
    exact h.elim
theorem undo_any {w : World} {mb n0 : Nat} {fb : Nat → Nat} {l : List (Key × Nat)} {D : DataW (Option Addr)} (ho : w.ownsMap Try.prog 9 ptrR mb n0 D) (hd : DirIs D fb l) {m : Nat} (v : Value) (ps : List (Nat × OkC m)) (hps : ∀ (j : Nat) (x : Nat × OkC m), ps[j]? = some x → x.1 = j) (b : Nat) (hb : b < w.heap.size) (hbm : b ≠ mb) (hlen : ps.length ≤ 1000000) (hI : ChgS fb w v ps b) (hl : l.length ≤ 536870912) :
    Calls Try.prog 52 #[.map (some mb), v] w fun e w' => e = .returned (.tuple #[]) ∧ (∃ n' D', w'.ownsMap Try.prog 9 ptrR mb n' D' ∧ DirIs D' fb (undoAll l ps.reverse)) ∧ Keep [mb] w w' :=
  (callsIn_wide (n := 6)).1 (undo_in ho hd v ps hps b hb hbm hlen hI hl)
end Dsk
end Go.Proofs.Ytbloifnibgdeoaa
