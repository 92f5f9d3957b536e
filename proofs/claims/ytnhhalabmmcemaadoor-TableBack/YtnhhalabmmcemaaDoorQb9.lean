import Derived.Test.YtnhhalabmmcemaaDoorQb5
import Derived.Test.YtnhhalabmmcemaaDoorSum
import Derived.Laws.CopyOwn
namespace Go.Proofs.YtnhhalabmmcemaaDoor
namespace Qb
open Go.RowKit CMath Byt Laws Irw Crw Cod
set_option linter.unusedVariables false
set_option linter.unusedSimpArgs false
set_option maxRecDepth 20000

theorem info1 : (Tryd.prog.info? 5).map (·.size) = some 1 := by kernel_rfl
/-- A row that is known whole is one's own. -/
theorem own_of_heap {w : World} {g N n : Nat} {l : List Nat} {Z : List Value} (hg : w.heap[g]? = some (.cells (cellsB l ++ Z).toArray 5 (0, 0))) (hn : n = l.length) (hN : N = (cellsB l ++ Z).length) (hm : N ≤ maxLen) (hl : ∀ x ∈ l, x < 256) (t : Nat) (T : Nat → Nat) (ht : T g = t) : OwnB t T w (.slice (some ⟨g, 0, none⟩) n N) l := by
  subst hn
  refine ⟨⟨⟨?_, .inr ⟨g, N, (cellsB l ++ Z).toArray, rfl, Nat.zero_le _, hg, ?_, hm, ?_, ?_⟩⟩, fun g' e => ?_⟩, hl⟩
  · rw [k8_cells, cellsB_length]; show _ = _ * 1; omega
  · rw [hN, List.length_append, cellsB_length]; omega
  · show _ = N * 1
    rw [hN]; simp
  · show List.take (l.length * 1) _ = _
    rw [k8_cells, Nat.mul_one]
    have : l.length = (cellsB l).length := (cellsB_length l).symm
    rw [this]
    exact List.take_left
  · simp [Value.ownBlock] at e
    subst e; exact ht
theorem own_from {base : Nat} {T : Nat → Nat} {w : World} {v : Value} {l : List Nat} (h : OwnB 1 T w v l) (hl : 0 < l.length) (hT : ∀ b, b < base → T b = 0) : Own 5 base w v l := by
  have hr := h.row
  rcases hr.2 with ⟨_, h2⟩ | ⟨g, c, cur, hv, _, hg⟩
  · omega
  · have htag := h.own.2 g (by rw [hv]; rfl)
    have hge : base ≤ g := by
      rcases Nat.lt_or_ge g base with hlt | hge
      · rw [hT g hlt] at htag; omega
      · exact hge
    exact ⟨g, c, hv, ⟨hr.1, .inr ⟨g, c, cur, hv, hge, hg⟩⟩, h.byte⟩
theorem splice_all (Z : List Value) (c : List Value) (h : c.length ≤ Z.length) : splice Z 0 c = c ++ Z.drop c.length := by
  unfold splice; simp
theorem splice_next (c Z d : List Value) : splice (c ++ Z) c.length d = c ++ (d ++ Z.drop d.length) := by
  unfold splice
  rw [List.take_left, List.drop_append, List.drop_eq_nil_of_le (by omega)]
  simp
theorem whole {w : World} {base G N : Nat} {Z : List Value} (h : w.ownsRow base 5 1 (.slice (some ⟨G, 0, none⟩) N N) N Z) : w.heap[G]? = some (.cells Z.toArray 5 (0, 0)) ∧ Z.length = N := by
  have hl : Z.length = N := by have := h.1; omega
  refine ⟨?_, hl⟩
  rcases h.2 with ⟨e, _⟩ | ⟨g, c, cur, e, _, hg, _, _, hs, htk⟩
  · cases e
  · cases e
    rw [hg]
    have : cur.toList = Z := by
      rw [← htk, List.take_of_length_le]
      simp
      omega
    rw [← this]
theorem src_of {w : World} {a : Option Addr} {l : List Nat} {C : List Value} (h : IsB w a l) (hC : C = cellsB l) (h0 : 0 < C.length) : ∃ ad, a = some ad ∧ ∀ j v, C[j]? = some v → w.cell? (ad.add j) = some v := by
  subst hC
  rw [cellsB_length] at h0
  obtain ⟨b, off, e, _⟩ := h.1 (by rintro rfl; simp at h0)
  exact ⟨_, e, news_of h _ e⟩
set_option maxHeartbeats 2000000 in
theorem bytes_any (t : Nat) (T : Nat → Nat) (w : World) (M : Nat) (r : Int) (S : St) (p : MakerAt t T w M r S) (ht : Tab w) (hb : S.b.length ≤ 4000000000) (hp : S.p.length ≤ 4000000000) :
    Calls Tryd.prog 38 #[.pointer (some ⟨M, 0, none⟩)] w fun e w' => ∃ v, e = .returned v ∧ Own 5 w.heap.size w' v (blk S) ∧ Below w.heap.size w w' := by
  obtain ⟨i8, hi, hz0, hz1, hz2⟩ := info_parts info8'
  obtain ⟨a3, c3, a4, c4, m3, ho3, m4, ho4⟩ := p.form
  obtain ⟨_, _, e3, hb3, _⟩ := ho3.form
  obtain ⟨_, _, e4, hb4, _⟩ := ho4.form
  cases e3
  cases e4
  have HP : Hid (MakerAt t T w M r S) := p
  have HB3 : Hid (IsB w a3 S.b) := hb3
  have HB4 : Hid (IsB w a4 S.p) := hb4
  have HT : Hid (Tab w) := ht
  have hlt := p.lt
  clear p hb3 hb4 ht ho3 ho4
  obtain ⟨B, hB⟩ : ∃ B, B = S.b.length := ⟨_, rfl⟩
  obtain ⟨P, hP⟩ : ∃ P, P = S.p.length := ⟨_, rfl⟩
  rw [← hB] at hb m3
  rw [← hP] at hp m4
  have HBL : Hid (B = S.b.length ∧ P = S.p.length) := ⟨hB, hP⟩
  obtain ⟨C1, hC1⟩ : ∃ C1, C1 = cellsB S.b := ⟨_, rfl⟩
  obtain ⟨C2, hC2⟩ : ∃ C2, C2 = cellsB S.p := ⟨_, rfl⟩
  have HC : Hid (C1 = cellsB S.b ∧ C2 = cellsB S.p ∧ C1.length = B ∧ C2.length = P) := ⟨hC1, hC2, by rw [hC1, cellsB_length, hB], by rw [hC2, cellsB_length, hP]⟩
  have HSZ : Hid (Calls Tryd.prog 36 #[.pointer (some ⟨M, 0, none⟩)] w fun e w' => e = .returned (.int .i64 ((B + P + 8 : Nat) : Int)) ∧ ∃ n, w' = w.drewN n) := by
    have := size_any t T w M r S HP.out (by omega) (by omega)
    rw [← hB, ← hP] at this
    exact this
  clear hB hP hC1 hC2
  obtain ⟨N, hN⟩ : ∃ N, N = B + P + 8 := ⟨_, rfl⟩
  rw [← hN] at HSZ
  have HN : Hid (N = B + P + 8) := hN
  have qN : (N : Int) ≤ 8000000008 := by omega
  have qB : (B : Int) < (N : Int) := by omega
  have qBP : (B : Int) + (P : Int) < (N : Int) := by omega
  clear hN
  obtain ⟨Z, hZ⟩ : ∃ Z, Z = (madeCells (Value.int .u8 0).cells (N * 1)).toList := ⟨_, rfl⟩
  have HZ : Hid (Z = (madeCells (Value.int .u8 0).cells (N * 1)).toList) := hZ
  clear hZ
  go_enter Tryd.func38, Tryd.ntmps38
  go_wp2_with (first
    | (go_at_call 36; refine HSZ.out.mono ?_; rintro e w0 ⟨rfl, q, hq⟩; have HB0 : Hid (Below w.heap.size w w0) := (by rw [hq]; exact below_drewN (Below.refl _ _) _); clear hq)
    | (at_make; go_loud (refine wpList_make_full _ (by rfl) (.tmp 6) (.tmp 6) 25 (by rfl) w.heap.size 5 i8 _ 1 Tryd.underlying25 hi hz0 hz1 .i64 .i64 (N : Int) (N : Int) N (by rfl) (by rfl) rfl rfl (by rw [hz2]; omega) (by unfold maxLen; omega) HB0.out.size ?_; intro w1 hown1 hgr1; have HO1 : Hid (w1.ownsRow w.heap.size 5 1 (.slice (some ⟨w0.heap.size, 0, none⟩) N N) N Z) := (by rw [HZ.out]; exact hown1); have HB1 : Hid (Below w.heap.size w w1) := below_of HB0.out hgr1 (Nat.le_refl _) (by simp); clear hown1 hgr1; have hgs := HB0.out.size; obtain ⟨G, hG⟩ : ∃ G, G = w0.heap.size := ⟨_, rfl⟩; rw [← hG] at HO1 hgs ⊢; clear hG; have HG1 : Hid (w1.heap[G]? = some (.cells Z.toArray 5 (0, 0)) ∧ Z.length = N) := whole HO1.out; have m3' := (HB1.out.cell (p := ⟨M, 3, none⟩) hlt).trans m3))
    | ((refine wpList_copy_splice (by rfl) (.tmp 8) (.tmp 13) 25 25 (by rfl) 5 Tryd.underlying25 info1 (some ⟨G, 0, none⟩) a3 N N B c3 (by rfl) (by rfl) G 0 Z 5 HG1.out.1 C1 (by rw [HC.out.2.2.1]; exact (Nat.min_eq_left (by omega)).symm) (fun h0 => ⟨rfl, src_of (HB3.out.below HB1.out) HC.out.1 h0⟩) (by rw [HC.out.2.2.1, HG1.out.2]; omega) (by rw [HC.out.1]; exact cellsB_one _) w.heap.size w HB1.out hgs ?_; intro w2 hg2 hb2; have HG2 : Hid (w2.heap[G]? = some (.cells (splice Z 0 C1).toArray 5 (0, 0))) := hg2; have HB2 : Hid (Below w.heap.size w w2) := hb2; have m4' := (hb2.cell (p := ⟨M, 4, none⟩) hlt).trans m4; clear hg2 hb2)))
  rw [HC.out.2.2.1]
  have qb1 : B ≤ N := by omega
  have qb2 : ¬ N = B := by omega
  have qb3 : B + P ≤ N := by omega
  have qb4 : ¬ N = B + P := by omega
  have hg9 := HG1.out.2
  have hC2l : C2.length = P := HC.out.2.2.2
  have hwr : IntKind.i64.wrap ((B : Int) + (C2.length : Int)) = ((B + P : Nat) : Int) := by rw [hC2l, IntKind.wrap_i64]; omega
  have hwr2 : IntKind.i64.wrap ((B : Int) + (P : Int)) = ((B + P : Nat) : Int) := by rw [IntKind.wrap_i64]; omega
  go_region_law (first
    | (go_loud (refine step_copy_splice (by rfl) (.tmp 18) (.tmp 23) 25 25 (by rfl) 5 Tryd.underlying25 info1 (some ⟨G, B, none⟩) a4 (N - B) (N - B) P c4 (by simp [Act.eval, Act.put]) (by simp [Act.eval, Act.put]) G B (splice Z 0 C1) 5 HG2.out C2 (by rw [HC.out.2.2.2]; exact (Nat.min_eq_left (by omega)).symm) (fun h0 => ⟨rfl, src_of (HB4.out.below (HB2.out.drew)) HC.out.2.1 h0⟩) (by rw [length_splice _ _ _ (by rw [HC.out.2.2.1, HG1.out.2]; omega), HC.out.2.2.2, HG1.out.2]; omega) (by rw [HC.out.2.1]; exact cellsB_one _) w.heap.size w HB2.out.drew hgs ?_; intro w3 hg3 hb3; have HG3 : Hid (w3.heap[G]? = some (.cells (splice (splice Z 0 C1) B C2).toArray 5 (0, 0))) := hg3; have HB3' : Hid (Below w.heap.size w w3) := hb3; have m4'' := (hb3.cell (p := ⟨M, 4, none⟩) hlt).trans m4; clear hg3 hb3)))
  all_goals
    have HTG : Hid (OwnB 1 (fun b => if b = G then 1 else 0) w3.drew (.slice (some ⟨G, 0, none⟩) (B + P) N) (S.b ++ S.p)) := by
      refine own_of_heap (w := w3.drew) (l := S.b ++ S.p) (Z := (Z.drop B).drop P) ?_ (by rw [List.length_append, ← HBL.out.1, ← HBL.out.2]) ?_ (by unfold maxLen; omega) (byte_app HB3.out.2 HB4.out.2) 1 _ (by simp)
      · have := HG3.out
        rw [splice_all _ _ (by rw [HC.out.2.2.1, HG1.out.2]; omega), ← HC.out.2.2.1, splice_next, HC.out.2.2.1, HC.out.2.2.2, HC.out.1, HC.out.2.1] at this
        rw [cellsB_append, List.append_assoc]
        exact this
      · simp only [List.length_append, cellsB_length, List.length_drop, HG1.out.2, ← HBL.out.1, ← HBL.out.2]
        omega
    have HRS : Hid (Calls Tryd.prog 61 #[.pointer (some ⟨M, 3, none⟩)] w3.drew fun e w' => e = .returned (.int .i64 ((P / 4 : Nat) : Int)) ∧ w' = w3.drew) := restarts_any w3.drew M 3 a4 P c4 m4'' (by omega)
    have hw4 : IntKind.u32.wrap ((P / 4 : Nat) : Int) = ((P / 4 : Nat) : Int) := by rw [IntKind.wrap_u32]; omega
    have HPW : Hid (Calls Tryd.prog 60 #[.slice (some ⟨G, 0, none⟩) (B + P) N, .int .u32 ((P / 4 : Nat) : Int)] w3.drew fun e w' => ∃ a c T', e = .returned (.slice a (B + P + 4) c) ∧ OwnB 1 T' w' (.slice a (B + P + 4) c) (S.b ++ S.p ++ four (P / 4)) ∧ Goes (· = 1) (fun b => if b = G then 1 else 0) w3.drew T' w') := putWord_n 1 _ _ (S.b ++ S.p) (P / 4) w3.drew (B + P + 4) (by rw [List.length_append, ← HBL.out.1, ← HBL.out.2]) HTG.out (by omega) (by rw [List.length_append, ← HBL.out.1, ← HBL.out.2]; omega)
    clear HTG HG3 HG2 HG1 hwr hwr2 m4'
    generalize hP4 : P / 4 = P4 at *
    have HP4 : Hid (P / 4 = P4) := hP4
    clear hP4
    have s1 : (0 : Int) ≤ (B : Int) + (P : Int) := by omega
    have s2 : (B : Int) + (P : Int) ≤ (N : Int) := by omega
    have s3 : ((B : Int) + (P : Int)).toNat = B + P := by omega
    have s4 : (0 : Int) ≤ (B : Int) + (P : Int) ∧ (B : Int) + (P : Int) ≤ (N : Int) := ⟨s1, s2⟩
    go_wp2
    go_region_law (first
      | (go_simp; go_at_call 61; go_loud (refine HRS.out.mono ?_; rintro e w' ⟨rfl, hw⟩; have hw2 := hw.symm; clear hw; subst hw2))
      | (go_simp; go_at_call 60; go_loud (refine HPW.out.mono ?_; rintro e w5 ⟨a5, c5, T5, rfl, ho5, hg5⟩; have HO5 : Hid (OwnB 1 T5 w5 (.slice a5 (B + P + 4) c5) (S.b ++ S.p ++ four P4) ∧ Goes (· = 1) (fun b => if b = G then 1 else 0) w3.drew T5 w5) := ⟨ho5, hg5⟩; clear ho5 hg5)))
    all_goals
      have hG0 : G ≠ 0 := by have := HT.out.lt; omega
      have HTB : Hid (Tab w5) := by
        have h3 : Tab w3 := HT.out.below HB3'.out HT.out.lt
        exact h3.keep (HO5.out.2.block 0 h3.lt (by simp [Ne.symm hG0])) HO5.out.2.size
      have HBW5 : Hid (Below w.heap.size w w5) := ⟨HO5.out.2.os.trans HB3'.out.os, HO5.out.2.tape.trans HB3'.out.tape, HO5.out.2.output.trans HB3'.out.output, Nat.le_trans HB3'.out.size HO5.out.2.size, fun b hb => (HO5.out.2.block b (Nat.lt_of_lt_of_le hb HB3'.out.size) (by simp; omega)).trans (HB3'.out.block b hb)⟩
      have HTZ : Hid (∀ b, b < w.heap.size → T5 b = 0) := fun b hb => (HO5.out.2.tag b (Nat.lt_of_lt_of_le hb HB3'.out.size) (by simp; omega)).trans (by simp; omega)
      have HB0S : Hid (S.b ++ S.p ++ four P4 = blk0 S) := by show _ = _; rw [← HP4.out, HBL.out.2]; rfl
      rw [HB0S.out] at HO5
      have hb5 := HO5.out.1.form
      obtain ⟨a6, c6, e6, hi6, _⟩ := hb5
      have hlb : (blk0 S).length = B + P + 4 := by simp [blk0, ← HBL.out.1, ← HBL.out.2]; rfl
      have HCR : Hid (Calls Tryd.prog 43 #[.slice a5 (B + P + 4) c5] w5 fun e w' => e = .returned (.int .u32 ((crc (blk0 S) : Nat) : Int)) ∧ w' = w5) := by
        simp only [Value.slice.injEq] at e6
        obtain ⟨rfl, _, rfl⟩ := e6
        exact sum_any a5 c5 (B + P + 4) (blk0 S) w5 hi6 HTB.out (by omega) hlb.symm
      have hcl : crc (blk0 S) < 4294967296 := crc_lt _ HO5.out.1.byte
      have HPX : Hid (Calls Tryd.prog 60 #[.slice a5 (B + P + 4) c5, .int .u32 ((crc (blk0 S) : Nat) : Int)] w5 fun e w' => ∃ a c T', e = .returned (.slice a (B + P + 8) c) ∧ OwnB 1 T' w' (.slice a (B + P + 8) c) (blk0 S ++ four (crc (blk0 S))) ∧ Goes (· = 1) T5 w5 T' w') := putWord_n 1 T5 _ (blk0 S) (crc (blk0 S)) w5 (B + P + 8) (by omega) HO5.out.1 hcl (by omega)
      clear e6 hi6 HRS HPW
      have HBK : Hid (blk S = blk0 S ++ four (crc (blk0 S))) := rfl
      generalize crc (blk0 S) = cr at *
      go_wp2_with (first
        | (go_at_call 43; go_loud (refine HCR.out.mono ?_; rintro e w' ⟨rfl, hw⟩; have hw2 := hw.symm; clear hw; subst hw2))
        | (go_at_call 60; go_loud (refine HPX.out.mono ?_; rintro e w7 ⟨a7, c7, T7, rfl, ho7, hg7⟩; have HO7 : Hid (OwnB 1 T7 w7 (.slice a7 (B + P + 8) c7) (blk0 S ++ four cr) ∧ Goes (· = 1) T5 w5 T7 w7) := ⟨ho7, hg7⟩; clear ho7 hg7)))
      go_ret
      refine ⟨.slice a7 (B + P + 8) c7, rfl, ?_, ?_⟩
      · rw [HBK.out]
        refine own_from HO7.out.1 (by simp [four]) fun b hb => ?_
        exact (HO7.out.2.tag b (Nat.lt_of_lt_of_le hb HBW5.out.size) (by rw [HTZ.out b hb]; omega)).trans (HTZ.out b hb)
      · exact ⟨HO7.out.2.os.trans HBW5.out.os, HO7.out.2.tape.trans HBW5.out.tape, HO7.out.2.output.trans HBW5.out.output, Nat.le_trans HBW5.out.size HO7.out.2.size, fun b hb => (HO7.out.2.block b (Nat.lt_of_lt_of_le hb HBW5.out.size) (by rw [HTZ.out b hb]; omega)).trans (HBW5.out.block b hb)⟩

end Qb
end Go.Proofs.YtnhhalabmmcemaaDoor
