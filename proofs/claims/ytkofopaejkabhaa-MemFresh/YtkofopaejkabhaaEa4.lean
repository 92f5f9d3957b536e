import Derived.Test.YtkofopaejkabhaaEa3
namespace Go.Proofs.Ytkofopaejkabhaa
namespace Sk
open Go.RowKit Go.Shelf Laws Irw Erw KMath Skm Byt
set_option linter.unusedVariables false
set_option maxRecDepth 100000
set_option linter.unusedSimpArgs false

theorem tkT_lo9 {L : Nat} {ns : List Nd} {N b : Nat} (h : b < N) : ¬ u9 (tkT L ns N b) := by
  unfold tkT u9 uT
  rw [if_neg (by omega)]
  split <;> omega
theorem tkT_else {L : Nat} {ns : List Nd} {N b : Nat} (h : b < N) (hb : b ≠ L ∧ ∀ nd ∈ ns, nd.b ≠ b) : tkT L ns N b = 0 := by
  unfold tkT
  rw [if_neg (by omega), if_neg]
  rintro (h1 | ⟨nd, h1, h2⟩)
  · exact hb.1 h1
  · exact hb.2 nd h1 h2
set_option maxHeartbeats 1000000 in
theorem mtaken_some (nn : Int) (hnn : nn ≠ 0) (Bt Bk Bs M L : Nat) (k : ByteArray) (s : Int) (ns pre post : List Nd) (w : World) (hw : Wk w L k s ns pre post)
    (hBt : w.cell? ⟨Bt, 0, none⟩ = some (.pointer (some ⟨M, 0, none⟩))) (hM : w.cell? ⟨M, 0, none⟩ = some (.pointer (some ⟨L, 0, none⟩))) (hBk : w.cell? ⟨Bk, 0, none⟩ = some (.string k)) (hBs : w.cell? ⟨Bs, 0, none⟩ = some (.int .u64 s)) (hBsn : Bs ≠ L ∧ ∀ nd ∈ ns, nd.b ≠ Bs) (hlen : ns.length ≤ 1000000000) :
    Calls Try.prog 26 #[.func (.func 73) #[] #[.pointer (some ⟨Bt, 0, none⟩), .pointer (some ⟨Bk, 0, none⟩), .pointer (some ⟨Bs, 0, none⟩)], .int .i64 nn] w fun e w' => ∃ a c, e = .returned (.tuple #[.slice a (tkn nn (stt s (post.map Nd.e)).2).length c, .bool true]) ∧ IsE w' a (tkn nn (stt s (post.map Nd.e)).2) ∧ (∀ b off, a = some ⟨b, off, none⟩ → w.heap.size ≤ b) ∧ Below w.heap.size w w' := by
  have HW : Hid (Wk w L k s ns pre post) := hw
  have hmf : ∀ (fn : Fn) (first cap : Array Value) (w : World), (Instr.makeFunc fn first cap).run Try.prog w = .ok (.func fn first cap) w := fun _ _ _ _ => rfl
  have hfn : ∀ (x y z : Nat) (w : World), (binOp .eql 58 (.func (.func 73) #[] #[.pointer (some ⟨x, 0, none⟩), .pointer (some ⟨y, 0, none⟩), .pointer (some ⟨z, 0, none⟩)]) .nilFunc).run Try.prog w = .ok (.bool false) w := fun x y z w => fun_nil _ _ _
  have HNN : Hid (nn ≠ 0) := hnn
  have hn0 : (nn == 0) = false := by simpa using hnn
  clear hw hnn
  go_enter Try.func26, Try.ntmps26
  go_wp2_with fail
  generalize ho1 : (Obj.cells #[.int .i64 nn] 3) = o1
  generalize ho2 : (Obj.cells #[.slice none 0 0] 80) = o2
  generalize ho3 : (Obj.cells #[.bool true] 4) = o3
  generalize ho4 : (Obj.cells #[.bool false] 4) = o4
  have g1 : ((((w.alloc o1).alloc o2).alloc o3).alloc o4).heap[w.heap.size]? = some o1 := by
    rw [Below.heap_alloc _ _ _ (by simp <;> omega), Below.heap_alloc _ _ _ (by simp <;> omega), Below.heap_alloc _ _ _ (by simp <;> omega)]
    exact World.alloc_heap_new w o1
  have g2 : ((((w.alloc o1).alloc o2).alloc o3).alloc o4).heap[w.heap.size + 1]? = some o2 := by
    rw [Below.heap_alloc _ _ _ (by simp <;> omega), Below.heap_alloc _ _ _ (by simp <;> omega)]
    have := World.alloc_heap_new (w.alloc o1) o2
    rwa [World.size_alloc] at this
  have g3 : ((((w.alloc o1).alloc o2).alloc o3).alloc o4).heap[w.heap.size + 2]? = some o3 := by
    rw [Below.heap_alloc _ _ _ (by simp <;> omega)]
    have := World.alloc_heap_new ((w.alloc o1).alloc o2) o3
    rwa [World.size_alloc, World.size_alloc] at this
  have g4 : ((((w.alloc o1).alloc o2).alloc o3).alloc o4).heap[w.heap.size + 3]? = some o4 := by
    have := World.alloc_heap_new (((w.alloc o1).alloc o2).alloc o3) o4
    rwa [World.size_alloc, World.size_alloc, World.size_alloc] at this
  have hb4 : Below w.heap.size w ((((w.alloc o1).alloc o2).alloc o3).alloc o4) := ((((Below.refl _ _).alloc (Nat.le_refl _) _).alloc (by simp) _).alloc (by simp; omega) _).alloc (by simp; omega) _
  have hs4 : ((((w.alloc o1).alloc o2).alloc o3).alloc o4).heap.size = w.heap.size + 4 := by simp
  generalize (((w.alloc o1).alloc o2).alloc o3).alloc o4 = W4 at *
  subst ho1 ho2 ho3 ho4
  have hnl : ∀ nd ∈ ns, nd.b < w.heap.size := fun nd hnd => HW.out.chain.lt hnd
  have hTk : Tk (tkT L ns w.heap.size) W4 w.heap.size nn false [] := by
    refine ⟨fun b h1 h2 => ⟨tkT_box h1 h2, by omega⟩, by rw [cell_of_obj g1]; rfl, ⟨.slice none 0 0, by rw [cell_of_obj g2]; rfl, OwnE.empty _ _ _⟩, by rw [cell_of_obj g3]; rfl, by rw [cell_of_obj g4]; rfl, fun b h1 h2 => ?_⟩
    rcases (show b = w.heap.size ∨ b = w.heap.size + 1 ∨ b = w.heap.size + 2 ∨ b = w.heap.size + 3 by omega) with rfl | rfl | rfl | rfl
    · exact froz_of_obj g1
    · exact froz_of_obj g2
    · exact froz_of_obj g3
    · exact froz_of_obj g4
  refine (callsIn_wide.1 (mfrom_in 1 (by unfold u9 uT; omega) (tkT L ns w.heap.size) Bt Bk Bs M L w.heap.size k s ns pre post W4 (HW.out.under hb4) (fun nd hnd => tkT_node (hnl nd hnd) (.inr ⟨nd, hnd, rfl⟩)) (tkT_node HW.out.lt (.inl rfl)) (fun b hb => tkT_hi (by omega) HW.out.lt hnl) (by omega) ((hb4.cell (p := ⟨Bt, 0, none⟩) (World.block_lt_of_cell? w _ hBt)).trans hBt) ((hb4.cell (p := ⟨M, 0, none⟩) (World.block_lt_of_cell? w _ hM)).trans hM) ((hb4.cell (p := ⟨Bk, 0, none⟩) (World.block_lt_of_cell? w _ hBk)).trans hBk) ((hb4.cell (p := ⟨Bs, 0, none⟩) (World.block_lt_of_cell? w _ hBs)).trans hBs) (tkT_else (World.block_lt_of_cell? w _ hBs) hBsn) nn HNN.out hTk hlen)).mono ?_
  rintro e w5 ⟨⟨v, rfl⟩, T5, en5, h5, hg5, hz5⟩
  have hbl : Below w.heap.size w w5 := hb4.trans ⟨hg5.os, hg5.tape, hg5.output, hg5.size, fun b hb => hg5.block b (by omega) (tkT_lo9 hb)⟩
  obtain ⟨v5, k1, ho5⟩ := h5.out
  obtain ⟨a5, c5, rfl, hi5, _, hn5⟩ := ho5.form
  have k2 := h5.well
  have hfr5 : ∀ b off, a5 = some ⟨b, off, none⟩ → w.heap.size ≤ b := fun b off e => by
    rcases Nat.lt_or_ge b w.heap.size with hb | hb
    · exfalso
      have q1 : T5 b = 7 := by
        subst e
        rcases ho5.1.2 with ⟨q, _⟩ | ⟨g', cap', cur', q, _⟩
        · cases q
        · simp only [Value.slice.injEq, Option.some.injEq, Addr.mk.injEq] at q
          obtain ⟨⟨rfl, rfl, _⟩, _⟩ := q
          exact ho5.2 _ rfl
      have q2 := hg5.tag b (by omega) (tkT_lo9 hb)
      have q3 := tkT_lo9 (L := L) (ns := ns) hb
      rw [← q2, q1] at q3
      exact q3 (.inl (.inl rfl))
    · exact hb
  have HF : Hid (IsE w5 a5 (tkn nn (stt s (post.map Nd.e)).2) ∧ (∀ b off, a5 = some ⟨b, off, none⟩ → w.heap.size ≤ b) ∧ Below w.heap.size w w5) := ⟨hi5, hfr5, hbl⟩
  clear hfr5 hbl ho5 hi5 hn5 h5 hg5 hz5 hTk g1 g2 g3 g4
  go_wp2
  go_quiet (fail)
  go_wp2
  go_ret2
  exact ⟨a5, c5, rfl, HF.out.1.below (below_drewN (Below.refl _ _) _), HF.out.2.1, below_drewN HF.out.2.2 _⟩

end Sk
end Go.Proofs.Ytkofopaejkabhaa
