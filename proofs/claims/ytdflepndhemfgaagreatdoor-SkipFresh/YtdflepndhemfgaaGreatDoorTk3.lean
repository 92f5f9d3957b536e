import Derived.Test.YtdflepndhemfgaaGreatDoorTk2
namespace Go.Proofs.YtdflepndhemfgaaGreatDoor
namespace Sk
open Go.RowKit Go.Shelf Laws Irw Erw KMath Skm Byt
set_option linter.unusedVariables false
set_option maxRecDepth 100000
set_option linter.unusedSimpArgs false

open Classical in
/-- the tags of one call of taken -/
noncomputable def tkT (L : Nat) (ns : List Nd) (N : Nat) (b : Nat) : Nat := if N ≤ b ∧ b < N + 4 then 8 else if b = L ∨ ∃ nd ∈ ns, nd.b = b then 1 else 0
theorem tkT_lo {L : Nat} {ns : List Nd} {N b : Nat} (h : b < N) : ¬ uT (tkT L ns N b) := by
  unfold tkT uT
  rw [if_neg (by omega)]
  split <;> omega
theorem tkT_hi {L : Nat} {ns : List Nd} {N b : Nat} (h : N + 4 ≤ b) (hL : L < N) (hn : ∀ nd ∈ ns, nd.b < N) : tkT L ns N b = 0 := by
  unfold tkT
  rw [if_neg (by omega), if_neg]
  rintro (h1 | ⟨nd, h1, h2⟩)
  · omega
  · have := hn nd h1; omega
theorem tkT_box {L : Nat} {ns : List Nd} {N b : Nat} (h1 : N ≤ b) (h2 : b < N + 4) : tkT L ns N b = 8 := by unfold tkT; rw [if_pos ⟨h1, h2⟩]
theorem tkT_node {L : Nat} {ns : List Nd} {N b : Nat} (h : b < N) (hb : b = L ∨ ∃ nd ∈ ns, nd.b = b) : tkT L ns N b = 1 := by unfold tkT; rw [if_neg (by omega), if_pos hb]

theorem und58 : Tryz.prog.underlying 55 = some (.func #[63] #[] false) := by kernel_rfl
theorem fun_eq (d fn : Nat) (caps : Array Value) (w : World) : (Op.equalIn (d + 1) 55 (.func (.func fn) #[] caps) .nilFunc).run Tryz.prog w = .ok false w := by
  simp [Op.equalIn, run_underlying und58]
theorem fun_nil (fn : Nat) (caps : Array Value) (w : World) : (binOp .eql 55 (.func (.func fn) #[] caps) .nilFunc).run Tryz.prog w = .ok (.bool false) w := by
  have h := fun_eq 9999 fn caps w
  simp only [binOp]
  simp [Op.equal, Op.maxDepth, h]
set_option maxHeartbeats 1000000 in
theorem taken_all (Bl Bk Bs L : Nat) (k : ByteArray) (s : Int) (ns pre post : List Nd) (w : World) (hw : Wk w L k s ns pre post)
    (hBl : w.cell? ⟨Bl, 0, none⟩ = some (.pointer (some ⟨L, 0, none⟩))) (hBk : w.cell? ⟨Bk, 0, none⟩ = some (.string k)) (hBs : w.cell? ⟨Bs, 0, none⟩ = some (.int .u64 s)) (hlen : ns.length ≤ 2932031007402) :
    Calls Tryz.prog 11 #[.func (.func 41) #[] #[.pointer (some ⟨Bl, 0, none⟩), .pointer (some ⟨Bk, 0, none⟩), .pointer (some ⟨Bs, 0, none⟩)], .int .i64 (-1)] w fun e w' => ∃ a c, e = .returned (.tuple #[.slice a post.length c, .bool true]) ∧ IsE w' a (post.map Nd.e) ∧ (a = none → c = 0) ∧ Below w.heap.size w w' := by
  have HW : Hid (Wk w L k s ns pre post) := hw
  have hmf : ∀ (fn : Fn) (first cap : Array Value) (w : World), (Instr.makeFunc fn first cap).run Tryz.prog w = .ok (.func fn first cap) w := fun _ _ _ _ => rfl
  have hfn : ∀ (x y z : Nat) (w : World), (binOp .eql 55 (.func (.func 41) #[] #[.pointer (some ⟨x, 0, none⟩), .pointer (some ⟨y, 0, none⟩), .pointer (some ⟨z, 0, none⟩)]) .nilFunc).run Tryz.prog w = .ok (.bool false) w := fun x y z w => fun_nil _ _ _
  clear hw
  go_enter Tryz.func11, Tryz.ntmps11
  go_wp2_with fail
  generalize ho1 : (Obj.cells #[.int .i64 (-1)] 3) = o1
  generalize ho2 : (Obj.cells #[.slice none 0 0] 23) = o2
  generalize ho3 : (Obj.cells #[.bool true] 4) = o3
  generalize ho4 : (Obj.cells #[.bool false] 4) = o4
  have g1 : ((((w.alloc o1).alloc o2).alloc o3).alloc o4).heap[w.heap.size]? = some o1 := by
    rw [Below.heap_alloc _ _ _ (by simp <;> omega), Below.heap_alloc _ _ _ (by simp <;> omega), Below.heap_alloc _ _ _ (by simp <;> omega)]
    exact World.alloc_heap_new w o1
  have g2 : ((((w.alloc o1).alloc o2).alloc o3).alloc o4).heap[w.heap.size + 1]? = some o2 := by
    rw [Below.heap_alloc _ _ _ (by simp <;> omega), Below.heap_alloc _ _ _ (by simp <;> omega)]
    have := World.alloc_heap_new (w.alloc o1) o2
    rwa [World.size_alloc] at this
  have g3 : ((((w.alloc o1).alloc o2).alloc o3).alloc o4).heap[w.heap.size + 2]? = some o3 := by
    rw [Below.heap_alloc _ _ _ (by simp <;> omega)]
    have := World.alloc_heap_new ((w.alloc o1).alloc o2) o3
    rwa [World.size_alloc, World.size_alloc] at this
  have g4 : ((((w.alloc o1).alloc o2).alloc o3).alloc o4).heap[w.heap.size + 3]? = some o4 := by
    have := World.alloc_heap_new (((w.alloc o1).alloc o2).alloc o3) o4
    rwa [World.size_alloc, World.size_alloc, World.size_alloc] at this
  have hb4 : Below w.heap.size w ((((w.alloc o1).alloc o2).alloc o3).alloc o4) := ((((Below.refl _ _).alloc (Nat.le_refl _) _).alloc (by simp) _).alloc (by simp; omega) _).alloc (by simp; omega) _
  have hs4 : ((((w.alloc o1).alloc o2).alloc o3).alloc o4).heap.size = w.heap.size + 4 := by simp
  generalize (((w.alloc o1).alloc o2).alloc o3).alloc o4 = W4 at *
  subst ho1 ho2 ho3 ho4
  have hnl : ∀ nd ∈ ns, nd.b < w.heap.size := fun nd hnd => HW.out.chain.lt hnd
  have hTk : Tk (tkT L ns w.heap.size) W4 w.heap.size (-1) false [] := by
    refine ⟨fun b h1 h2 => ⟨tkT_box h1 h2, by omega⟩, by rw [cell_of_obj g1]; rfl, ⟨.slice none 0 0, by rw [cell_of_obj g2]; rfl, OwnE.empty _ _ _⟩, by rw [cell_of_obj g3]; rfl, by rw [cell_of_obj g4]; rfl, fun b h1 h2 => ?_⟩
    rcases (show b = w.heap.size ∨ b = w.heap.size + 1 ∨ b = w.heap.size + 2 ∨ b = w.heap.size + 3 by omega) with rfl | rfl | rfl | rfl
    · exact froz_of_obj g1
    · exact froz_of_obj g2
    · exact froz_of_obj g3
    · exact froz_of_obj g4
  refine (callsIn_wide.1 (all_in 1 (by unfold uT; omega) (tkT L ns w.heap.size) Bl Bk Bs L w.heap.size k s ns pre post W4 (HW.out.under hb4) (fun nd hnd => tkT_node (hnl nd hnd) (.inr ⟨nd, hnd, rfl⟩)) (tkT_node HW.out.lt (.inl rfl)) (fun b hb => tkT_hi (by omega) HW.out.lt hnl) (by omega) ((hb4.cell (p := ⟨Bl, 0, none⟩) (World.block_lt_of_cell? w _ hBl)).trans hBl) ((hb4.cell (p := ⟨Bk, 0, none⟩) (World.block_lt_of_cell? w _ hBk)).trans hBk) ((hb4.cell (p := ⟨Bs, 0, none⟩) (World.block_lt_of_cell? w _ hBs)).trans hBs) hTk hlen)).mono ?_
  rintro e w5 ⟨⟨v, rfl⟩, T5, h5, hg5, hz5⟩
  have hbl : Below w.heap.size w w5 := hb4.trans ⟨hg5.os, hg5.tape, hg5.output, hg5.size, fun b hb => hg5.block b (by omega) (tkT_lo hb)⟩
  obtain ⟨v5, k1, ho5⟩ := h5.out
  obtain ⟨a5, c5, rfl, hi5, _, hn5⟩ := ho5.form
  rw [List.length_map] at k1
  have k2 := h5.well
  have HF : Hid (IsE w5 a5 (post.map Nd.e) ∧ (a5 = none → c5 = 0) ∧ Below w.heap.size w w5) := ⟨hi5, hn5, hbl⟩
  clear hbl ho5 hi5 hn5 h5 hg5 hz5 hTk g1 g2 g3 g4
  go_wp2
  go_quiet (fail)
  go_wp2
  go_ret2
  exact ⟨a5, c5, rfl, HF.out.1.below (below_drewN (Below.refl _ _) _), HF.out.2.1, below_drewN HF.out.2.2 _⟩
end Sk
end Go.Proofs.YtdflepndhemfgaaGreatDoor
