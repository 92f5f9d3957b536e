import Derived.Test.YtfomnkkpiflokaaTk4
namespace Go.Proofs.Ytfomnkkpiflokaa
namespace Sk
open Go.RowKit Go.Shelf Laws Irw Erw KMath Skm Byt
set_option linter.unusedVariables false
set_option maxRecDepth 100000
set_option linter.unusedSimpArgs false

set_option maxHeartbeats 1000000 in
theorem taken_some (nn : Int) (hnn : nn ≠ 0) (Bl Bk Bs L : Nat) (k : ByteArray) (s : Int) (ns pre post : List Nd) (w : World) (hw : Wk w L k s ns pre post)
    (hBl : w.cell? ⟨Bl, 0, none⟩ = some (.pointer (some ⟨L, 0, none⟩))) (hBk : w.cell? ⟨Bk, 0, none⟩ = some (.string k)) (hBs : w.cell? ⟨Bs, 0, none⟩ = some (.int .u64 s)) (hlen : ns.length ≤ 2932031007402) :
    Calls Try.prog 18 #[.func (.func 46) #[] #[.pointer (some ⟨Bl, 0, none⟩), .pointer (some ⟨Bk, 0, none⟩), .pointer (some ⟨Bs, 0, none⟩)], .int .i64 nn] w fun e w' => ∃ a c, e = .returned (.tuple #[.slice a (tkn nn (post.map Nd.e)).length c, .bool true]) ∧ IsE w' a (tkn nn (post.map Nd.e)) ∧ (a = none → c = 0) ∧ Below w.heap.size w w' := by
  have HW : Hid (Wk w L k s ns pre post) := hw
  have hmf : ∀ (fn : Fn) (first cap : Array Value) (w : World), (Instr.makeFunc fn first cap).run Try.prog w = .ok (.func fn first cap) w := fun _ _ _ _ => rfl
  have hfn : ∀ (x y z : Nat) (w : World), (binOp .eql 58 (.func (.func 46) #[] #[.pointer (some ⟨x, 0, none⟩), .pointer (some ⟨y, 0, none⟩), .pointer (some ⟨z, 0, none⟩)]) .nilFunc).run Try.prog w = .ok (.bool false) w := fun x y z w => fun_nil _ _ _
  have HNN : Hid (nn ≠ 0) := hnn
  have hn0 : (nn == 0) = false := by simpa using hnn
  clear hw hnn
  go_enter Try.func18, Try.ntmps18
  go_wp2_with fail
  generalize ho1 : (Obj.cells #[.int .i64 nn] 3) = o1
  generalize ho2 : (Obj.cells #[.slice none 0 0] 64) = o2
  generalize ho3 : (Obj.cells #[.bool true] 4) = o3
  generalize ho4 : (Obj.cells #[.bool false] 4) = o4
  have g1 : ((((w.alloc o1).alloc o2).alloc o3).alloc o4).heap[w.heap.size]? = some o1 := by
    rw [Below.heap_alloc _ _ _ (by simp <;> omega), Below.heap_alloc _ _ _ (by simp <;> omega), Below.heap_alloc _ _ _ (by simp <;> omega)]
    exact World.alloc_heap_new w o1
  have g2 : ((((w.alloc o1).alloc o2).alloc o3).alloc o4).heap[w.heap.size + 1]? = some o2 := by
    rw [Below.heap_alloc _ _ _ (by simp <;> omega), Below.heap_alloc _ _ _ (by simp <;> omega)]
    have := World.alloc_heap_new (w.alloc o1) o2
    rwa [World.size_alloc] at this
  have g3 : ((((w.alloc o1).alloc o2).alloc o3).alloc o4).heap[w.heap.size + 2]? = some o3 := by
    rw [Below.heap_alloc _ _ _ (by simp <;> omega)]
    have := World.alloc_heap_new ((w.alloc o1).alloc o2) o3
    rwa [World.size_alloc, World.size_alloc] at this
  have g4 : ((((w.alloc o1).alloc o2).alloc o3).alloc o4).heap[w.heap.size + 3]? = some o4 := by
    have := World.alloc_heap_new (((w.alloc o1).alloc o2).alloc o3) o4
    rwa [World.size_alloc, World.size_alloc, World.size_alloc] at this
  have hb4 : Below w.heap.size w ((((w.alloc o1).alloc o2).alloc o3).alloc o4) := ((((Below.refl _ _).alloc (Nat.le_refl _) _).alloc (by simp) _).alloc (by simp; omega) _).alloc (by simp; omega) _
  have hs4 : ((((w.alloc o1).alloc o2).alloc o3).alloc o4).heap.size = w.heap.size + 4 := by simp
  generalize (((w.alloc o1).alloc o2).alloc o3).alloc o4 = W4 at *
  subst ho1 ho2 ho3 ho4
  have hnl : ∀ nd ∈ ns, nd.b < w.heap.size := fun nd hnd => HW.out.chain.lt hnd
  have hTk : Tk (tkT L ns w.heap.size) W4 w.heap.size nn false [] := by
    refine ⟨fun b h1 h2 => ⟨tkT_box h1 h2, by omega⟩, by rw [cell_of_obj g1]; rfl, ⟨.slice none 0 0, by rw [cell_of_obj g2]; rfl, OwnE.empty _ _ _⟩, by rw [cell_of_obj g3]; rfl, by rw [cell_of_obj g4]; rfl, fun b h1 h2 => ?_⟩
    rcases (show b = w.heap.size ∨ b = w.heap.size + 1 ∨ b = w.heap.size + 2 ∨ b = w.heap.size + 3 by omega) with rfl | rfl | rfl | rfl
    · exact froz_of_obj g1
    · exact froz_of_obj g2
    · exact froz_of_obj g3
    · exact froz_of_obj g4
  refine (callsIn_wide.1 (some_in 1 (by unfold uT; omega) (tkT L ns w.heap.size) Bl Bk Bs L w.heap.size k s ns pre post W4 (HW.out.under hb4) (fun nd hnd => tkT_node (hnl nd hnd) (.inr ⟨nd, hnd, rfl⟩)) (tkT_node HW.out.lt (.inl rfl)) (fun b hb => tkT_hi (by omega) HW.out.lt hnl) (by omega) ((hb4.cell (p := ⟨Bl, 0, none⟩) (World.block_lt_of_cell? w _ hBl)).trans hBl) ((hb4.cell (p := ⟨Bk, 0, none⟩) (World.block_lt_of_cell? w _ hBk)).trans hBk) ((hb4.cell (p := ⟨Bs, 0, none⟩) (World.block_lt_of_cell? w _ hBs)).trans hBs) nn HNN.out hTk hlen)).mono ?_
  rintro e w5 ⟨⟨v, rfl⟩, T5, en5, h5, hg5, hz5⟩
  have hbl : Below w.heap.size w w5 := hb4.trans ⟨hg5.os, hg5.tape, hg5.output, hg5.size, fun b hb => hg5.block b (by omega) (tkT_lo hb)⟩
  obtain ⟨v5, k1, ho5⟩ := h5.out
  obtain ⟨a5, c5, rfl, hi5, _, hn5⟩ := ho5.form
  have k2 := h5.well
  have HF : Hid (IsE w5 a5 (tkn nn (post.map Nd.e)) ∧ (a5 = none → c5 = 0) ∧ Below w.heap.size w w5) := ⟨hi5, hn5, hbl⟩
  clear hbl ho5 hi5 hn5 h5 hg5 hz5 hTk g1 g2 g3 g4
  go_wp2
  go_quiet (fail)
  go_wp2
  go_ret2
  exact ⟨a5, c5, rfl, HF.out.1.below (below_drewN (Below.refl _ _) _), HF.out.2.1, below_drewN HF.out.2.2 _⟩

set_option maxHeartbeats 1000000 in
theorem taken_none (x y z : Nat) (w : World) :
    Calls Try.prog 18 #[.func (.func 46) #[] #[.pointer (some ⟨x, 0, none⟩), .pointer (some ⟨y, 0, none⟩), .pointer (some ⟨z, 0, none⟩)], .int .i64 0] w fun e w' => e = .returned (.tuple #[.slice none 0 0, .bool true]) ∧ Below w.heap.size w w' := by
  have hfn : ∀ (w : World), (binOp .eql 58 (.func (.func 46) #[] #[.pointer (some ⟨x, 0, none⟩), .pointer (some ⟨y, 0, none⟩), .pointer (some ⟨z, 0, none⟩)]) .nilFunc).run Try.prog w = .ok (.bool false) w := fun w => fun_nil _ _ _
  have HB : Hid (Below w.heap.size w ((w.alloc (.cells #[.int .i64 0] 3)).alloc (.cells #[.slice none 0 0] 64))) := ((Below.refl _ _).alloc (Nat.le_refl _) _).alloc (by simp) _
  go_enter Try.func18, Try.ntmps18
  go_wp2
  go_ret2
  exact ⟨rfl, HB.out⟩
theorem taken_any (nn : Int) (Bl Bk Bs L : Nat) (k : ByteArray) (s : Int) (ns pre post : List Nd) (w : World) (hw : Wk w L k s ns pre post)
    (hBl : w.cell? ⟨Bl, 0, none⟩ = some (.pointer (some ⟨L, 0, none⟩))) (hBk : w.cell? ⟨Bk, 0, none⟩ = some (.string k)) (hBs : w.cell? ⟨Bs, 0, none⟩ = some (.int .u64 s)) (hlen : ns.length ≤ 2932031007402) :
    Calls Try.prog 18 #[.func (.func 46) #[] #[.pointer (some ⟨Bl, 0, none⟩), .pointer (some ⟨Bk, 0, none⟩), .pointer (some ⟨Bs, 0, none⟩)], .int .i64 nn] w fun e w' => ∃ a c, e = .returned (.tuple #[.slice a (tkn nn (post.map Nd.e)).length c, .bool true]) ∧ IsE w' a (tkn nn (post.map Nd.e)) ∧ (a = none → c = 0) ∧ Below w.heap.size w w' := by
  by_cases h0 : nn = 0
  · subst h0
    refine (taken_none Bl Bk Bs w).mono ?_
    rintro e w' ⟨rfl, hb⟩
    have e0 : tkn 0 (post.map Nd.e) = [] := by unfold tkn; rw [if_neg (by omega)]; rfl
    rw [e0]
    exact ⟨none, 0, rfl, IsE.nil _ _, fun _ => rfl, hb⟩
  · exact taken_some nn h0 Bl Bk Bs L k s ns pre post w hw hBl hBk hBs hlen
end Sk
end Go.Proofs.Ytfomnkkpiflokaa
