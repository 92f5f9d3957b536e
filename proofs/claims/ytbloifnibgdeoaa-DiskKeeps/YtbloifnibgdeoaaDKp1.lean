import Derived.Test.YtbloifnibgdeoaaDHis
import Derived.Test.YtbloifnibgdeoaaDSam
import Derived.Test.YtbloifnibgdeoaaDFil
import Derived.Deep.QuietTactic
import Derived.BigQuiet
namespace Go.Proofs.Ytbloifnibgdeoaa
namespace Dsk
open Go.RowKit Go.Shelf Go.Maps Go.Sort Byt Laws
set_option linter.unusedVariables false
set_option maxRecDepth 100000
set_option linter.unusedSimpArgs false
attribute [local go_sem ↓] Go.wp_at_zero Go.wp_at_succ

theorem infoT : (Try.prog.info? 9).map (fun i => (i.zero, i.size, i.bytes)) = some (some (.string ByteArray.empty), 1, 16) := by kernel_rfl
/-- Texts that lie in a slice. -/
def StrAt (w : World) (a : Option Addr) (ss : List ByteArray) : Prop := ∀ (j : Nat) (s : ByteArray), ss[j]? = some s → ∃ b off, a = some ⟨b, off, none⟩ ∧ w.cell? ⟨b, off + j, none⟩ = some (.string s)
theorem StrAt.keep {w w' : World} {a : Option Addr} {ss : List ByteArray} {bs : List Nat} (h : StrAt w a ss) (hk : Keep bs w w') (hn : ∀ ad, a = some ad → ad.block ∉ bs) : StrAt w' a ss := fun j s hj => by
  obtain ⟨b, off, e, hc⟩ := h j s hj
  exact ⟨b, off, e, (hk.cell (p := ⟨b, off + j, none⟩) (World.block_lt_of_cell? w _ hc) (hn ⟨b, off, none⟩ e)).trans hc⟩
theorem StrAt.of {w : World} {base n c : Nat} {a : Option Addr} {ss : List ByteArray} (h : w.ownsRow base 9 1 (.slice a n c) n (ss.map Value.string)) : StrAt w a ss ∧ n = ss.length := by
  refine ⟨fun j s hj => ?_, by have := h.1; simp at this; omega⟩
  have hlt : j < ss.length := (List.getElem?_eq_some_iff.1 hj).1
  have hl := h.1
  rcases h.2 with ⟨_, h0⟩ | ⟨g, cap, cur, e, h1, h2, h3, h4, h5, h6⟩
  · simp at hl; omega
  · obtain ⟨rfl, _, _⟩ := Value.slice.inj e
    refine ⟨g, 0, rfl, ?_⟩
    simp at hl
    have hcj : (cur.toList)[j]? = some (Value.string s) := by
      have z : (ss.map Value.string)[j]? = some (Value.string s) := by rw [List.getElem?_map, hj]; rfl
      rw [← h6, List.getElem?_take, if_pos (by omega)] at z
      exact z
    rw [Nat.zero_add, Go.Joins.cell_of_block h2]
    simpa using hcj
set_option maxHeartbeats 1000000 in
theorem sameTexts_true (a b : Option Addr) (ca cb n m : Nat) (l : List ByteArray) (w : World) (ha : StrAt w a l) (hb : StrAt w b l) (hlen : l.length ≤ 9223372036854775807) (hn : n = l.length) (hm : m = l.length) :
    Calls Try.prog 34 #[.slice a n ca, .slice b m cb] w fun e w' => e = .returned (.bool true) ∧ Below w.heap.size w w' := by
  obtain rfl : m = n := by omega
  clear hm
  have HA : Hid (StrAt w a l) := ha
  have HB : Hid (StrAt w b l) := hb
  have HN : Hid (m = l.length) := hn
  have hmm : m ≤ 9223372036854775807 := by omega
  clear ha hb hn hlen
  go_enter Try.func34, Try.ntmps34
  go_wp2
  go_loopw [5] (fun i wr => ∃ k q : Nat, k ≤ m ∧ i = .int .i64 (k : Int) ∧ wr = w.drewN q) (fun i _ => m - (intOf i).toNat)
  case atStart => exact ⟨0, 0, Nat.zero_le _, rfl, rfl⟩
  case round =>
    obtain ⟨k, q, hk, rfl, rfl⟩ := hrel
    by_cases hlt : k < m
    · have hlt' : k < l.length := by rw [← HN.out]; exact hlt
      obtain ⟨x, hx⟩ : ∃ x, l[k]? = some x := ⟨_, List.getElem?_eq_getElem hlt'⟩
      obtain ⟨b1, o1, rfl, c1⟩ := HA.out k x hx
      obtain ⟨b2, o2, rfl, c2⟩ := HB.out k x hx
      have q1 : (k : Int) < (m : Int) := by omega
      clear hlt' hx
      go_wp2
      go_quiet (fail)
      go_wp2
      go_roundw
      case rel => exact ⟨k + 1, _, by omega, by go_num, rfl⟩
      case measure => simp [intOf]; omega
    · go_wp2
      go_ret
      exact ⟨rfl, below_drewN (Below.refl _ _) _⟩
set_option maxHeartbeats 1000000 in
theorem names_any (a : Option Addr) (c : Nat) (base : Nat) (fs : List Fi) (ds : List (Option Addr × Nat)) (w : World) (h : FilesAt base w (.slice a fs.length c) fs ds) (hl : fs.length ≤ 100000000) :
    Calls Try.prog 33 #[.slice a fs.length c] w fun e w' => ∃ a' c', e = .returned (.slice a' fs.length c') ∧ w'.ownsRow w.heap.size 9 1 (.slice a' fs.length c') fs.length ((fs.map (·.name)).map Value.string) ∧ Below w.heap.size w w' := by
  obtain ⟨i3, hi3, hz0, hz1, hz2⟩ := info_parts infoT
  obtain ⟨N, hN⟩ : ∃ N, N = fs.length := ⟨_, rfl⟩
  have HN : Hid (N = fs.length) := hN
  have HF : Hid (FilesAt base w (.slice a fs.length c) fs ds) := h
  rw [← hN] at hl ⊢
  clear h hN
  go_enter Try.func33, Try.ntmps33
  go_wp2
  go_loopw [3, 4, 5, 6, 7, 8, 9, 10, 11, 12, 13, 14, 15, 16, 17, 18] (fun out i _ _ _ _ _ _ _ _ _ _ _ _ _ _ wr => ∃ k : Nat, k ≤ N ∧ i = .int .i64 (k : Int) ∧ wr.ownsRow w.heap.size 9 1 out k (((fs.take k).map (·.name)).map Value.string) ∧ Below w.heap.size w wr) (fun _ i _ _ _ _ _ _ _ _ _ _ _ _ _ _ _ => N - (intOf i).toNat)
  case atStart => exact ⟨0, Nat.zero_le _, rfl, World.ownsRow_nil _ _ _ _, Below.refl _ _⟩
  case round =>
    rename World => W
    obtain ⟨k, hk, rfl, hown, hbw⟩ := hrel
    by_cases hlt : k < N
    · have hlt' : k < fs.length := by rw [← HN.out]; exact hlt
      obtain ⟨f, hf⟩ : ∃ f, fs[k]? = some f := ⟨_, List.getElem?_eq_getElem hlt'⟩
      obtain ⟨x, hx⟩ : ∃ x, ds[k]? = some x := ⟨_, List.getElem?_eq_getElem (by rw [HF.out.len]; exact hlt')⟩
      obtain ⟨g, cap, e, h1, h2, c0, _⟩ := HF.out.cells hf hx
      obtain ⟨rfl, _, rfl⟩ := Value.slice.inj e
      have hgl := World.block_lt_of_cell? w _ c0
      have c0' : W.cell? ⟨g, k * 3, none⟩ = some (.string f.name) := (hbw.cell (p := ⟨g, k * 3, none⟩) hgl).trans c0
      have q1 : (k : Int) < (N : Int) := by omega
      have q2 : N ≤ c := by rw [HN.out]; exact h1
      have HO : Hid (W.ownsRow w.heap.size 9 1 u3 k (((fs.take k).map (·.name)).map Value.string) ∧ Below w.heap.size w W) := ⟨hown, hbw⟩
      have HNX : Hid (((fs.take (k + 1)).map (·.name)).map Value.string = ((fs.take k).map (·.name)).map Value.string ++ [.string f.name]) := by
        show _ = _
        rw [List.take_add_one, hf]; simp
      generalize f.name = nm at *
      clear hlt' hf hx e h1 c0 hgl hown hbw
      go_wp2_with (at_builtin; refine wpList_app _ (by rfl) (.tmp 11) (.tmp 17) 53 (by rfl) w.heap.size 9 i3 _ 1 16 Try.underlying53 hi3 hz0 hz1 hz2 rfl (by omega) u3 k _ (by rfl) (HO.out.1.alloc _) ⟨W.heap.size, 0, none⟩ 1 1 [.string nm] (by rfl) (by rfl) (World.news_of_block (heap_alloc_new W _)) (by intro u hu; simp at hu; subst hu; rfl) (by intro _; omega) (by unfold maxLen; omega) (by omega) (Nat.le_trans HO.out.2.size (Keep.alloc [] _ _).size) (W.heap.size + 1) (by simp) ?_; intro g7 c7 w7 hown7 hgr7 hat7 hlt7; have HR : Hid (w7.ownsRow w.heap.size 9 1 (.slice (some ⟨g7, 0, none⟩) (k + 1) c7) (k + 1) (((fs.take (k + 1)).map (·.name)).map Value.string) ∧ Keep u3.ownBlock.toList W w7) := ⟨by rw [HNX.out]; exact hown7, (Keep.alloc _ _ _).trans (Keep.grown hgr7)⟩; clear hown7 hgr7 hat7 hlt7)
      go_roundw
      case rel =>
        refine ⟨k + 1, by omega, by go_num, HR.out.1, HO.out.2.trans ⟨HR.out.2.os, HR.out.2.tape, HR.out.2.output, HR.out.2.size, fun b hb => HR.out.2.block b (Nat.lt_of_lt_of_le hb HO.out.2.size) (fun hm => ?_)⟩⟩
        have := (HO.out.1.lt b (by simpa using hm)).1
        omega
      case measure => simp [intOf]; omega
    · have hk' : k = N := by omega
      subst hk'
      obtain ⟨a', c', rfl⟩ := own_slice hown
      have HO : Hid (W.ownsRow w.heap.size 9 1 (.slice a' k c') k (((fs.take k).map (·.name)).map Value.string) ∧ Below w.heap.size w W) := ⟨hown, hbw⟩
      clear hown hbw
      go_wp2
      go_ret
      have e : fs.take k = fs := List.take_of_length_le (by rw [HN.out]; exact Nat.le_refl _)
      have z := HO.out.1
      rw [e] at z
      exact ⟨a', c', rfl, z, HO.out.2⟩
end Dsk
end Go.Proofs.Ytbloifnibgdeoaa
