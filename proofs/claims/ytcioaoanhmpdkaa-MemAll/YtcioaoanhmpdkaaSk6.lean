import Derived.Test.YtcioaoanhmpdkaaSk5
namespace Go.Proofs.Ytcioaoanhmpdkaa
namespace Sk
open Go.RowKit Laws Irw Erw KMath Skm Byt
set_option linter.unusedVariables false
set_option maxRecDepth 100000
set_option linter.unusedSimpArgs false

theorem infoB : (Try.prog.info? 5).map (fun i => (i.zero, i.size, i.bytes)) = some (some (.int .u8 0), 1, 1) := by kernel_rfl
theorem draws_of {w w1 : World} {v : Value} {ds : List Nat} {n : Nat} (h : w1.ownsRow w.heap.size 5 1 v n (cellsB ds)) (hl : ∀ x ∈ ds, x < 256) : ∃ a1 c1, v = .slice a1 ds.length c1 ∧ IsB w1 a1 ds ∧ ∀ ad, a1 = some ad → w.heap.size ≤ ad.block ∧ ad.block < w1.heap.size := by
  obtain ⟨h1, h2⟩ := isB_of_own h hl
  rcases h2 with ⟨rfl, rfl⟩ | ⟨g, c, rfl, h3, h4, h5⟩
  · exact ⟨none, 0, rfl, IsB.nil _ _, fun ad e => by cases e⟩
  · exact ⟨_, c, by rw [h1], IsB.some h5 hl, fun ad e => by cases e; exact ⟨h4, h5.1⟩⟩
def newT (t : Nat) (T : Nat → Nat) (B L : Nat) (b : Nat) : Nat := if b = L then t else if B ≤ b ∧ b < L then t + 1 else T b
theorem sl_new {t : Nat} {T : Nat → Nat} {w w1 : World} {a1 : Option Addr} {c1 : Nat} {ds : List Nat} (hb : Below w.heap.size w w1) (hB : IsB w1 a1 ds) (ha : ∀ ad, a1 = some ad → w.heap.size ≤ ad.block ∧ ad.block < w1.heap.size) :
    Sl t (newT t T w.heap.size w1.heap.size) (w1.alloc (.cells #[.string ⟨#[]⟩, .int .u64 0, .bool false, .string ⟨#[]⟩, .int .i64 0, .pointer none, .pointer none, .pointer none, .pointer none, .pointer none, .pointer none, .pointer none, .pointer none, .pointer none, .pointer none, .pointer none, .pointer none, .slice a1 ds.length c1, .int .i64 0] 124)) w1.heap.size ds [] ∧
    Goes (fun _ => False) T w (newT t T w.heap.size w1.heap.size) (w1.alloc (.cells #[.string ⟨#[]⟩, .int .u64 0, .bool false, .string ⟨#[]⟩, .int .i64 0, .pointer none, .pointer none, .pointer none, .pointer none, .pointer none, .pointer none, .pointer none, .pointer none, .pointer none, .pointer none, .pointer none, .pointer none, .slice a1 ds.length c1, .int .i64 0] 124)) := by
  generalize ho : (Obj.cells #[.string ⟨#[]⟩, .int .u64 0, .bool false, .string ⟨#[]⟩, .int .i64 0, .pointer none, .pointer none, .pointer none, .pointer none, .pointer none, .pointer none, .pointer none, .pointer none, .pointer none, .pointer none, .pointer none, .pointer none, .slice a1 ds.length c1, .int .i64 0] 124) = o
  have g1 : (w1.alloc o).heap[w1.heap.size]? = some o := World.alloc_heap_new w1 o
  have hb2 : Below w1.heap.size w1 (w1.alloc o) := (Below.refl _ _).alloc (Nat.le_refl _) _
  have hs2 : (w1.alloc o).heap.size = w1.heap.size + 1 := by simp
  have hs := hb.size
  generalize w1.alloc o = W at *
  subst ho
  have hw := hb.trans (hb2.mono hs)
  refine ⟨⟨by simp [newT], by omega, fun i hi _ => ?_, fun z n r e => by simp at e, ⟨a1, c1, by rw [cell_of_obj g1]; rfl, hB.below hb2, fun ad e => ⟨?_, by have := (ha ad e).2; omega⟩⟩, by rw [cell_of_obj g1]; rfl, by simp, by simp, by simp, by simp, fun j => froz_of_obj g1, by simp⟩, ⟨hw.os, hw.tape, hw.output, hw.size, fun b hb' _ => hw.block b hb', fun b hb' _ => ?_, fun b hb' h0 => ?_⟩⟩
  · rw [cell_of_obj g1]
    match i, hi with
    | 0, _ => rfl
    | 1, _ => rfl
    | 2, _ => rfl
    | 3, _ => rfl
    | 4, _ => rfl
    | 5, _ => rfl
    | 6, _ => rfl
    | 7, _ => rfl
    | 8, _ => rfl
    | 9, _ => rfl
    | 10, _ => rfl
    | 11, _ => rfl
    | i + 12, hi => omega
  · obtain ⟨h1, h2⟩ := ha ad e
    unfold newT
    rw [if_neg (by omega), if_pos ⟨h1, h2⟩]
  · unfold newT
    rw [if_neg (by omega), if_neg (by omega)]
  · unfold newT
    rw [if_neg (by omega), if_neg (by omega)]
    exact h0
set_option maxHeartbeats 1000000 in
theorem new_any (t : Nat) (T : Nat → Nat) (w : World) (a : Option Addr) (n c : Nat) (ds : List Nat) (hi : IsB w a ds) (hn : n = ds.length) (hnil : a = none → c = 0) (h47 : ds.length ≤ 140737488355328) :
    Calls Try.prog 42 #[.slice a n c] w fun e w' => ∃ L T', e = .returned (.pointer (some ⟨L, 0, none⟩)) ∧ w.heap.size ≤ L ∧ Sl t T' w' L ds [] ∧ Goes (fun _ => False) T w T' w' := by
  obtain ⟨i0, hi0, hz0, hz1, hz2⟩ := info_parts infoB
  go_enter Try.func42, Try.ntmps42
  go_wp2_with (at_builtin; go_loud (refine wpList_appB (by rfl) (.const (.slice none 0 0)) (.tmp 3) 22 (by rfl) w.heap.size 5 i0 Try.underlying22 hi0 hz0 hz1 hz2 (.slice none 0 0) [] 0 (by rfl) (World.ownsRow_nil _ _ _ _) a n c ds (by rfl) hn hnil hi (by omega) (Nat.le_refl _) ?_; intro v1 w1 hown hgr hv1; rw [List.nil_append] at hown; obtain ⟨a1, c1, rfl, h1, h2⟩ := draws_of hown hi.2; have HSL : Hid _ := sl_new (t := t) (T := T) (c1 := c1) (w := w) (w1 := w1) ⟨hgr.os, hgr.tape, hgr.output, hgr.size, fun b hb => hgr.block b hb (by simp [Value.ownBlock])⟩ h1 h2; have hsz := hgr.size; clear hown hgr hv1 h1 h2))
  go_ret
  exact ⟨_, _, rfl, hsz, HSL.out⟩
end Sk
end Go.Proofs.Ytcioaoanhmpdkaa
