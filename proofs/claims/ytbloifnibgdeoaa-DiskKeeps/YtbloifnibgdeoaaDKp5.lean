import Derived.Test.YtbloifnibgdeoaaDKp4
namespace Go.Proofs.Ytbloifnibgdeoaa
namespace Dsk
open Go.RowKit Go.Shelf Go.Maps Go.Sort Byt Laws
set_option linter.unusedVariables false
set_option maxRecDepth 100000
set_option linter.unusedSimpArgs false
attribute [local go_sem ↓] Go.wp_at_zero Go.wp_at_succ

theorem infoH : (Try.prog.info? 59).map (fun i => (i.zero, i.size, i.bytes)) = some (some (.agg #[.string ByteArray.empty, .slice none 0 0]), 2, 40) := by kernel_rfl
/-- What is held of a name, and where its bytes lie. -/
structure He where
  name : ByteArray
  data : List Nat
  a : Option Addr
  c : Nat
def heC (e : He) : List Value := [.string e.name, .slice e.a e.data.length e.c]
def heRow (l : List He) : List Value := l.flatMap heC
def heGone (l : List He) (s : ByteArray) : List He := l.filter fun e => decide (e.name ≠ s)
theorem heRow_get : ∀ {l : List He} {j : Nat} {e : He}, l[j]? = some e → ∀ t, t < 2 → (heRow l)[j * 2 + t]? = (heC e)[t]?
  | [], j, e, h, _, _ => by simp at h
  | x :: r, j, e, h, t, ht => by
    have hl : (heC x).length = 2 := rfl
    unfold heRow
    rw [List.flatMap_cons]
    cases j with
    | zero =>
      simp at h; subst h
      rw [List.getElem?_append_left (by rw [hl]; omega)]
      congr 1; omega
    | succ j =>
      simp at h
      rw [List.getElem?_append_right (by rw [hl]; omega), hl]
      have := heRow_get (l := r) h t ht
      unfold heRow at this
      rw [← this]; congr 1; omega
theorem he_cells {base n c : Nat} {w : World} {a : Option Addr} {l : List He} (h : w.ownsRow base 59 2 (.slice a n c) n (heRow l)) (hn : n = l.length) {j : Nat} {e : He} (hj : l[j]? = some e) :
    ∃ g, a = some ⟨g, 0, none⟩ ∧ n ≤ c ∧ c ≤ 9223372036854775807 ∧ base ≤ g ∧ g < w.heap.size ∧ w.cell? ⟨g, j * 2, none⟩ = some (.string e.name) ∧ w.cell? ⟨g, j * 2 + 1, none⟩ = some (.slice e.a e.data.length e.c) := by
  have hlt : j < l.length := (List.getElem?_eq_some_iff.1 hj).1
  have hlw := h.lt
  rcases h.2 with ⟨_, h0⟩ | ⟨g, cap, cur, e0, h1, h2, h3, h4, h5, h6⟩
  · omega
  · obtain ⟨rfl, _, rfl⟩ := Value.slice.inj e0
    have hc : ∀ t, t < 2 → w.cell? ⟨g, j * 2 + t, none⟩ = (heC e)[t]? := by
      intro t ht
      rw [Go.Joins.cell_of_block h2, ← heRow_get hj t ht, ← h6, List.getElem?_take, if_pos (by omega)]
      simp
    exact ⟨g, rfl, h3, h4, h1, (hlw g rfl).2, hc 0 (by omega), hc 1 (by omega)⟩
theorem heGone_take {l : List He} {s : ByteArray} {k : Nat} {e : He} (h : l[k]? = some e) : heGone (l.take (k + 1)) s = heGone (l.take k) s ++ (if e.name = s then [] else [e]) := by
  unfold heGone
  rw [List.take_add_one, h, List.filter_append]
  congr 1
  by_cases q : e.name = s
  · simp [q]
  · simp [q]
theorem heRow_append (l r : List He) : heRow (l ++ r) = heRow l ++ heRow r := by simp [heRow]
theorem heGone_len (l : List He) (s : ByteArray) (k : Nat) : (heGone (l.take k) s).length ≤ k := by
  have h1 := List.length_filter_le (fun e : He => decide (e.name ≠ s)) (l.take k)
  have h2 := List.length_take_le k l
  unfold heGone; omega
set_option maxHeartbeats 1000000 in
theorem gone_any (a : Option Addr) (c n base : Nat) (l : List He) (w : World) (h : w.ownsRow base 59 2 (.slice a n c) n (heRow l)) (hn : n = l.length) (hl : n ≤ 1000000) (s : ByteArray) :
    Calls Try.prog 26 #[.slice a n c, .string s] w fun e w' => ∃ a' c', e = .returned (.slice a' (heGone l s).length c') ∧ w'.ownsRow w.heap.size 59 2 (.slice a' (heGone l s).length c') (heGone l s).length (heRow (heGone l s)) ∧ Below w.heap.size w w' := by
  obtain ⟨i3, hi3, hz0, hz1, hz2⟩ := info_parts infoH
  have HF : Hid (w.ownsRow base 59 2 (.slice a n c) n (heRow l) ∧ n = l.length) := ⟨h, hn⟩
  clear h hn
  go_enter Try.func26, Try.ntmps26
  go_wp2
  go_loopw [5, 6, 7, 8, 9, 10, 11, 12, 13, 14, 15, 16, 17, 18, 19, 20, 21, 22, 23, 24, 25, 26] (fun out i _ _ _ _ _ _ _ _ _ _ _ _ _ _ _ _ _ _ _ _ wr => ∃ k : Nat, k ≤ n ∧ i = .int .i64 (k : Int) ∧ wr.ownsRow w.heap.size 59 2 out (heGone (l.take k) s).length (heRow (heGone (l.take k) s)) ∧ Below w.heap.size w wr) (fun _ i _ _ _ _ _ _ _ _ _ _ _ _ _ _ _ _ _ _ _ _ _ => n - (intOf i).toNat)
  case atStart => exact ⟨0, Nat.zero_le _, rfl, World.ownsRow_nil _ _ _ _, Below.refl _ _⟩
  case round =>
    rename World => W
    obtain ⟨k, hk, rfl, hown, hbw⟩ := hrel
    by_cases hlt : k < n
    · have hlt' : k < l.length := by rw [← HF.out.2]; exact hlt
      obtain ⟨e, he⟩ : ∃ e, l[k]? = some e := ⟨_, List.getElem?_eq_getElem hlt'⟩
      obtain ⟨g, rfl, q2, q3, _, hgl, c0, c1⟩ := he_cells HF.out.1 HF.out.2 he
      have c0' : W.cell? ⟨g, k * 2, none⟩ = some (.string e.name) := (hbw.cell (p := ⟨g, k * 2, none⟩) hgl).trans c0
      have c1' : W.cell? ⟨g, k * 2 + 1, none⟩ = some (.slice e.a e.data.length e.c) := (hbw.cell (p := ⟨g, k * 2 + 1, none⟩) hgl).trans c1
      have q1 : (k : Int) < (n : Int) := by omega
      have HO : Hid (W.ownsRow w.heap.size 59 2 u5 (heGone (l.take k) s).length (heRow (heGone (l.take k) s)) ∧ Below w.heap.size w W) := ⟨hown, hbw⟩
      have HNX : Hid (heGone (l.take (k + 1)) s = heGone (l.take k) s ++ (if e.name = s then [] else [e])) := heGone_take he
      have hlen := heGone_len l s k
      obtain ⟨R, hR⟩ : ∃ R, R = heGone (l.take k) s := ⟨_, rfl⟩
      rw [← hR] at HO HNX hlen
      obtain ⟨nm, hnm⟩ : ∃ nm, nm = e.name := ⟨_, rfl⟩
      have HE : Hid (heC e = [.string nm, .slice e.a e.data.length e.c] ∧ nm = e.name) := ⟨by rw [hnm]; rfl, hnm⟩
      rw [← hnm] at c0'
      clear hlt' he c0 c1 hgl hown hbw hR hnm
      by_cases hq : nm = s
      · subst hq
        go_wp2
        go_roundw
        case rel =>
          refine ⟨k + 1, by omega, by go_num, ?_⟩
          rw [HNX.out, if_pos HE.out.2.symm, List.append_nil]
          exact HO.out
        case measure => simp [intOf]; omega
      · have hq3 : ¬ nm.toList = s.toList := fun e => hq (ByteArray.ext (Array.toList_inj.1 (by rw [← ByteArray.toList_eq, ← ByteArray.toList_eq]; exact e)))
        have hq4 : (nm.toList == s.toList) = false := by simp [hq3]
        go_wp2_with (at_builtin; refine wpList_app _ (by rfl) (.tmp 20) (.tmp 25) 52 (by rfl) w.heap.size 59 i3 _ 2 40 Try.underlying52 hi3 hz0 hz1 hz2 rfl (by omega) u5 R.length _ (by rfl) (HO.out.1.alloc _) ⟨W.heap.size, 0, none⟩ 1 1 [.string nm, .slice e.a e.data.length e.c] (by rfl) (by rfl) (World.news_of_block (heap_alloc_new W _)) (by intro u hu; simp at hu; rcases hu with rfl | rfl <;> rfl) (by intro _; omega) (by unfold maxLen; omega) (by omega) (Nat.le_trans HO.out.2.size (Keep.alloc [] _ _).size) (W.heap.size + 1) (by simp) ?_; intro g7 c7 w7 hown7 hgr7 hat7 hlt7; have HR : Hid (w7.ownsRow w.heap.size 59 2 (.slice (some ⟨g7, 0, none⟩) (R.length + 1) c7) (R.length + 1) (heRow (R ++ [e])) ∧ Keep u5.ownBlock.toList W w7) := ⟨by rw [heRow_append]; show w7.ownsRow _ _ _ _ _ (_ ++ (heC e ++ [])); rw [HE.out.1]; exact hown7, (Keep.alloc _ _ _).trans (Keep.grown hgr7)⟩; clear hown7 hgr7 hat7 hlt7)
        go_roundw
        case rel =>
          refine ⟨k + 1, by omega, by go_num, ?_⟩
          rw [HNX.out, if_neg (by rw [← HE.out.2]; exact hq)]
          refine ⟨by rw [List.length_append]; exact HR.out.1, HO.out.2.trans ⟨HR.out.2.os, HR.out.2.tape, HR.out.2.output, HR.out.2.size, fun b hb => HR.out.2.block b (Nat.lt_of_lt_of_le hb HO.out.2.size) (fun hm => ?_)⟩⟩
          have := (HO.out.1.lt b (by simpa using hm)).1
          omega
        case measure => simp [intOf]; omega
    · have hk' : k = n := by omega
      subst hk'
      have e : l.take k = l := List.take_of_length_le (by rw [HF.out.2]; exact Nat.le_refl _)
      rw [e] at hown
      obtain ⟨a', c', rfl⟩ := own_slice hown
      have HO : Hid (W.ownsRow w.heap.size 59 2 (.slice a' (heGone l s).length c') (heGone l s).length (heRow (heGone l s)) ∧ Below w.heap.size w W) := ⟨hown, hbw⟩
      clear hown hbw e
      go_wp2
      go_ret
      exact ⟨a', c', rfl, HO.out.1, HO.out.2⟩
end Dsk
end Go.Proofs.Ytbloifnibgdeoaa
