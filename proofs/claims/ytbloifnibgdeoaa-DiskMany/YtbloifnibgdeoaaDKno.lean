import Derived.Test.YtbloifnibgdeoaaRrH
import Derived.Test.YtbloifnibgdeoaaDSam
import Derived.Test.YtbloifnibgdeoaaDFil
import Derived.Deep.QuietTactic
import Derived.BigQuiet
import Derived.Deep.RegionLaw
import Derived.Test.YtbloifnibgdeoaaRLtw
import Derived.Test.YtbloifnibgdeoaaRrI
import Derived.Test.YtbloifnibgdeoaaRrC
import Derived.Test.YtbloifnibgdeoaaRFil
import Derived.WalkKit
import Derived.Lib.SlBytesConst
import Derived.Lib.SmallJoins
import Derived.WalkSpells
import Derived.WalkLawsBesides
namespace Go.Proofs.Ytbloifnibgdeoaa
namespace Dsk
open Go.RowKit Go.Shelf Go.Maps Go.Sort Byt Laws
set_option linter.unusedVariables false
set_option maxRecDepth 100000
set_option linter.unusedSimpArgs false
attribute [local go_sem ↓] Go.wp_at_zero Go.wp_at_succ

theorem infoT : (Try.prog.info? 9).map (fun i => (i.zero, i.size, i.bytes)) = some (some (.string ByteArray.empty), 1, 16) := by kernel_rfl
/-- Texts that lie in a slice. -/
def StrAt (w : World) (a : Option Addr) (ss : List ByteArray) : Prop := ∀ (j : Nat) (s : ByteArray), ss[j]? = some s → ∃ b off, a = some ⟨b, off, none⟩ ∧ w.cell? ⟨b, off + j, none⟩ = some (.string s)
theorem StrAt.keep {w w' : World} {a : Option Addr} {ss : List ByteArray} {bs : List Nat} (h : StrAt w a ss) (hk : Keep bs w w') (hn : ∀ ad, a = some ad → ad.block ∉ bs) : StrAt w' a ss := fun j s hj => by
  obtain ⟨b, off, e, hc⟩ := h j s hj
  exact ⟨b, off, e, (hk.cell (p := ⟨b, off + j, none⟩) (World.block_lt_of_cell? w _ hc) (hn ⟨b, off, none⟩ e)).trans hc⟩
theorem StrAt.of {w : World} {base n c : Nat} {a : Option Addr} {ss : List ByteArray} (h : w.ownsRow base 9 1 (.slice a n c) n (ss.map Value.string)) : StrAt w a ss ∧ n = ss.length := by
  refine ⟨fun j s hj => ?_, by have := h.1; simp at this; omega⟩
  have hlt : j < ss.length := (List.getElem?_eq_some_iff.1 hj).1
  have hl := h.1
  rcases h.2 with ⟨_, h0⟩ | ⟨g, cap, cur, e, h1, h2, h3, h4, h5, h6⟩
  · simp at hl; omega
  · obtain ⟨rfl, _, _⟩ := Value.slice.inj e
    refine ⟨g, 0, rfl, ?_⟩
    simp at hl
    have hcj : (cur.toList)[j]? = some (Value.string s) := by
      have z : (ss.map Value.string)[j]? = some (Value.string s) := by rw [List.getElem?_map, hj]; rfl
      rw [← h6, List.getElem?_take, if_pos (by omega)] at z
      exact z
    rw [Nat.zero_add, Go.Joins.cell_of_block h2]
    simpa using hcj
set_option maxHeartbeats 1000000 in
theorem sameTexts_true (a b : Option Addr) (ca cb n m : Nat) (l : List ByteArray) (w : World) (ha : StrAt w a l) (hb : StrAt w b l) (hlen : l.length ≤ 9223372036854775807) (hn : n = l.length) (hm : m = l.length) :
    Calls Try.prog 34 #[.slice a n ca, .slice b m cb] w fun e w' => e = .returned (.bool true) ∧ Below w.heap.size w w' := by
  obtain rfl : m = n := by omega
  clear hm
  have HA : Hid (StrAt w a l) := ha
  have HB : Hid (StrAt w b l) := hb
  have HN : Hid (m = l.length) := hn
  have hmm : m ≤ 9223372036854775807 := by omega
  clear ha hb hn hlen
  go_enter Try.func34, Try.ntmps34
  go_wp2
  go_loopw [5] (fun i wr => ∃ k q : Nat, k ≤ m ∧ i = .int .i64 (k : Int) ∧ wr = w.drewN q) (fun i _ => m - (intOf i).toNat)
  case atStart => exact ⟨0, 0, Nat.zero_le _, rfl, rfl⟩
  case round =>
    obtain ⟨k, q, hk, rfl, rfl⟩ := hrel
    by_cases hlt : k < m
    · have hlt' : k < l.length := by rw [← HN.out]; exact hlt
      obtain ⟨x, hx⟩ : ∃ x, l[k]? = some x := ⟨_, List.getElem?_eq_getElem hlt'⟩
      obtain ⟨b1, o1, rfl, c1⟩ := HA.out k x hx
      obtain ⟨b2, o2, rfl, c2⟩ := HB.out k x hx
      have q1 : (k : Int) < (m : Int) := by omega
      clear hlt' hx
      go_wp2
      go_quiet (fail)
      go_wp2
      go_roundw
      case rel => exact ⟨k + 1, _, by omega, by go_num, rfl⟩
      case measure => simp [intOf]; omega
    · go_wp2
      go_ret
      exact ⟨rfl, below_drewN (Below.refl _ _) _⟩
set_option maxHeartbeats 1000000 in
theorem names_any (a : Option Addr) (c : Nat) (base : Nat) (fs : List Fi) (ds : List (Option Addr × Nat)) (w : World) (h : FilesAt base w (.slice a fs.length c) fs ds) (hl : fs.length ≤ 100000000) :
    Calls Try.prog 33 #[.slice a fs.length c] w fun e w' => ∃ a' c', e = .returned (.slice a' fs.length c') ∧ w'.ownsRow w.heap.size 9 1 (.slice a' fs.length c') fs.length ((fs.map (·.name)).map Value.string) ∧ Below w.heap.size w w' := by
  obtain ⟨i3, hi3, hz0, hz1, hz2⟩ := info_parts infoT
  obtain ⟨N, hN⟩ : ∃ N, N = fs.length := ⟨_, rfl⟩
  have HN : Hid (N = fs.length) := hN
  have HF : Hid (FilesAt base w (.slice a fs.length c) fs ds) := h
  rw [← hN] at hl ⊢
  clear h hN
  go_enter Try.func33, Try.ntmps33
  go_wp2
  go_loopw [3, 4, 5, 6, 7, 8, 9, 10, 11, 12, 13, 14, 15, 16, 17, 18] (fun out i _ _ _ _ _ _ _ _ _ _ _ _ _ _ wr => ∃ k : Nat, k ≤ N ∧ i = .int .i64 (k : Int) ∧ wr.ownsRow w.heap.size 9 1 out k (((fs.take k).map (·.name)).map Value.string) ∧ Below w.heap.size w wr) (fun _ i _ _ _ _ _ _ _ _ _ _ _ _ _ _ _ => N - (intOf i).toNat)
  case atStart => exact ⟨0, Nat.zero_le _, rfl, World.ownsRow_nil _ _ _ _, Below.refl _ _⟩
  case round =>
    rename World => W
    obtain ⟨k, hk, rfl, hown, hbw⟩ := hrel
    by_cases hlt : k < N
    · have hlt' : k < fs.length := by rw [← HN.out]; exact hlt
      obtain ⟨f, hf⟩ : ∃ f, fs[k]? = some f := ⟨_, List.getElem?_eq_getElem hlt'⟩
      obtain ⟨x, hx⟩ : ∃ x, ds[k]? = some x := ⟨_, List.getElem?_eq_getElem (by rw [HF.out.len]; exact hlt')⟩
      obtain ⟨g, cap, e, h1, h2, c0, _⟩ := HF.out.cells hf hx
      obtain ⟨rfl, _, rfl⟩ := Value.slice.inj e
      have hgl := World.block_lt_of_cell? w _ c0
      have c0' : W.cell? ⟨g, k * 3, none⟩ = some (.string f.name) := (hbw.cell (p := ⟨g, k * 3, none⟩) hgl).trans c0
      have q1 : (k : Int) < (N : Int) := by omega
      have q2 : N ≤ c := by rw [HN.out]; exact h1
      have HO : Hid (W.ownsRow w.heap.size 9 1 u3 k (((fs.take k).map (·.name)).map Value.string) ∧ Below w.heap.size w W) := ⟨hown, hbw⟩
      have HNX : Hid (((fs.take (k + 1)).map (·.name)).map Value.string = ((fs.take k).map (·.name)).map Value.string ++ [.string f.name]) := by
        show _ = _
        rw [List.take_add_one, hf]; simp
      generalize f.name = nm at *
      clear hlt' hf hx e h1 c0 hgl hown hbw
      go_wp2_with (at_builtin; refine wpList_app _ (by rfl) (.tmp 11) (.tmp 17) 53 (by rfl) w.heap.size 9 i3 _ 1 16 Try.underlying53 hi3 hz0 hz1 hz2 rfl (by omega) u3 k _ (by rfl) (HO.out.1.alloc _) ⟨W.heap.size, 0, none⟩ 1 1 [.string nm] (by rfl) (by rfl) (World.news_of_block (heap_alloc_new W _)) (by intro u hu; simp at hu; subst hu; rfl) (by intro _; omega) (by unfold maxLen; omega) (by omega) (Nat.le_trans HO.out.2.size (Keep.alloc [] _ _).size) (W.heap.size + 1) (by simp) ?_; intro g7 c7 w7 hown7 hgr7 hat7 hlt7; have HR : Hid (w7.ownsRow w.heap.size 9 1 (.slice (some ⟨g7, 0, none⟩) (k + 1) c7) (k + 1) (((fs.take (k + 1)).map (·.name)).map Value.string) ∧ Keep u3.ownBlock.toList W w7) := ⟨by rw [HNX.out]; exact hown7, (Keep.alloc _ _ _).trans (Keep.grown hgr7)⟩; clear hown7 hgr7 hat7 hlt7)
      go_roundw
      case rel =>
        refine ⟨k + 1, by omega, by go_num, HR.out.1, HO.out.2.trans ⟨HR.out.2.os, HR.out.2.tape, HR.out.2.output, HR.out.2.size, fun b hb => HR.out.2.block b (Nat.lt_of_lt_of_le hb HO.out.2.size) (fun hm => ?_)⟩⟩
        have := (HO.out.1.lt b (by simpa using hm)).1
        omega
      case measure => simp [intOf]; omega
    · have hk' : k = N := by omega
      subst hk'
      obtain ⟨a', c', rfl⟩ := own_slice hown
      have HO : Hid (W.ownsRow w.heap.size 9 1 (.slice a' k c') k (((fs.take k).map (·.name)).map Value.string) ∧ Below w.heap.size w W) := ⟨hown, hbw⟩
      clear hown hbw
      go_wp2
      go_ret
      have e : fs.take k = fs := List.take_of_length_le (by rw [HN.out]; exact Nat.le_refl _)
      have z := HO.out.1
      rw [e] at z
      exact ⟨a', c', rfl, z, HO.out.2⟩
end Dsk
end Go.Proofs.Ytbloifnibgdeoaa
namespace Go.Proofs.Ytbloifnibgdeoaa
namespace Dsk
open Go.RowKit Go.Shelf Go.Maps Go.Sort Byt Laws
set_option linter.unusedVariables false
set_option maxRecDepth 100000
set_option linter.unusedSimpArgs false
attribute [local go_sem ↓] Go.wp_at_zero Go.wp_at_succ

set_option maxHeartbeats 1000000 in
/-- The first place of a name that is there. -/
theorem at_any (a : Option Addr) (c n : Nat) (base : Nat) (fs : List Fi) (ds : List (Option Addr × Nat)) (w : World) (h : FilesAt base w (.slice a fs.length c) fs ds) (s : ByteArray) (hs : ∃ f ∈ fs, f.name = s) (hn : n = fs.length) (hl : fs.length ≤ 1000000000000) :
    Calls Try.prog 35 #[.slice a n c, .string s] w fun e w' => (∃ k : Nat, e = .returned (.int .i64 (k : Int)) ∧ ∃ f, fs[k]? = some f ∧ f.name = s) ∧ w' = w := by
  have HF : Hid (FilesAt base w (.slice a fs.length c) fs ds ∧ n = fs.length) := ⟨h, hn⟩
  have HS : Hid (∃ f ∈ fs, f.name = s) := hs
  have hnn : n ≤ 1000000000000 := by omega
  clear h hn hs hl
  go_enter Try.func35, Try.ntmps35
  go_wp2
  go_loopw [5] (fun i wr => ∃ k : Nat, k ≤ n ∧ i = .int .i64 (k : Int) ∧ wr = w ∧ Hid (∀ (j : Nat) (f : Fi), j < k → fs[j]? = some f → f.name ≠ s)) (fun i _ => n - (intOf i).toNat)
  case atStart => exact ⟨0, Nat.zero_le _, rfl, rfl, fun j f hj => by omega⟩
  case round =>
    obtain ⟨k, hk, rfl, rfl, HB⟩ := hrel
    by_cases hlt : k < n
    · have hlt' : k < fs.length := by rw [← HF.out.2]; exact hlt
      obtain ⟨f, hf⟩ : ∃ f, fs[k]? = some f := ⟨_, List.getElem?_eq_getElem hlt'⟩
      obtain ⟨x, hx⟩ : ∃ x, ds[k]? = some x := ⟨_, List.getElem?_eq_getElem (by rw [HF.out.1.len]; exact hlt')⟩
      obtain ⟨g, cap, e, h1, h2, c0, _⟩ := HF.out.1.cells hf hx
      obtain ⟨rfl, _, rfl⟩ := Value.slice.inj e
      have q1 : (k : Int) < (n : Int) := by omega
      have q2 : n ≤ c := by rw [HF.out.2]; exact h1
      have HK : Hid (fs[k]? = some f) := hf
      obtain ⟨nm, hnm⟩ : ∃ nm, nm = f.name := ⟨_, rfl⟩
      have HNM : Hid (nm = f.name) := hnm
      rw [← hnm] at c0
      clear hlt' hf hx e h1 hnm
      by_cases hq : nm = s
      · subst hq
        go_wp2
        go_ret
        exact ⟨⟨k, rfl, f, HK.out, HNM.out.symm⟩, rfl⟩
      · have hq3 : ¬ nm.toList = s.toList := fun e => hq (ByteArray.ext (Array.toList_inj.1 (by rw [← ByteArray.toList_eq, ← ByteArray.toList_eq]; exact e)))
        have hq4 : (nm.toList == s.toList) = false := by simp [hq3]
        go_wp2
        go_roundw
        case rel =>
          refine ⟨k + 1, by omega, by go_num, by trivial, fun j f' hj hf' => ?_⟩
          by_cases e : j = k
          · subst e
            have z := HK.out
            rw [hf'] at z
            cases z
            rw [← HNM.out]; exact hq
          · exact HB.out j f' (by omega) hf'
        case measure => simp [intOf]; omega
    · exfalso
      obtain ⟨f, hf, e⟩ := HS.out
      obtain ⟨j, hj⟩ := List.getElem?_of_mem hf
      have : j < fs.length := (List.getElem?_eq_some_iff.1 hj).1
      exact HB.out j f (by have := HF.out.2; omega) hj e
end Dsk
end Go.Proofs.Ytbloifnibgdeoaa
namespace Go.Proofs.Ytbloifnibgdeoaa
namespace Dsk
open Go.RowKit Go.Shelf Go.Maps Go.Sort Byt Laws
set_option linter.unusedVariables false
set_option maxRecDepth 100000
set_option linter.unusedSimpArgs false
set_option maxHeartbeats 1000000 in
theorem prefix_true (a b : Option Addr) (ca cb n m : Nat) (l r : List Nat) (w : World) (ha : IsB w a l) (hb : IsB w b r) (na : a = none → ca = 0) (nb : b = none → cb = 0) (hn : n = l.length) (hm : m = r.length) (hmc : m ≤ cb) (hcb : cb ≤ 9223372036854775807) (hp : l <+: r) :
    Calls Try.prog 36 #[.slice a n ca, .slice b m cb] w fun e w' => e = .returned (.bool true) ∧ Below w.heap.size w w' := by
  have hle : n ≤ m := by rw [hn, hm]; exact hp.length_le
  have hle' : (n : Int) ≤ (m : Int) := by omega
  have ht : r.take n = l := by rw [hn]; exact (List.prefix_iff_eq_take.1 hp).symm
  have h1 := fun w' (h : IsB w' a l) => conv_any w' a ca n l h hn na
  have h2 := fun w' (h : IsB w' b l) => conv_any w' b cb n l h hn nb
  have h1' := h1 w.drew ha
  have h2' := h2 w.drew (by rw [← ht]; exact hb.take _)
  have hnc : n ≤ cb := by omega
  have hd : decide ((n : Int) ≤ (m : Int)) = true := by simpa using hle'
  clear ha hb na nb hn hm h1 h2 hp ht
  generalize ofB l = s at *
  go_enter Try.func36, Try.ntmps36
  go_wp2
  go_region
  go_wp2
  go_ret
  exact ⟨rfl, (Below.refl _ _).drew⟩
end Dsk
end Go.Proofs.Ytbloifnibgdeoaa
namespace Go.Proofs.Ytbloifnibgdeoaa
namespace Dsk
open Go.RowKit Go.Shelf Go.Maps Go.Sort Byt Laws
set_option linter.unusedVariables false
set_option maxRecDepth 100000
set_option linter.unusedSimpArgs false
attribute [local go_sem ↓] Go.wp_at_zero Go.wp_at_succ

theorem infoH : (Try.prog.info? 59).map (fun i => (i.zero, i.size, i.bytes)) = some (some (.agg #[.string ByteArray.empty, .slice none 0 0]), 2, 40) := by kernel_rfl
/-- What is held of a name, and where its bytes lie. -/
structure He where
  name : ByteArray
  data : List Nat
  a : Option Addr
  c : Nat
def heC (e : He) : List Value := [.string e.name, .slice e.a e.data.length e.c]
def heRow (l : List He) : List Value := l.flatMap heC
def heGone (l : List He) (s : ByteArray) : List He := l.filter fun e => decide (e.name ≠ s)
theorem heRow_get : ∀ {l : List He} {j : Nat} {e : He}, l[j]? = some e → ∀ t, t < 2 → (heRow l)[j * 2 + t]? = (heC e)[t]?
  | [], j, e, h, _, _ => by simp at h
  | x :: r, j, e, h, t, ht => by
    have hl : (heC x).length = 2 := rfl
    unfold heRow
    rw [List.flatMap_cons]
    cases j with
    | zero =>
      simp at h; subst h
      rw [List.getElem?_append_left (by rw [hl]; omega)]
      congr 1; omega
    | succ j =>
      simp at h
      rw [List.getElem?_append_right (by rw [hl]; omega), hl]
      have := heRow_get (l := r) h t ht
      unfold heRow at this
      rw [← this]; congr 1; omega
theorem he_cells {base n c : Nat} {w : World} {a : Option Addr} {l : List He} (h : w.ownsRow base 59 2 (.slice a n c) n (heRow l)) (hn : n = l.length) {j : Nat} {e : He} (hj : l[j]? = some e) :
    ∃ g, a = some ⟨g, 0, none⟩ ∧ n ≤ c ∧ c ≤ 9223372036854775807 ∧ base ≤ g ∧ g < w.heap.size ∧ w.cell? ⟨g, j * 2, none⟩ = some (.string e.name) ∧ w.cell? ⟨g, j * 2 + 1, none⟩ = some (.slice e.a e.data.length e.c) := by
  have hlt : j < l.length := (List.getElem?_eq_some_iff.1 hj).1
  have hlw := h.lt
  rcases h.2 with ⟨_, h0⟩ | ⟨g, cap, cur, e0, h1, h2, h3, h4, h5, h6⟩
  · omega
  · obtain ⟨rfl, _, rfl⟩ := Value.slice.inj e0
    have hc : ∀ t, t < 2 → w.cell? ⟨g, j * 2 + t, none⟩ = (heC e)[t]? := by
      intro t ht
      rw [Go.Joins.cell_of_block h2, ← heRow_get hj t ht, ← h6, List.getElem?_take, if_pos (by omega)]
      simp
    exact ⟨g, rfl, h3, h4, h1, (hlw g rfl).2, hc 0 (by omega), hc 1 (by omega)⟩
theorem heGone_take {l : List He} {s : ByteArray} {k : Nat} {e : He} (h : l[k]? = some e) : heGone (l.take (k + 1)) s = heGone (l.take k) s ++ (if e.name = s then [] else [e]) := by
  unfold heGone
  rw [List.take_add_one, h, List.filter_append]
  congr 1
  by_cases q : e.name = s
  · simp [q]
  · simp [q]
theorem heRow_append (l r : List He) : heRow (l ++ r) = heRow l ++ heRow r := by simp [heRow]
theorem heGone_len (l : List He) (s : ByteArray) (k : Nat) : (heGone (l.take k) s).length ≤ k := by
  have h1 := List.length_filter_le (fun e : He => decide (e.name ≠ s)) (l.take k)
  have h2 := List.length_take_le k l
  unfold heGone; omega
set_option maxHeartbeats 1000000 in
theorem gone_any (a : Option Addr) (c n base : Nat) (l : List He) (w : World) (h : w.ownsRow base 59 2 (.slice a n c) n (heRow l)) (hn : n = l.length) (hl : n ≤ 1000000) (s : ByteArray) :
    Calls Try.prog 26 #[.slice a n c, .string s] w fun e w' => ∃ a' c', e = .returned (.slice a' (heGone l s).length c') ∧ w'.ownsRow w.heap.size 59 2 (.slice a' (heGone l s).length c') (heGone l s).length (heRow (heGone l s)) ∧ Below w.heap.size w w' := by
  obtain ⟨i3, hi3, hz0, hz1, hz2⟩ := info_parts infoH
  have HF : Hid (w.ownsRow base 59 2 (.slice a n c) n (heRow l) ∧ n = l.length) := ⟨h, hn⟩
  clear h hn
  go_enter Try.func26, Try.ntmps26
  go_wp2
  go_loopw [5, 6, 7, 8, 9, 10, 11, 12, 13, 14, 15, 16, 17, 18, 19, 20, 21, 22, 23, 24, 25, 26] (fun out i _ _ _ _ _ _ _ _ _ _ _ _ _ _ _ _ _ _ _ _ wr => ∃ k : Nat, k ≤ n ∧ i = .int .i64 (k : Int) ∧ wr.ownsRow w.heap.size 59 2 out (heGone (l.take k) s).length (heRow (heGone (l.take k) s)) ∧ Below w.heap.size w wr) (fun _ i _ _ _ _ _ _ _ _ _ _ _ _ _ _ _ _ _ _ _ _ _ => n - (intOf i).toNat)
  case atStart => exact ⟨0, Nat.zero_le _, rfl, World.ownsRow_nil _ _ _ _, Below.refl _ _⟩
  case round =>
    rename World => W
    obtain ⟨k, hk, rfl, hown, hbw⟩ := hrel
    by_cases hlt : k < n
    · have hlt' : k < l.length := by rw [← HF.out.2]; exact hlt
      obtain ⟨e, he⟩ : ∃ e, l[k]? = some e := ⟨_, List.getElem?_eq_getElem hlt'⟩
      obtain ⟨g, rfl, q2, q3, _, hgl, c0, c1⟩ := he_cells HF.out.1 HF.out.2 he
      have c0' : W.cell? ⟨g, k * 2, none⟩ = some (.string e.name) := (hbw.cell (p := ⟨g, k * 2, none⟩) hgl).trans c0
      have c1' : W.cell? ⟨g, k * 2 + 1, none⟩ = some (.slice e.a e.data.length e.c) := (hbw.cell (p := ⟨g, k * 2 + 1, none⟩) hgl).trans c1
      have q1 : (k : Int) < (n : Int) := by omega
      have HO : Hid (W.ownsRow w.heap.size 59 2 u5 (heGone (l.take k) s).length (heRow (heGone (l.take k) s)) ∧ Below w.heap.size w W) := ⟨hown, hbw⟩
      have HNX : Hid (heGone (l.take (k + 1)) s = heGone (l.take k) s ++ (if e.name = s then [] else [e])) := heGone_take he
      have hlen := heGone_len l s k
      obtain ⟨R, hR⟩ : ∃ R, R = heGone (l.take k) s := ⟨_, rfl⟩
      rw [← hR] at HO HNX hlen
      obtain ⟨nm, hnm⟩ : ∃ nm, nm = e.name := ⟨_, rfl⟩
      have HE : Hid (heC e = [.string nm, .slice e.a e.data.length e.c] ∧ nm = e.name) := ⟨by rw [hnm]; rfl, hnm⟩
      rw [← hnm] at c0'
      clear hlt' he c0 c1 hgl hown hbw hR hnm
      by_cases hq : nm = s
      · subst hq
        go_wp2
        go_roundw
        case rel =>
          refine ⟨k + 1, by omega, by go_num, ?_⟩
          rw [HNX.out, if_pos HE.out.2.symm, List.append_nil]
          exact HO.out
        case measure => simp [intOf]; omega
      · have hq3 : ¬ nm.toList = s.toList := fun e => hq (ByteArray.ext (Array.toList_inj.1 (by rw [← ByteArray.toList_eq, ← ByteArray.toList_eq]; exact e)))
        have hq4 : (nm.toList == s.toList) = false := by simp [hq3]
        go_wp2_with (at_builtin; refine wpList_app _ (by rfl) (.tmp 20) (.tmp 25) 52 (by rfl) w.heap.size 59 i3 _ 2 40 Try.underlying52 hi3 hz0 hz1 hz2 rfl (by omega) u5 R.length _ (by rfl) (HO.out.1.alloc _) ⟨W.heap.size, 0, none⟩ 1 1 [.string nm, .slice e.a e.data.length e.c] (by rfl) (by rfl) (World.news_of_block (heap_alloc_new W _)) (by intro u hu; simp at hu; rcases hu with rfl | rfl <;> rfl) (by intro _; omega) (by unfold maxLen; omega) (by omega) (Nat.le_trans HO.out.2.size (Keep.alloc [] _ _).size) (W.heap.size + 1) (by simp) ?_; intro g7 c7 w7 hown7 hgr7 hat7 hlt7; have HR : Hid (w7.ownsRow w.heap.size 59 2 (.slice (some ⟨g7, 0, none⟩) (R.length + 1) c7) (R.length + 1) (heRow (R ++ [e])) ∧ Keep u5.ownBlock.toList W w7) := ⟨by rw [heRow_append]; show w7.ownsRow _ _ _ _ _ (_ ++ (heC e ++ [])); rw [HE.out.1]; exact hown7, (Keep.alloc _ _ _).trans (Keep.grown hgr7)⟩; clear hown7 hgr7 hat7 hlt7)
        go_roundw
        case rel =>
          refine ⟨k + 1, by omega, by go_num, ?_⟩
          rw [HNX.out, if_neg (by rw [← HE.out.2]; exact hq)]
          refine ⟨by rw [List.length_append]; exact HR.out.1, HO.out.2.trans ⟨HR.out.2.os, HR.out.2.tape, HR.out.2.output, HR.out.2.size, fun b hb => HR.out.2.block b (Nat.lt_of_lt_of_le hb HO.out.2.size) (fun hm => ?_)⟩⟩
          have := (HO.out.1.lt b (by simpa using hm)).1
          omega
        case measure => simp [intOf]; omega
    · have hk' : k = n := by omega
      subst hk'
      have e : l.take k = l := List.take_of_length_le (by rw [HF.out.2]; exact Nat.le_refl _)
      rw [e] at hown
      obtain ⟨a', c', rfl⟩ := own_slice hown
      have HO : Hid (W.ownsRow w.heap.size 59 2 (.slice a' (heGone l s).length c') (heGone l s).length (heRow (heGone l s)) ∧ Below w.heap.size w W) := ⟨hown, hbw⟩
      clear hown hbw e
      go_wp2
      go_ret
      exact ⟨a', c', rfl, HO.out.1, HO.out.2⟩
end Dsk
end Go.Proofs.Ytbloifnibgdeoaa
namespace Go.Proofs.Ytbloifnibgdeoaa
namespace Dsk
open Go.RowKit Go.Shelf Go.Maps Go.Sort Byt Laws
set_option linter.unusedVariables false
set_option maxRecDepth 100000
set_option linter.unusedSimpArgs false

/-- A call of a script, as it lies. -/
structure OpD where
  kind : Int
  name : ByteArray
  too : ByteArray
  data : List Nat
  da : Option Addr
  dc : Nat
  x : Int
  y : Int
  z : Int
  keep : List Int
  ka : Option Addr
  kc : Nat
def OpD.cells (o : OpD) : List Value := [.int .i64 o.kind, .string o.name, .string o.too, .slice o.da o.data.length o.dc, .int .i64 o.x, .int .i64 o.y, .int .i64 o.z, .slice o.ka o.keep.length o.kc]
structure OpOk (w : World) (o : OpD) : Prop where
  isB : IsB w o.da o.data
  dn : o.da = none → o.dc = 0
  dl : o.data.length ≤ o.dc
  dm : o.dc ≤ 9223372036854775807
  ints : IntsAt w o.ka o.keep
  kn : o.ka = none → o.kc = 0
  kl : o.keep.length ≤ o.kc
  km : o.kc ≤ 9223372036854775807
  kw : ∀ v ∈ o.keep, v ≤ 9223372036854775807
  nm : o.name.size ≤ maxLen ∧ o.too.size ≤ maxLen
  big : o.data.length ≤ 140737488355328 ∧ o.keep.length ≤ 140737488355328
  num : (o.kind ≤ 9223372036854775807 ∧ -9223372036854775808 ≤ o.kind) ∧ o.x ≤ 9223372036854775807 ∧ o.y ≤ 9223372036854775807 ∧ o.z ≤ 9223372036854775807
structure OpsAt (w : World) (a : Option Addr) (os : List OpD) : Prop where
  at_ : ∀ (k : Nat) (o : OpD), os[k]? = some o → ∃ b off, a = some ⟨b, off, none⟩ ∧ b < w.heap.size ∧ ∀ t, t < 8 → w.cell? ⟨b, off + k * 8 + t, none⟩ = o.cells[t]?
  ok : ∀ o ∈ os, OpOk w o
def sumO (os : List OpD) : Nat := (os.map fun o => o.data.length + o.keep.length).sum
theorem sumO_take {os : List OpD} {k : Nat} {o : OpD} (h : os[k]? = some o) : sumO (os.take (k + 1)) = sumO (os.take k) + (o.data.length + o.keep.length) := by
  unfold sumO
  rw [List.take_add_one, h]
  simp
set_option maxHeartbeats 1000000 in
/-- What the law's small tells of a script alone. -/
theorem small_ops (a : Option Addr) (n c : Nat) (os : List OpD) (w : World) (h : OpsAt w a os) (hn : n = os.length) (hc : n ≤ c) (hc2 : c ≤ 9223372036854775807) :
    Calls Try.prog 9 #[.slice none 0 0, .slice a n c] w fun e w' => (∃ b : Bool, e = .returned (.bool b) ∧ (b = true → sumO os ≤ 1048576 ∧ os.length ≤ 400)) ∧ ∃ q, w' = w.drewN q := by
  have HF : Hid (OpsAt w a os) := h
  have HN : Hid (n = os.length) := hn
  clear h hn
  go_enter Try.func9, Try.ntmps9
  go_wp2
  go_loopw [5, 6] (fun s i wr => s = .int .i64 0 ∧ i = .int .i64 0 ∧ wr = w) (fun _ i _ => (intOf i).toNat)
  case atStart => exact ⟨rfl, rfl, by first | rfl | trivial⟩
  case round =>
    obtain ⟨rfl, rfl, rfl⟩ := hrel
    go_wp2
    go_loopw [5, 7] (fun s i w9 => ∃ k sk q : Nat, k ≤ n ∧ i = .int .i64 k ∧ s = .int .i64 (sk : Int) ∧ sk ≤ 1048576 ∧ Hid (sumO (os.take k) = sk) ∧ w9 = wr.drewN q) (fun _ i _ => n - (intOf i).toNat)
    case atStart => exact ⟨0, 0, 0, Nat.zero_le _, rfl, rfl, by omega, show _ = _ from rfl, rfl⟩
    case round =>
      obtain ⟨k, sk, q, hk, rfl, rfl, hs, HS, rfl⟩ := hrel
      by_cases hlt : k < n
      · have hlt' : (k : Int) < (n : Int) := by omega
        have hks : k < os.length := by have := HN.out; omega
        obtain ⟨o, ho⟩ : ∃ o, os[k]? = some o := ⟨_, List.getElem?_eq_getElem hks⟩
        obtain ⟨b, off, rfl, _, hcl⟩ := HF.out.at_ k o ho
        have hok := HF.out.ok o (List.mem_of_getElem? ho)
        have c3 := hcl 3 (by omega)
        have c7 := hcl 7 (by omega)
        replace c3 : wr.cell? ⟨b, off + k * 8 + 3, none⟩ = some (.slice o.da o.data.length o.dc) := c3
        replace c7 : wr.cell? ⟨b, off + k * 8 + 7, none⟩ = some (.slice o.ka o.keep.length o.kc) := c7
        have hb1 := hok.big
        have HNX : Hid (sumO (os.take (k + 1)) = sumO (os.take k) + (o.data.length + o.keep.length)) := sumO_take ho
        obtain ⟨l1, hl1⟩ : ∃ l1, l1 = o.data.length := ⟨_, rfl⟩
        obtain ⟨l2, hl2⟩ : ∃ l2, l2 = o.keep.length := ⟨_, rfl⟩
        have HLEN : Hid (l1 = o.data.length ∧ l2 = o.keep.length) := ⟨hl1, hl2⟩
        rw [← hl1] at c3 hb1
        rw [← hl2] at c7 hb1
        obtain ⟨hb1, hb2⟩ := hb1
        clear ho hcl hok hl1 hl2
        by_cases hbig : 1048576 < sk + l1 + l2
        · have hbig' : (1048576 : Int) < (sk : Int) + (l1 : Int) + (l2 : Int) := by omega
          go_wp2
          go_quiet (fail)
          go_wp2
          go_ret
          exact ⟨⟨false, rfl, by intro e; cases e⟩, _, rfl⟩
        · have hbig' : ¬ (1048576 : Int) < (sk : Int) + (l1 : Int) + (l2 : Int) := by omega
          go_wp2
          go_quiet (fail)
          go_wp2
          go_roundw
          case rel => exact ⟨k + 1, sk + l1 + l2, _, by omega, by go_num, by go_num, by omega, show _ = _ by rw [HNX.out, HS.out, HLEN.out.1, HLEN.out.2, Nat.add_assoc], rfl⟩
          case measure => simp [intOf]; omega
      · have hk' : k = n := by omega
        subst hk'
        have HT : Hid (sumO os ≤ 1048576) := by
          have e := HS.out
          rw [List.take_of_length_le (by rw [← HN.out]; exact Nat.le_refl _)] at e
          show _ ≤ _
          rw [e]; exact hs
        clear HS
        go_wp2
        go_ret
        refine ⟨⟨_, rfl, fun e => ⟨HT.out, ?_⟩⟩, _, rfl⟩
        have := HN.out
        simp at e
        omega
end Dsk
end Go.Proofs.Ytbloifnibgdeoaa
namespace Go.Proofs.Ytbloifnibgdeoaa
namespace Dsk
open Go.RowKit Go.Shelf Go.Maps Go.Sort Byt Laws
set_option linter.unusedVariables false
set_option maxRecDepth 100000
set_option linter.unusedSimpArgs false

theorem own_goes {T T' : Nat → Nat} {w w' : World} {base : Nat} {e : TypeId} {size : Nat} {v : Value} {n : Nat} {xs : List Value} (h : w.ownsRow base e size v n xs) (ht : ∀ g, v.ownBlock = some g → T g = 0) (g : Goes T T' w w') : w'.ownsRow base e size v n xs := by
  have hlt := h.lt
  refine ⟨h.1, ?_⟩
  rcases h.2 with h0 | ⟨b, cap, cur, rfl, h1, h2, h3⟩
  · exact .inl h0
  · exact .inr ⟨b, cap, cur, rfl, h1, ((g.block b (hlt b rfl).2 (ht b rfl)).1).trans h2, h3⟩
theorem StrAt.goes {T T' : Nat → Nat} {w w' : World} {a : Option Addr} {ss : List ByteArray} (h : StrAt w a ss) (ho : ∀ ad, a = some ad → T ad.block = 0) (g : Goes T T' w w') : StrAt w' a ss := fun j s hj => by
  obtain ⟨b, off, e, hc⟩ := h j s hj
  refine ⟨b, off, e, ?_⟩
  have hlt := World.block_lt_of_cell? w _ hc
  have hb := (g.block b hlt (ho _ e)).1
  unfold World.cell? at hc ⊢
  rw [hb]; exact hc
theorem Pd.fresh {T : Nat → Nat} {w : World} {d mb : Nat} {fb : Nat → Nat} {m : Dm} (h : Pd T w d mb fb m) {b : Nat} (hb : w.heap.size ≤ b) : T b = 0 := by
  obtain ⟨cv, D, h⟩ := h
  exact h.fresh b hb
theorem Pd.below {T : Nat → Nat} {w w' : World} {d mb : Nat} {fb : Nat → Nat} {m : Dm} (h : Pd T w d mb fb m) (hb : Below w.heap.size w w') : Pd T w' d mb fb m := by
  obtain ⟨cv, D, h⟩ := h
  exact ⟨cv, D, Pdi.below h hb⟩
theorem Pd.sures {T : Nat → Nat} {w : World} {d mb : Nat} {fb : Nat → Nat} {m : Dm} (h : Pd T w d mb fb m) (j : Nat) (f : Fl) (hf : m.fl[j]? = some f) : f.sure ≤ f.data.length := by
  obtain ⟨cv, D, h⟩ := h
  obtain ⟨a, c, hfa⟩ := h.file j f hf
  exact hfa.sure
theorem Goes.old {T T' : Nat → Nat} {w W W' : World} (h : Below w.heap.size w W) (ht : ∀ b, b < w.heap.size → T b = 0) (g : Goes T T' W W') : Below w.heap.size w W' ∧ ∀ b, b < w.heap.size → T' b = 0 :=
  ⟨⟨g.os.trans h.os, g.tape.trans h.tape, g.output.trans h.output, Nat.le_trans h.size g.size, fun b hb => ((g.block b (Nat.lt_of_lt_of_le hb h.size) (ht b hb)).1).trans (h.block b hb)⟩, fun b hb => (g.block b (Nat.lt_of_lt_of_le hb h.size) (ht b hb)).2⟩
/-- What is held, as it lies. -/
structure Hl (w : World) (T : Nat → Nat) (W : World) (sv : Value) (L : List He) : Prop where
  row : W.ownsRow w.heap.size 59 2 sv L.length (heRow L)
  ts : ∀ g, sv.ownBlock = some g → T g = 0
  hb : ∀ e ∈ L, IsB W e.a e.data ∧ (e.a = none → e.c = 0) ∧ (∀ ad, e.a = some ad → T ad.block = 0 ∧ ad.block < W.heap.size)
theorem Hl.goes {w W W' : World} {T T' : Nat → Nat} {sv : Value} {L : List He} (h : Hl w T W sv L) (g : Goes T T' W W') : Hl w T' W' sv L :=
  ⟨own_goes h.row h.ts g, fun b hb => (g.block b (h.row.lt b hb).2 (h.ts b hb)).2, fun e he => by
    obtain ⟨h1, h2, h3⟩ := h.hb e he
    exact ⟨isB_goes h1 (fun ad e => (h3 ad e).1) g, h2, fun ad e => ⟨(g.block _ (h3 ad e).2 (h3 ad e).1).2, Nat.lt_of_lt_of_le (h3 ad e).2 g.size⟩⟩⟩
/-- The loop's state, behind i calls of a script. -/
structure K3 (w : World) (T : Nat → Nat) (W : World) (d mb : Nat) (fb : Nat → Nat) (m : Dm) (sv : Value) (L : List He) (da : Option Addr) (dn : List ByteArray) (i tot : Nat) : Prop where
  pd : Pd T W d mb fb m
  hist : Hist m
  low : ∀ b, b < w.heap.size → T b = 0
  go : Below w.heap.size w W
  szs : m.ch.length ≤ i ∧ m.now.length ≤ i ∧ m.used ≤ tot
  hl : Hl w T W sv L
  hd : ∀ e ∈ L, Hd m (e.name, e.data)
  ll : L.length ≤ i
  str : StrAt W da dn
  td : ∀ ad, da = some ad → T ad.block = 0 ∧ ad.block < W.heap.size
  dirs : dn = (m.bk 0).map fun p => ba p.1
theorem K3.disk {w W W' : World} {T T' : Nat → Nat} {d mb : Nat} {fb fb' : Nat → Nat} {m m' : Dm} {sv : Value} {L : List He} {da : Option Addr} {dn : List ByteArray} {i tot tot' : Nat} (h : K3 w T W d mb fb m sv L da dn i tot) (hp : Pd T' W' d mb fb' m') (g : Goes T T' W W') (hn : Nxt m m') (hs : m'.now.length ≤ m.now.length + 1 ∧ m'.used ≤ tot') :
    K3 w T' W' d mb fb' m' (.slice none 0 0) [] da dn (i + 1) tot' ∧ Hl w T' W' sv L := by
  obtain ⟨o1, o2⟩ := Goes.old h.go h.low g
  refine ⟨⟨hp, hn.hist, o2, o1, ⟨by have := hn.len; have := h.szs; omega, by have := h.szs; omega, hs.2⟩, ⟨World.ownsRow_nil _ _ _ _, (by intro g hg; cases hg), by simp⟩, by simp, by simp, h.str.goes (fun ad e => (h.td ad e).1) g, fun ad e => ⟨(g.block _ (h.td ad e).2 (h.td ad e).1).2, Nat.lt_of_lt_of_le (h.td ad e).2 g.size⟩, ?_⟩, h.hl.goes g⟩
  rw [hn.bk 0 (Nat.zero_le _)]
  exact h.dirs
/-- What is held is put beside it again. -/
theorem K3.with {w W : World} {T : Nat → Nat} {d mb : Nat} {fb : Nat → Nat} {m : Dm} {sv sv' : Value} {L L' : List He} {da : Option Addr} {dn : List ByteArray} {i tot : Nat} (h : K3 w T W d mb fb m sv L da dn i tot) (hl : Hl w T W sv' L') (hd : ∀ e ∈ L', Hd m (e.name, e.data)) (hi : L'.length ≤ i) : K3 w T W d mb fb m sv' L' da dn i tot :=
  { h with hl := hl, hd := hd, ll := hi }
theorem K3.below {w W W' : World} {T : Nat → Nat} {d mb : Nat} {fb : Nat → Nat} {m : Dm} {sv : Value} {L : List He} {da : Option Addr} {dn : List ByteArray} {i tot : Nat} (h : K3 w T W d mb fb m sv L da dn i tot) (hb : Below W.heap.size W W') : K3 w T W' d mb fb m sv L da dn i tot := by
  have g : Goes T T W W' := Goes.below hb
  obtain ⟨o1, o2⟩ := Goes.old h.go h.low g
  exact { h with pd := h.pd.below hb, go := o1, hl := h.hl.goes g, str := h.str.goes (fun ad e => (h.td ad e).1) g, td := fun ad e => ⟨(h.td ad e).1, Nat.lt_of_lt_of_le (h.td ad e).2 g.size⟩ }
/-- What gone leaves lies in new memory. -/
theorem Hl.gone {w W W' : World} {T : Nat → Nat} {sv : Value} {L : List He} {a' : Option Addr} {c' : Nat} {s : ByteArray} (h : Hl w T W sv L) (hw : w.heap.size ≤ W.heap.size) (hf : ∀ b, W.heap.size ≤ b → T b = 0) (hb : Below W.heap.size W W') (hr : W'.ownsRow W.heap.size 59 2 (.slice a' (heGone L s).length c') (heGone L s).length (heRow (heGone L s))) : Hl w T W' (.slice a' (heGone L s).length c') (heGone L s) := by
  have h' := h.goes (Goes.below (T := T) hb)
  refine ⟨⟨hr.1, ?_⟩, fun g hg => hf g (hr.lt g hg).1, fun e he => h'.hb e (List.mem_filter.1 he).1⟩
  rcases hr.2 with h0 | ⟨g, cap, cur, h1, h2, h3⟩
  · exact .inl h0
  · exact .inr ⟨g, cap, cur, h1, by omega, h3⟩
theorem mem_heGone {L : List He} {s : ByteArray} {e : He} (h : e ∈ heGone L s) : e ∈ L ∧ ky e.name ≠ ky s := by
  have := List.mem_filter.1 h
  exact ⟨this.1, ky_ne (by simpa using this.2)⟩
theorem heGone_le (L : List He) (s : ByteArray) : (heGone L s).length ≤ L.length := List.length_filter_le _ _
end Dsk
end Go.Proofs.Ytbloifnibgdeoaa
namespace Go.Proofs.Ytbloifnibgdeoaa
namespace Dsk
open Go.RowKit Go.Shelf Go.Maps Go.Sort Byt Laws
set_option linter.unusedVariables false
set_option maxRecDepth 100000

/-- How much a call adds. -/
def Add (m m' : Dm) (n : Nat) : Prop := m'.now.length ≤ m.now.length + 1 ∧ m'.used ≤ m.used + n
theorem Add.same {m m' : Dm} (h1 : m'.now = m.now) (h2 : ∀ i, lenOf m'.fl i = lenOf m.fl i) : Add m m' 0 := by
  refine ⟨by rw [h1]; omega, ?_⟩
  show usedOf m'.fl m'.now ≤ _
  rw [h1, usedOf_same h2]; exact Nat.le_refl _
theorem Add.create {m : Dm} (h : Hist m) (s : ByteArray) : Add m (m.create s).2 0 := by
  unfold Dm.create
  split
  · exact Add.same rfl (fun _ => rfl)
  · split
    · exact Add.same rfl (fun _ => rfl)
    · rename_i hl
      split
      · exact Add.same rfl (fun _ => rfl)
      · split
        · exact Add.same rfl (fun _ => rfl)
        · have hn : look m.now (ky s) = none := by
            cases e : look m.now (ky s) with
            | none => rfl
            | some i => exact absurd (by rw [e]; rfl) hl
          refine ⟨?_, ?_⟩
          · show (ins m.now (ky s) m.fl.length).length ≤ _
            rw [len_ins hn]; omega
          · show usedOf (m.fl ++ [(⟨[], 0⟩ : Fl)]) (ins m.now (ky s) m.fl.length) ≤ usedOf m.fl m.now + 0
            rw [usedOf_ins hn, usedOf_more _ h.now.2]
            have : lenOf (m.fl ++ [(⟨[], 0⟩ : Fl)]) m.fl.length = 0 := by simp [lenOf]
            omega
theorem Add.reach (m : Dm) (ok : Bool) (k : Key) : Add m (m.reach ok k).2 0 := by
  obtain ⟨h1, h2, _, _⟩ := reach_same m ok k
  exact Add.same h1 (fun _ => by rw [h2])
theorem Add.delete (m : Dm) (s : ByteArray) : Add m (m.delete s).2 0 := by
  unfold Dm.delete
  split
  · obtain ⟨h1, h2, _, _⟩ := reach_same m (okN s) (ky s)
    refine ⟨?_, ?_⟩
    · show (del m.now (ky s)).length ≤ _
      have := len_del m.now (ky s); omega
    · show usedOf (m.reach _ _).2.fl (del m.now (ky s)) ≤ usedOf m.fl m.now + 0
      rw [h2]
      exact used_filter_le _ _ _
  · exact Add.reach _ _ _
theorem Add.rename {m : Dm} (h : Hist m) (s t : ByteArray) : Add m (m.rename s t).2 0 := by
  unfold Dm.rename
  split
  · rename_i hc
    split
    · rename_i i hi
      obtain ⟨h1, h2, _, _⟩ := reach_same m (okN s && okN t) (ky s)
      refine ⟨?_, ?_⟩
      · show (ins (del m.now (ky s)) (ky t) i).length ≤ _
        have := len_ren (k' := ky t) h.rises hi; omega
      · show usedOf (m.reach _ _).2.fl (ins (del m.now (ky s)) (ky t) i) ≤ usedOf m.fl m.now + 0
        rw [h2]
        have := usedOf_ren (fl := m.fl) h.rises hi (ky_ne hc.2)
        omega
    · exact Add.reach _ _ _
  · exact Add.reach _ _ _
theorem Add.sync (m : Dm) (s : ByteArray) : Add m (m.sync s).2 0 := by
  unfold Dm.sync
  split
  · obtain ⟨h1, h2, _, _⟩ := reach_same m (okN s) (ky s)
    split
    · unfold Dm.sure
      split
      · rename_i f hf
        refine Add.same h1 (fun j => ?_)
        show lenOf ((m.reach _ _).2.fl.set _ _) j = _
        rename_i i _ _
        by_cases e : j = i
        · subst e
          rw [lenOf_set_same _ (List.getElem?_eq_some_iff.1 hf).1]
          rw [h2] at hf
          exact (lenOf_some hf).symm
        · rw [lenOf_set_other _ e, h2]
      · exact Add.reach _ _ _
    · exact Add.reach _ _ _
  · exact Add.reach _ _ _
theorem Add.syncDir (m : Dm) : Add m m.syncDir.2 0 := by
  unfold Dm.syncDir
  split
  · exact Add.same rfl (fun _ => rfl)
  · split
    · exact Add.same rfl (fun _ => rfl)
    · exact Add.same rfl (fun _ => rfl)
theorem used_lay {m : Dm} (h : Hist m) (i : Nat) (l : List Nat) : usedOf (m.lay i l).fl m.now ≤ usedOf m.fl m.now + l.length := by
  unfold Dm.lay
  simp only
  cases hf : m.fl[i]? with
  | none =>
    have e : (m.fl.modify i fun f => { f with data := f.data ++ l }) = m.fl := by
      refine List.ext_getElem? fun j => ?_
      rw [List.getElem?_modify]
      by_cases e : i = j
      · subst e; rw [hf]; rfl
      · simp [e]
    rw [e]; omega
  | some f =>
    have e : (m.fl.modify i fun f => { f with data := f.data ++ l }) = m.fl.set i { f with data := f.data ++ l } := by
      refine List.ext_getElem? fun j => ?_
      rw [List.getElem?_modify]
      by_cases e : i = j
      · subst e
        rw [hf, List.getElem?_set_self (List.getElem?_eq_some_iff.1 hf).1]
        simp
      · rw [List.getElem?_set_ne e]; simp [e]
    rw [e]
    by_cases hi : i ∈ m.now.map (·.2)
    · have := usedOf_set (fl := m.fl) { f with data := f.data ++ l } hf h.now.1 hi
      simp at this
      omega
    · rw [usedOf_set_no _ hi]; omega
theorem Add.lay {m m' : Dm} (h : Hist m) {i : Nat} {l : List Nat} {n : Nat} (h1 : m'.now = m.now) (h2 : m'.fl = (m.lay i l).fl) (hl : l.length ≤ n) : Add m m' n := by
  refine ⟨by rw [h1]; omega, ?_⟩
  show usedOf m'.fl m'.now ≤ _
  rw [h1, h2]
  have := used_lay h i l
  show _ ≤ usedOf m.fl m.now + n
  omega
theorem Add.mono {m m' : Dm} {n n' : Nat} (h : Add m m' n) (hn : n ≤ n') : Add m m' n' := ⟨h.1, Nat.le_trans h.2 (by omega)⟩
theorem Add.append {m : Dm} (h : Hist m) (s : ByteArray) (l : List Nat) : Add m (m.append s l).2 l.length := by
  unfold Dm.append
  split
  · simp only
    split
    · split
      · unfold Dm.layPart
        split
        · exact Add.lay h rfl rfl (by rw [List.length_take]; omega)
        · exact (Add.same rfl (fun _ => rfl)).mono (Nat.zero_le _)
      · exact (Add.same rfl (fun _ => rfl)).mono (Nat.zero_le _)
    · exact (Add.same rfl (fun _ => rfl)).mono (Nat.zero_le _)
  · split
    · exact (Add.same rfl (fun _ => rfl)).mono (Nat.zero_le _)
    · split
      · exact (Add.same rfl (fun _ => rfl)).mono (Nat.zero_le _)
      · split
        · exact Add.lay h rfl rfl (by rw [List.length_take]; omega)
        · exact Add.lay h rfl rfl (Nat.le_refl _)
theorem Hist.syncDir_no {m : Dm} (h : Hist m) (hr : m.syncDir.1 ≠ 0) : Nxt m m.syncDir.2 := by
  unfold Dm.syncDir at hr ⊢
  split
  · exact h.same (m' := (m.enter true).2) rfl rfl rfl
  · rename_i h1
    rw [if_neg h1] at hr
    split
    · exact h.same (m' := ((m.enter true).2.spend 1).2) rfl rfl rfl
    · rename_i h2
      rw [if_neg h2] at hr
      exact absurd rfl hr
theorem syncDir_ok {m : Dm} (hr : m.syncDir.1 = 0) : m.syncDir.2.ch = [] := by
  unfold Dm.syncDir at hr ⊢
  split
  · rename_i h1
    rw [if_pos h1] at hr
    exact absurd hr h1
  · rename_i h1
    rw [if_neg h1] at hr
    split
    · rename_i h2
      rw [if_pos h2] at hr
      simp at hr
    · rfl
theorem K3.synced {w W W' W2 : World} {T T' : Nat → Nat} {d mb : Nat} {fb fb' : Nat → Nat} {m m' : Dm} {sv : Value} {L : List He} {da da' : Option Addr} {dn : List ByteArray} {i tot tot' B n' dc' : Nat} (h : K3 w T W d mb fb m sv L da dn i tot) (hp : Pd T' W' d mb fb' m') (g : Goes T T' W W') (hh : Hist m') (hc : m'.ch = []) (hs : m'.now.length ≤ m.now.length + 1 ∧ m'.used ≤ tot') (hd : ∀ e ∈ L, Hd m' (e.name, e.data)) (hb : Below W'.heap.size W' W2)
    (hr : W2.ownsRow B 9 1 (.slice da' n' dc') n' ((m'.files.map (·.name)).map Value.string)) (hB : W'.heap.size ≤ B) : K3 w T' W2 d mb fb' m' sv L da' (m'.files.map (·.name)) (i + 1) tot' := by
  obtain ⟨o1, o2⟩ := Goes.old h.go h.low g
  have g2 : Goes T' T' W' W2 := Goes.below hb
  obtain ⟨o3, o4⟩ := Goes.old o1 o2 g2
  refine ⟨hp.below hb, hh, o4, o3, ⟨by rw [hc]; simp, by have := h.szs; omega, hs.2⟩, (h.hl.goes g).goes g2, hd, by have := h.ll; omega, (StrAt.of hr).1, fun ad e => ?_, ?_⟩
  · subst e
    have := hr.lt ad.block rfl
    exact ⟨hp.fresh (by omega), this.2⟩
  · rw [files_names, bk_all (by rw [hc]; simp)]
/-- One thing more is held. -/
theorem K3.put {w W W8 : World} {T : Nat → Nat} {d mb : Nat} {fb : Nat → Nat} {m : Dm} {sv0 sv : Value} {L0 L R : List He} {da : Option Addr} {dn : List ByteArray} {i tot B g c8 c6 : Nat} {a6 : Option Addr} {nm : ByteArray} {data : List Nat} (h : K3 w T W d mb fb m sv0 L0 da dn i tot) (hl : Hl w T W sv L) (hb : Below W.heap.size W W8)
    (hr : W8.ownsRow B 59 2 (.slice (some ⟨g, 0, none⟩) (R.length + 1) c8) (R.length + 1) (heRow R ++ [.string nm, .slice a6 data.length c6])) (hB : W.heap.size ≤ B) (hR : ∀ e ∈ R, e ∈ L) (hd : ∀ e ∈ R, Hd m (e.name, e.data)) (hnew : IsB W a6 data ∧ (a6 = none → c6 = 0) ∧ ∀ ad, a6 = some ad → T ad.block = 0 ∧ ad.block < W.heap.size) (hdn : Hd m (nm, data)) (hi : R.length + 1 ≤ i) :
    K3 w T W8 d mb fb m (.slice (some ⟨g, 0, none⟩) (R.length + 1) c8) (R ++ [⟨nm, data, a6, c6⟩]) da dn i tot := by
  have g8 : Goes T T W W8 := Goes.below hb
  have hl8 := hl.goes g8
  have hlen : (R ++ [(⟨nm, data, a6, c6⟩ : He)]).length = R.length + 1 := by simp
  refine (h.below hb).with ⟨?_, fun x hx => ?_, fun e he => ?_⟩ (fun e he => ?_) (by rw [hlen]; exact hi)
  · rw [hlen, heRow_append]
    have hw := h.go.size
    refine ⟨hr.1, ?_⟩
    rcases hr.2 with h0 | ⟨b, cap, cur, e1, h1, h2⟩
    · exact .inl h0
    · exact .inr ⟨b, cap, cur, e1, by omega, h2⟩
  · have := (hr.lt x hx).1
    exact h.pd.fresh (by omega)
  · rcases List.mem_append.1 he with he | he
    · exact hl8.hb e (hR e he)
    · have e2 : e = ⟨nm, data, a6, c6⟩ := by simpa using he
      subst e2
      exact ⟨isB_goes hnew.1 (fun ad e => (hnew.2.2 ad e).1) g8, hnew.2.1, fun ad e => ⟨(hnew.2.2 ad e).1, Nat.lt_of_lt_of_le (hnew.2.2 ad e).2 hb.size⟩⟩
  · rcases List.mem_append.1 he with he | he
    · exact hd e he
    · have e2 : e = ⟨nm, data, a6, c6⟩ := by simpa using he
      subst e2
      exact hdn
/-- A call's copy that the law makes of a script's call, as it lies. -/
structure Ob (T : Nat → Nat) (W : World) (ob : Nat) (o : OpD) : Prop where
  lt : ob < W.heap.size
  tag : T ob = 0
  at_ : ∀ t, t < 8 → W.cell? ⟨ob, t, none⟩ = o.cells[t]?
theorem Ob.goes {T T' : Nat → Nat} {W W' : World} {ob : Nat} {o : OpD} (h : Ob T W ob o) (g : Goes T T' W W') : Ob T' W' ob o := by
  obtain ⟨h1, h2⟩ := g.block ob h.lt h.tag
  refine ⟨Nat.lt_of_lt_of_le h.lt g.size, h2, fun t ht => ?_⟩
  rw [← h.at_ t ht]
  unfold World.cell?
  rw [h1]
end Dsk
end Go.Proofs.Ytbloifnibgdeoaa
namespace Go.Proofs.Ytbloifnibgdeoaa
namespace Dsk
open Go.RowKit Go.Shelf Go.Maps Go.Sort Byt Laws
set_option linter.unusedVariables false
set_option maxRecDepth 100000
set_option linter.unusedSimpArgs false

/-- Ints in new memory: a copy of a list. -/
structure NInts (base : Nat) (w : World) (a : Option Addr) (c : Nat) (ks : List Int) : Prop where
  ints : IntsAt w a ks
  base : ∀ ad, a = some ad → base ≤ ad.block
  le : ks.length ≤ c
  max : c ≤ 9223372036854775807
theorem NInts.of {e : TypeId} {base n : Nat} {w : World} {v : Value} {ks : List Int} (h : w.ownsRow base e 1 v n (ks.map fun x => Value.int .i64 x)) : ∃ a c, v = .slice a ks.length c ∧ NInts base w a c ks := by
  have hl := h.1
  rw [List.length_map, Nat.mul_one] at hl
  subst hl
  rcases h.2 with ⟨rfl, h0⟩ | ⟨g, cap, cur, rfl, hb, hg, h1, h2, h3, h4⟩
  · refine ⟨none, 0, by rw [h0], ⟨fun j x hx => ?_, fun ad e => (by cases e), by omega, by omega⟩⟩
    have := (List.getElem?_eq_some_iff.1 hx).1
    omega
  · refine ⟨some ⟨g, 0, none⟩, cap, rfl, ⟨fun j x hx => ⟨g, 0, rfl, ?_⟩, fun ad e => (by cases e; exact hb), h1, by unfold maxLen at h2; omega⟩⟩
    have hlt := (List.getElem?_eq_some_iff.1 hx).1
    have hcj : (cur.toList)[j]? = some (Value.int .i64 x) := by
      have z : (ks.map fun x => Value.int .i64 x)[j]? = some (Value.int .i64 x) := by rw [List.getElem?_map, hx]; rfl
      rw [← h4, List.getElem?_take, if_pos (by omega)] at z
      exact z
    rw [Nat.zero_add]
    unfold World.cell?
    simp [hg]
    rw [Array.getElem?_toList] at hcj
    exact hcj
theorem ints_news {w : World} {ad : Addr} {ks : List Int} (h : IntsAt w (some ad) ks) : ∀ j u, (ks.map fun x => Value.int .i64 x)[j]? = some u → w.cell? (ad.add j) = some u := fun j u hj => by
  rw [List.getElem?_map] at hj
  cases hx : ks[j]? with
  | none => rw [hx] at hj; cases hj
  | some x =>
    rw [hx] at hj
    cases hj
    obtain ⟨b, off, e, hc⟩ := h j x hx
    cases e
    rw [add_plain2]
    exact hc

theorem wp_cloneI {P : Program} (w : World) {o : Oper} {a : Act} {K : Act → World → Prop} {Q : Exit → Act → World → Prop} (s x : Operand) (t : TypeId)
    (ho : o.op = .call { callee := .builtin .append, args := #[s, x], argTypes := #[t, t] })
    (e : TypeId) (i : TypeInfo) (ht : P.underlying t = some (.slice e)) (hi : P.info? e = some i) (hz : i.zero = some (.int .i64 0)) (hsize : i.size = 1) (hby : i.bytes = 8)
    (hs : a.eval s = .slice none 0 0) (ao : Option Addr) (m c : Nat) (r : List Int) (hx : a.eval x = .slice ao m c) (hm : m = r.length) (hn : ao = none → c = 0) (hr : IntsAt w ao r) (h47 : m ≤ 1000000)
    (h : ∀ a' c' w', NInts w.heap.size w' a' c' r → Below w.heap.size w w' → K (a.put o.dst (.slice a' r.length c')) w') :
    Oper.wp P o a w K Q := by
  subst hm
  cases ao with
  | none =>
    have hr0 : r = [] := by
      cases r with
      | nil => rfl
      | cons y ys =>
        obtain ⟨b, off, e, _⟩ := hr 0 y rfl
        cases e
    subst hr0
    obtain rfl := hn rfl
    have hrun := run_append_owned_none (P := P) (w := w) w.heap.size t o.type e i 1 ht hi (.slice none 0 0) 0 [] (World.ownsRow_nil _ _ _ _)
    have hx' : a.eval x = .slice none 0 0 := hx
    unfold Oper.wp execOp
    simp only [ho, resolve, invoke, builtin, Sem.run_bind, Sem.run_pure, Result.andThen_ok, List.map_toArray, List.map_cons, List.map_nil, hs, hx', hrun]
    exact h none 0 w ⟨hr, fun ad e => (by cases e), Nat.le_refl _, by omega⟩ (Below.refl _ _)
  | some ad =>
    obtain ⟨v', w', hrun, h2, h3, h4, h5⟩ := run_append_own_at (P := P) w w.heap.size t o.type e i (.int .i64 0) 1 8 ht hi hz hsize hby rfl (by omega) (.slice none 0 0) 0 [] (World.ownsRow_nil _ _ _ _) ad r.length c (r.map fun x => Value.int .i64 x) (by rw [List.length_map]; omega) (ints_news hr) (by intro u hu; obtain ⟨x, _, rfl⟩ := List.mem_map.1 hu; rfl) (by unfold maxLen; omega) (by omega) (Nat.le_refl _)
    rw [List.nil_append, Nat.zero_add] at h2
    obtain ⟨a', c', rfl, hnew⟩ := NInts.of h2
    unfold Oper.wp execOp
    simp only [ho, resolve, invoke, builtin, Sem.run_bind, Sem.run_pure, Result.andThen_ok, List.map_toArray, List.map_cons, List.map_nil, hs, hx, hrun]
    exact h a' c' w' hnew (below_of (Below.refl _ _) h3 (Nat.le_refl _) (fun j hj => by cases hj))
/-- append([]int(nil), x...). -/
theorem wpList_cloneI {P : Program} (w : World) {ops : Array Oper} {rest : List Oper} {o : Oper} {a : Act} {Q : Exit → Act → World → Prop} (hgd : o.guard = none) (s x : Operand) (t : TypeId)
    (ho : o.op = .call { callee := .builtin .append, args := #[s, x], argTypes := #[t, t] })
    (e : TypeId) (i : TypeInfo) (ht : P.underlying t = some (.slice e)) (hi : P.info? e = some i) (hz : i.zero = some (.int .i64 0)) (hsize : i.size = 1) (hby : i.bytes = 8)
    (hs : a.eval s = .slice none 0 0) (ao : Option Addr) (m c : Nat) (r : List Int) (hx : a.eval x = .slice ao m c) (hm : m = r.length) (hn : ao = none → c = 0) (hr : IntsAt w ao r) (h47 : m ≤ 1000000)
    (h : ∀ a' c' w', NInts w.heap.size w' a' c' r → Below w.heap.size w w' → wpList P ops Q rest (a.put o.dst (.slice a' r.length c')) w') : wpList P ops Q (o :: rest) a w :=
  wpList_plain hgd fun _ hK => wp_cloneI w s x t ho e i ht hi hz hsize hby hs ao m c r hx hm hn hr h47 fun a' c' w' h1 h2 => hK _ _ (h a' c' w' h1 h2)
theorem infoJ : (Try.prog.info? 3).map (fun i => (i.zero, i.size, i.bytes)) = some (some (.int .i64 0), 1, 8) := by kernel_rfl
theorem FilesAt.goes {T T' : Nat → Nat} {base : Nat} {w w' : World} {v : Value} {fs : List Fi} {ds : List (Option Addr × Nat)} (h : FilesAt base w v fs ds) (ht : ∀ b, base ≤ b → T b = 0) (g : Goes T T' w w') : FilesAt base w' v fs ds :=
  ⟨h.len, own_goes h.row (fun b hb => ht b (h.row.lt b hb).1) g, fun i f x hf hx => ⟨⟨own_goes (h.data i f x hf hx).1.row (fun b hb => ht b ((h.data i f x hf hx).1.row.lt b hb).1) g, (h.data i f x hf hx).1.byte⟩, (h.data i f x hf hx).2⟩⟩
theorem files_big {T : Nat → Nat} {w : World} {d mb : Nat} {fb : Nat → Nat} {m : Dm} (h : Pd T w d mb fb m) : ∀ f ∈ m.files, f.data.length ≤ 2147483648 := by
  obtain ⟨cv, D, h⟩ := h
  intro f hf
  obtain ⟨p, hp, rfl⟩ := List.mem_map.1 hf
  obtain ⟨g, hg⟩ : ∃ g, m.fl[p.2]? = some g := ⟨_, List.getElem?_eq_getElem (h.ids p hp)⟩
  obtain ⟨a, c, hfi⟩ := h.file p.2 g hg
  show (dataOf m.fl p.2).length ≤ _
  simp only [dataOf, hg, Option.map_some, Option.getD_some]
  exact hfi.big
theorem files_sure {m : Dm} (hs : ∀ p ∈ m.now, ∃ f, m.fl[p.2]? = some f ∧ f.sure = f.data.length) : ∀ f ∈ m.files, f.sure = f.data.length := by
  intro f hf
  obtain ⟨p, hp, rfl⟩ := List.mem_map.1 hf
  obtain ⟨g, hg, he⟩ := hs p hp
  show sureOf m.fl p.2 = (dataOf m.fl p.2).length
  simp only [dataOf, sureOf, hg, Option.map_some, Option.getD_some]
  exact he
/-- What stands behind a fall: what Image told, all sure; nothing to take back; the disk is up. -/
structure Fn (m9 : Dm) (fs : List Fi) : Prop where
  files : m9.files = fs
  sure : ∀ f ∈ fs, f.sure = f.data.length
  image : m9.image 0 [] = fs
  down : m9.down = false
  now : m9.now.length = fs.length
  ch : m9.ch = []
theorem fn_fall {m : Dm} (hh : Hist m) (hs : ∀ (j : Nat) (f : Fl), m.fl[j]? = some f → f.sure ≤ f.data.length) (dir : Int) (ks : List Int) : Fn (m.fall dir ks) (m.image dir ks) := by
  obtain ⟨h1, h2⟩ := fall_files hh hs dir ks
  refine ⟨h1, ?_, ?_, rfl, ?_, rfl⟩
  · rw [← h1]; exact files_sure h2
  · rw [image_sure rfl h2, h1]
  · rw [← h1]; show _ = (List.map _ _).length; rw [List.length_map]
set_option maxHeartbeats 1000000 in
theorem prefix_drew (a b : Option Addr) (ca cb n m : Nat) (l r : List Nat) (w : World) (ha : IsB w a l) (hb : IsB w b r) (na : a = none → ca = 0) (nb : b = none → cb = 0) (hn : n = l.length) (hm : m = r.length) (hmc : m ≤ cb) (hcb : cb ≤ 9223372036854775807) (hp : l <+: r) :
    Calls Try.prog 36 #[.slice a n ca, .slice b m cb] w fun e w' => e = .returned (.bool true) ∧ w' = w.drew := by
  have hle : n ≤ m := by rw [hn, hm]; exact hp.length_le
  have hle' : (n : Int) ≤ (m : Int) := by omega
  have ht : r.take n = l := by rw [hn]; exact (List.prefix_iff_eq_take.1 hp).symm
  have h1 := fun w' (h : IsB w' a l) => conv_any w' a ca n l h hn na
  have h2 := fun w' (h : IsB w' b l) => conv_any w' b cb n l h hn nb
  have h1' := h1 w.drew ha
  have h2' := h2 w.drew (by rw [← ht]; exact hb.take _)
  have hnc : n ≤ cb := by omega
  have hd : decide ((n : Int) ≤ (m : Int)) = true := by simpa using hle'
  clear ha hb na nb hn hm h1 h2 hp ht
  generalize ofB l = s at *
  go_enter Try.func36, Try.ntmps36
  go_wp2
  go_region
  go_wp2
  go_ret
  exact ⟨rfl, rfl⟩
theorem no_ints (w : World) : IntsAt w none [] := fun j x hx => by simp at hx
end Dsk
end Go.Proofs.Ytbloifnibgdeoaa
namespace Go.Proofs.Ytbloifnibgdeoaa
namespace Dsk
open Go.RowKit Go.Shelf Go.Maps Go.Sort Byt Laws
set_option linter.unusedVariables false
set_option maxRecDepth 100000
set_option linter.unusedSimpArgs false

/-- Nothing of the disk's has turned. -/
theorem Pd.keep {T : Nat → Nat} {w w' : World} {d mb : Nat} {fb : Nat → Nat} {m : Dm} {bs : List Nat} (h : Pd T w d mb fb m) (hk : Keep bs w w') (h0 : ∀ x ∈ bs, T x = 0) : Pd T w' d mb fb m := by
  obtain ⟨cv, D, h⟩ := h
  refine ⟨cv, D, { h with top := h.top.keep hk (fun hm => by have h1 := h0 d hm; have h2 := h.td; omega), fresh := fun b hb' => h.fresh b (Nat.le_trans hk.size hb'), chg := hk.own h.chg (fun g hg hm => by have h1 := h0 g hm; have h2 := h.tc g hg; omega), map := ?_, file := fun i f hf => ?_ }⟩
  · obtain ⟨es, clock, h1, h2⟩ := h.map
    exact ⟨es, clock, (hk.block mb h.map.lt (fun hm => by have h1 := h0 mb hm; have h2 := h.tm; omega)).trans h1, h2⟩
  · obtain ⟨a, c, hf⟩ := h.file i f hf
    exact ⟨a, c, hf.keep hk (fun x hx => by have := h0 x hx; omega) (fun x hx => by have := h0 x hx; omega)⟩
/-- The other disk's step. -/
theorem Pd.other {T S S' : Nat → Nat} {w w' : World} {d mb : Nat} {fb : Nat → Nat} {m : Dm} (h : Pd T w d mb fb m) (hg : Goes S S' w w') (hd : ∀ b, b < w.heap.size → T b = 0 ∨ S b = 0) : Pd T w' d mb fb m := by
  have hk : Keep ((List.range w.heap.size).filter fun b => decide (T b = 0)) w w' := ⟨hg.os, hg.tape, hg.output, hg.size, fun b hb hn => (hg.block b hb (by
    rcases hd b hb with h1 | h1
    · exact absurd (by simp [hb, h1]) hn
    · exact h1)).1⟩
  exact h.keep hk (fun x hx => by simp at hx; exact hx.2)
theorem Re.other {T S S' : Nat → Nat} {w w' : World} {d : Nat} {m : Rm} (h : Re T w d m) (hg : Goes S S' w w') (hd : ∀ b, b < w.heap.size → T b = 0 ∨ S b = 0) : Re T w' d m := by
  obtain ⟨fb, vf, vn, vs, vc, h⟩ := h
  exact ⟨fb, vf, vn, vs, vc, h.goes hg hd⟩
theorem Re.fresh {T : Nat → Nat} {w : World} {d : Nat} {m : Rm} (h : Re T w d m) {b : Nat} (hb : w.heap.size ≤ b) : T b = 0 := by
  obtain ⟨fb, vf, vn, vs, vc, h⟩ := h
  exact h.fresh b hb
/-- The program's disk and the reference's in one world, blocks apart. -/
structure Two (T S : Nat → Nat) (W : World) (d mb : Nat) (fb : Nat → Nat) (m : Dm) (rb : Nat) (rm : Rm) : Prop where
  pd : Pd T W d mb fb m
  re : Re S W rb rm
  apart : ∀ b, T b = 0 ∨ S b = 0
/-- Nothing that is neither disk's has turned. -/
structure Go2 (T S T' S' : Nat → Nat) (W W' : World) : Prop where
  os : W'.os = W.os
  tape : W'.tape = W.tape
  output : W'.output = W.output
  size : W.heap.size ≤ W'.heap.size
  block : ∀ b, b < W.heap.size → T b = 0 → S b = 0 → W'.heap[b]? = W.heap[b]? ∧ T' b = 0 ∧ S' b = 0
theorem Go2.refl (T S : Nat → Nat) (W : World) : Go2 T S T S W W := ⟨rfl, rfl, rfl, Nat.le_refl _, fun _ _ h1 h2 => ⟨rfl, h1, h2⟩⟩
theorem Go2.trans {T S T' S' T'' S'' : Nat → Nat} {W W' W'' : World} (h : Go2 T S T' S' W W') (k : Go2 T' S' T'' S'' W' W'') : Go2 T S T'' S'' W W'' :=
  ⟨k.os.trans h.os, k.tape.trans h.tape, k.output.trans h.output, Nat.le_trans h.size k.size, fun b hb h1 h2 => by
    obtain ⟨x1, x2, x3⟩ := h.block b hb h1 h2
    obtain ⟨y1, y2, y3⟩ := k.block b (Nat.lt_of_lt_of_le hb h.size) x2 x3
    exact ⟨y1.trans x1, y2, y3⟩⟩
theorem Go2.below {T S : Nat → Nat} {W W' : World} (h : Below W.heap.size W W') : Go2 T S T S W W' := ⟨h.os, h.tape, h.output, h.size, fun b hb h1 h2 => ⟨h.block b hb, h1, h2⟩⟩
section
variable {T S T' S' : Nat → Nat} {W W' : World} {d mb : Nat} {fb fb' : Nat → Nat} {m m' : Dm} {rb : Nat} {rm rm' : Rm}
theorem Two.below (h : Two T S W d mb fb m rb rm) (hb : Below W.heap.size W W') : Two T S W' d mb fb m rb rm := ⟨h.pd.below hb, h.re.below hb, h.apart⟩
/-- A call of the program's disk. -/
theorem Two.prog (h : Two T S W d mb fb m rb rm) (hp : Pd T' W' d mb fb' m') (g : Goes T T' W W') : Two T' S W' d mb fb' m' rb rm ∧ Go2 T S T' S W W' :=
  ⟨⟨hp, h.re.other g (fun b _ => (h.apart b).symm), fun b => by
    by_cases hb : b < W.heap.size
    · rcases h.apart b with h1 | h1
      · exact .inl (g.block b hb h1).2
      · exact .inr h1
    · exact .inr (h.re.fresh (by omega))⟩, ⟨g.os, g.tape, g.output, g.size, fun b hb h1 h2 => ⟨(g.block b hb h1).1, (g.block b hb h1).2, h2⟩⟩⟩
/-- A call of the reference's disk. -/
theorem Two.ref (h : Two T S W d mb fb m rb rm) (hr : Re S' W' rb rm') (g : Goes S S' W W') : Two T S' W' d mb fb m rb rm' ∧ Go2 T S T S' W W' :=
  ⟨⟨h.pd.other g (fun b _ => h.apart b), hr, fun b => by
    by_cases hb : b < W.heap.size
    · rcases h.apart b with h1 | h1
      · exact .inl h1
      · exact .inr (g.block b hb h1).2
    · exact .inl (h.pd.fresh (by omega))⟩, ⟨g.os, g.tape, g.output, g.size, fun b hb h1 h2 => ⟨(g.block b hb h2).1, h1, (g.block b hb h2).2⟩⟩⟩
end
/-- What stands between two calls of a pair: both disks, alike; c: calls so far. -/
structure Pair (T S : Nat → Nat) (W : World) (d mb : Nat) (fb : Nat → Nat) (m : Dm) (rb : Nat) (rm : Rm) (c : Nat) : Prop where
  two : Two T S W d mb fb m rb rm
  rel : ∃ φ, Rel φ m rm
  hist : Hist m
  szs : m.now.length + 2 * m.ch.length ≤ 8388608 + 3 * c ∧ m.ch.length ≤ c ∧ rm.fl.length ≤ 8388608 + 3 * c
theorem Pair.below {T S : Nat → Nat} {W W' : World} {d mb : Nat} {fb : Nat → Nat} {m : Dm} {rb : Nat} {rm : Rm} {c : Nat} (h : Pair T S W d mb fb m rb rm c) (hb : Below W.heap.size W W') : Pair T S W' d mb fb m rb rm c := ⟨h.two.below hb, h.rel, h.hist, h.szs⟩
/-- Both tags at once. -/
def ts (T S : Nat → Nat) : Nat → Nat := fun b => T b + S b
theorem ts0 {T S : Nat → Nat} {b : Nat} : ts T S b = 0 ↔ T b = 0 ∧ S b = 0 := by unfold ts; omega
theorem Go2.goes {T S T' S' : Nat → Nat} {W W' : World} (h : Go2 T S T' S' W W') : Goes (ts T S) (ts T' S') W W' :=
  ⟨h.os, h.tape, h.output, h.size, fun b hb h0 => by
    obtain ⟨x1, x2⟩ := ts0.1 h0
    obtain ⟨y1, y2, y3⟩ := h.block b hb x1 x2
    exact ⟨y1, ts0.2 ⟨y2, y3⟩⟩⟩
theorem Two.fresh {T S : Nat → Nat} {W : World} {d mb : Nat} {fb : Nat → Nat} {m : Dm} {rb : Nat} {rm : Rm} (h : Two T S W d mb fb m rb rm) {b : Nat} (hb : W.heap.size ≤ b) : ts T S b = 0 := ts0.2 ⟨h.pd.fresh hb, h.re.fresh hb⟩
theorem usedOf_top {fl : List Fl} {n : Nat} : ∀ (l : List (Key × Nat)), (∀ p ∈ l, lenOf fl p.2 ≤ n) → usedOf fl l ≤ l.length * n
  | [], _ => by simp [usedOf]
  | p :: r, h => by
    have h1 := h p (by simp)
    have h2 := usedOf_top r (fun q hq => h q (by simp [hq]))
    show ((p :: r).map fun p => lenOf fl p.2).sum ≤ _
    have h3 : ((p :: r).map fun p => lenOf fl p.2).sum = lenOf fl p.2 + usedOf fl r := by simp [usedOf]
    rw [h3, List.length_cons, Nat.succ_mul]
    omega
theorem Pd.used_le {T : Nat → Nat} {w : World} {d mb : Nat} {fb : Nat → Nat} {m : Dm} (h : Pd T w d mb fb m) : m.used ≤ m.now.length * 2147483648 := by
  refine usedOf_top _ fun p hp => ?_
  have hb := files_big h ⟨ofK p.1, dataOf m.fl p.2, sureOf m.fl p.2⟩ (List.mem_map.2 ⟨p, hp, rfl⟩)
  have hb' : (dataOf m.fl p.2).length ≤ 2147483648 := hb
  have e : lenOf m.fl p.2 = (dataOf m.fl p.2).length := by
    unfold lenOf dataOf
    cases m.fl[p.2]? <;> rfl
  omega
/-- How many files the reference has behind a call. -/
theorem rfl_create (r : Rm) (s : ByteArray) : (r.create s).2.fl.length ≤ r.fl.length + 1 := by
  unfold Rm.create
  split
  · show r.fl.length ≤ _; omega
  · split
    · show r.fl.length ≤ _; omega
    · split
      · show r.fl.length ≤ _; omega
      · split
        · show r.fl.length ≤ _; omega
        · show (r.fl ++ [_]).length ≤ _; simp
theorem rfl_reach (r : Rm) (ok : Bool) (k : Key) : (r.reach ok k).2.fl = r.fl := (rreach_same r ok k).2.1
theorem rfl_sync (r : Rm) (s : ByteArray) : (r.sync s).2.fl.length = r.fl.length := by
  unfold Rm.sync
  split
  · split
    · rw [rsure_eq]; show (List.modify _ _ _).length = _; rw [List.length_modify, rfl_reach]
    · rw [rfl_reach]
  · rw [rfl_reach]
theorem rfl_delete (r : Rm) (s : ByteArray) : (r.delete s).2.fl.length = r.fl.length := by
  unfold Rm.delete
  split
  · show (r.reach _ _).2.fl.length = _; rw [rfl_reach]
  · rw [rfl_reach]
theorem rfl_rename (r : Rm) (s t : ByteArray) : (r.rename s t).2.fl.length = r.fl.length := by
  unfold Rm.rename
  split
  · split
    · show (r.reach _ _).2.fl.length = _; rw [rfl_reach]
    · rw [rfl_reach]
  · rw [rfl_reach]
theorem rfl_lay (r : Rm) (i : Nat) (l : List Nat) : (r.lay i l).fl.length = r.fl.length := by show (List.modify _ _ _).length = _; rw [List.length_modify]
theorem rfl_append (r : Rm) (s : ByteArray) (l : List Nat) : (r.append s l).2.fl.length = r.fl.length := by
  have hp : ∀ (x : Rm) (i : Nat), (x.layPart i l).fl.length = x.fl.length := fun x i => by
    unfold Rm.layPart
    split
    · rw [rfl_lay]
    · rfl
  unfold Rm.append
  split
  · show (if _ then _ else _ : Rm).fl.length = _
    split
    · split
      · rw [hp]; rfl
      · rfl
    · rfl
  · split
    · rfl
    · split
      · rfl
      · split
        · rw [rfl_lay]; rfl
        · rw [rfl_lay]; rfl
theorem rfl_syncDir (r : Rm) : r.syncDir.2.fl.length = r.fl.length := by
  unfold Rm.syncDir
  split
  · rfl
  · split <;> rfl
end Dsk
end Go.Proofs.Ytbloifnibgdeoaa
namespace Go.Proofs.Ytbloifnibgdeoaa
namespace Dsk
open Go.RowKit Go.Shelf Go.Maps Go.Sort Byt Laws
set_option linter.unusedVariables false
set_option maxRecDepth 100000
set_option linter.unusedSimpArgs false
/-- Bytes that no disk holds. -/
theorem isB_goes2 {T T' : Nat → Nat} {w w' : World} {ab : Option Addr} {l : List Nat} (h : IsB w ab l) (ho : l ≠ [] → ∀ ad, ab = some ad → T ad.block = 0) (g : Goes T T' w w') : IsB w' ab l :=
  ⟨fun hne => by
    obtain ⟨b, off, e, hr⟩ := h.1 hne
    exact ⟨b, off, e, hr.keep (g.block b hr.1 (ho hne _ e)).1 g.size⟩, h.2⟩
set_option maxHeartbeats 2000000 in
theorem rappend2_any {T : Nat → Nat} {w : World} {d : Nat} {m : Rm} (h : Re T w d m) (s : ByteArray) (hs : s.size ≤ maxLen) (ab : Option Addr) (cb : Nat) (l : List Nat) (hb : IsB w ab l) (nb : ab = none → cb = 0) (hc : l.length ≤ cb) (hc2 : cb ≤ 9223372036854775807) (ho : l ≠ [] → ∀ ad, ab = some ad → T ad.block = 0)
    (hu : m.used + l.length ≤ 4611686018427387903) :
    Calls Try.prog 40 #[.pointer (some ⟨d, 0, none⟩), .string s, .slice ab l.length cb] w fun e w' => e = .returned (.int .i64 (m.append s l).1) ∧ ∃ T', Re T' w' d (m.append s l).2 ∧ Goes T T' w w' := by
  obtain ⟨fb, vf, vn, vs, vc, h⟩ := h
  have HH : Hid (Rd T w d fb m vf vn vs vc) := h
  have c9 := (h.top.2 9 (by omega)).1
  simp only [rcell] at c9
  have hs9 : s.size ≤ 9223372036854775807 := by unfold maxLen at hs; omega
  have HB : Hid (IsB w ab l) := hb
  have HO : Hid (l ≠ [] → ∀ ad, ab = some ad → T ad.block = 0) := ho
  have NB : Hid (ab = none → cb = 0) := nb
  have hprt : m.rig.part ≤ 9223372036854775807 := h.rok.2.2.2
  obtain ⟨i8, hi8, y0, y1, y2⟩ := info_parts infoB
  clear h hb ho nb
  cases hd : m.down with
  | true =>
    rw [hd] at c9
    have e : m.append s l = (30, m) := by simp [Rm.append, renter_d hd]
    rw [e]
    go_enter Try.func40, Try.ntmps40
    go_wp2
    go_ret
    exact ⟨rfl, T, Re.of HH.out, Goes.refl _ _⟩
  | false =>
    rw [hd] at c9
    cases hok : okN s with
    | false =>
      have e : m.append s l = (33, m) := by simp [Rm.append, renter_n hd, hok]
      rw [e]
      go_enter Try.func40, Try.ntmps40
      go_wp2_with (go_at_call 62; refine (ref_right s _ hs9).mono ?_; rintro e w5 ⟨rfl, hw5⟩; have hw6 := hw5.symm; clear hw5; subst hw6; rw [hok])
      go_ret
      exact ⟨rfl, T, Re.of HH.out, Goes.refl _ _⟩
    | true =>
      cases hl : look m.now (ky s) with
      | none =>
        cases hf : m.rig.fails.1 with
        | true =>
          have e : m.append s l = (31, m.fails) := by simp [Rm.append, renter_f hd hf, hok, hl]
          rw [e]
          go_enter Try.func40, Try.ntmps40
          go_wp2_with (first | (go_at_call 62; refine (ref_right s _ hs9).mono ?_; rintro e w5 ⟨rfl, hw5⟩; have hw6 := hw5.symm; clear hw5; subst hw6; rw [hok]) | (go_at_call 64; refine (rat_any HH.out s).mono ?_; rintro e w1 ⟨rfl, b1⟩; rw [show pv fb (look m.now s.data.toList) = .pointer none from by rw [show look m.now s.data.toList = none from hl]; rfl]; have H1 : Hid (Rd T w1 d fb m vf vn vs vc ∧ Goes T T w w1) := ⟨HH.out.below b1, Goes.below b1⟩; have t8 : w1.cell? ⟨d, 8, none⟩ = some (.int .i64 (m.rig.part : Nat)) := (H1.out.1.top.2 8 (by omega)).1; clear b1) | (go_at_call 63; refine (rrigged_any H1.out.1).mono ?_; rintro e w2 ⟨rfl, h2, g2⟩; rw [hf]; have H2 : Hid (Rd T w2 d fb m.fails vf vn vs vc ∧ Goes T T w w2) := ⟨h2, H1.out.2.trans g2⟩; clear h2 g2))
          go_ret
          exact ⟨rfl, T, Re.of H2.out.1, H2.out.2⟩
        | false =>
          have e : m.append s l = (34, m.fails) := by simp [Rm.append, renter_o hd hf, hok, hl]
          rw [e]
          go_enter Try.func40, Try.ntmps40
          go_wp2_with (first | (go_at_call 62; refine (ref_right s _ hs9).mono ?_; rintro e w5 ⟨rfl, hw5⟩; have hw6 := hw5.symm; clear hw5; subst hw6; rw [hok]) | (go_at_call 64; refine (rat_any HH.out s).mono ?_; rintro e w1 ⟨rfl, b1⟩; rw [show pv fb (look m.now s.data.toList) = .pointer none from by rw [show look m.now s.data.toList = none from hl]; rfl]; have H1 : Hid (Rd T w1 d fb m vf vn vs vc ∧ Goes T T w w1) := ⟨HH.out.below b1, Goes.below b1⟩; have t8 : w1.cell? ⟨d, 8, none⟩ = some (.int .i64 (m.rig.part : Nat)) := (H1.out.1.top.2 8 (by omega)).1; clear b1) | (go_at_call 63; refine (rrigged_any H1.out.1).mono ?_; rintro e w2 ⟨rfl, h2, g2⟩; rw [hf]; have H2 : Hid (Rd T w2 d fb m.fails vf vn vs vc ∧ Goes T T w w2) := ⟨h2, H1.out.2.trans g2⟩; clear h2 g2))
          go_ret
          exact ⟨rfl, T, Re.of H2.out.1, H2.out.2⟩
      | some i =>
        obtain ⟨f, hfl⟩ : ∃ f, m.fl[i]? = some f := ⟨_, List.getElem?_eq_getElem (HH.out.ids _ (look_some hl))⟩
        have HFL : Hid (m.fl[i]? = some f) := hfl
        have hln : lenOf m.fl i = f.data.length := lenOf_some hfl
        clear hfl
        cases hf : m.rig.fails.1 with
        | true =>
          by_cases hpl : m.rig.part ≤ l.length
          · have hpl' : (m.rig.part : Int) ≤ (l.length : Int) := by omega
            have hmin : min m.rig.part l.length = m.rig.part := by omega
            have hminI : min (m.rig.part : Int) (l.length : Int) = (m.rig.part : Int) := by omega
            have hk0 : m.rig.part ≤ l.length := by omega
            have HEQ : Hid (m.append s l = (31, if roomR m.room m.used f.data.length (m.rig.part) then m.fails.lay i (l.take (m.rig.part)) else m.fails)) := by
              show _ = _
              have e2 : m.fails.layPart i l = if roomR m.room m.used f.data.length (m.rig.part) then m.fails.lay i (l.take (m.rig.part)) else m.fails := by
                unfold Rm.layPart
                rw [show m.fails.rig.part = m.rig.part from fails_part _, hmin, show lenOf m.fails.fl i = f.data.length from hln]
                rfl
              simp [Rm.append, renter_f hd hf, hok, hl, e2]
            cases hro : roomR m.room m.used f.data.length (m.rig.part) with
            | false =>
              rw [HEQ.out, hro, if_neg (by simp)]
              go_enter Try.func40, Try.ntmps40
              go_wp2_with (first | (go_at_call 62; refine (ref_right s _ hs9).mono ?_; rintro e w5 ⟨rfl, hw5⟩; have hw6 := hw5.symm; clear hw5; subst hw6; rw [hok]) | (go_at_call 64; refine (rat_any HH.out s).mono ?_; rintro e w1 ⟨rfl, b1⟩; rw [show pv fb (look m.now s.data.toList) = .pointer (some ⟨fb i, 0, none⟩) from by rw [show look m.now s.data.toList = some i from hl]; rfl]; have H1 : Hid (Rd T w1 d fb m vf vn vs vc ∧ Goes T T w w1) := ⟨HH.out.below b1, Goes.below b1⟩; have t8 : w1.cell? ⟨d, 8, none⟩ = some (.int .i64 (m.rig.part : Nat)) := (H1.out.1.top.2 8 (by omega)).1; clear b1) | (go_at_call 63; refine (rrigged_any H1.out.1).mono ?_; rintro e w2 ⟨rfl, h2, g2⟩; rw [hf]; have H2 : Hid (Rd T w2 d fb m.fails vf vn vs vc ∧ Goes T T w w2) := ⟨h2, H1.out.2.trans g2⟩; clear h2 g2) | (go_at_call 74; refine (rfull_any H2.out.1 (show m.used ≤ _ by omega) HFL.out (m.rig.part) (by omega)).mono ?_; rintro e w3 ⟨rfl, q3, hw3⟩; rw [show (!roomR m.fails.room m.fails.used f.data.length (m.rig.part)) = true from by rw [show roomR m.fails.room m.fails.used f.data.length (m.rig.part) = !true from hro]; rfl]; have H3 : Hid (Rd T w3 d fb m.fails vf vn vs vc ∧ Goes T T w w3) := (by have b3 : Below w2.heap.size w2 w3 := (by rw [hw3]; exact below_drewN (Below.refl _ _) q3); exact ⟨H2.out.1.below b3, H2.out.2.trans (Goes.below b3)⟩); clear hw3))
              go_ret
              exact ⟨rfl, T, Re.of H3.out.1, H3.out.2⟩
            | true =>
              rw [HEQ.out, hro, if_pos rfl]
              go_enter Try.func40, Try.ntmps40
              go_upto_region 11 with (first | (go_at_call 62; refine (ref_right s _ hs9).mono ?_; rintro e w5 ⟨rfl, hw5⟩; have hw6 := hw5.symm; clear hw5; subst hw6; rw [hok]) | (go_at_call 64; refine (rat_any HH.out s).mono ?_; rintro e w1 ⟨rfl, b1⟩; rw [show pv fb (look m.now s.data.toList) = .pointer (some ⟨fb i, 0, none⟩) from by rw [show look m.now s.data.toList = some i from hl]; rfl]; have H1 : Hid (Rd T w1 d fb m vf vn vs vc ∧ Goes T T w w1) := ⟨HH.out.below b1, Goes.below b1⟩; have t8 : w1.cell? ⟨d, 8, none⟩ = some (.int .i64 (m.rig.part : Nat)) := (H1.out.1.top.2 8 (by omega)).1; clear b1) | (go_at_call 63; refine (rrigged_any H1.out.1).mono ?_; rintro e w2 ⟨rfl, h2, g2⟩; rw [hf]; have H2 : Hid (Rd T w2 d fb m.fails vf vn vs vc ∧ Goes T T w w2) := ⟨h2, H1.out.2.trans g2⟩; clear h2 g2) | (go_at_call 74; refine (rfull_any H2.out.1 (show m.used ≤ _ by omega) HFL.out (m.rig.part) (by omega)).mono ?_; rintro e w3 ⟨rfl, q3, hw3⟩; rw [show (!roomR m.fails.room m.fails.used f.data.length (m.rig.part)) = false from by rw [show roomR m.fails.room m.fails.used f.data.length (m.rig.part) = !false from hro]; rfl]; have H3 : Hid (Rd T w3 d fb m.fails vf vn vs vc ∧ Goes T T w w3) := (by have b3 : Below w2.heap.size w2 w3 := (by rw [hw3]; exact below_drewN (Below.refl _ _) q3); exact ⟨H2.out.1.below b3, H2.out.2.trans (Goes.below b3)⟩); clear hw3))
              obtain ⟨a, c, hfa⟩ := H3.out.1.file i f HFL.out
              have cf0 := (hfa.fld.2 0 (by omega)).1
              simp only [fcell, if_true] at cf0
              have HFA2 : Hid (FileAt T w3 (fb i) i f a c) := hfa
              have HBW : Hid (IsB w3 ab l) := isB_goes2 HB.out HO.out H3.out.2
              have HBG : Hid (f.data.length + (l.take (m.rig.part)).length ≤ 2147483648) := by
                have z : roomR m.fails.room m.fails.used f.data.length (m.rig.part) = true := hro
                simp only [roomR, Bool.and_eq_true, decide_eq_true_eq] at z
                have z2 := z.2
                show f.data.length + (l.take (m.rig.part)).length ≤ 2147483648
                (try simp only [List.length_take])
                omega
              have hncb : m.rig.part ≤ cb := by omega
              have hlt : (l.take (m.rig.part)).length = m.rig.part := by first | rfl | (simp only [List.length_take]; omega)
              clear hfa
              go_region_law (refine step_appHb (by rfl) (.tmp 43) (.tmp 46) 30 (by rfl) i8 Try.underlying30 hi8 y0 y1 y2 a c f.data (by first | rfl | simp [Act.eval, Act.put]) (HFA2.out.own.below (Below.refl _ _).drew) ab (m.rig.part) cb (l.take (m.rig.part)) (by first | rfl | simp [Act.eval, Act.put]) hlt.symm NB.out ((HBW.out.below (Below.refl _ _).drew).take _) (by have := HBG.out; omega) ?_; intro a8 c8 w8 hown8 hgr8 hat8; obtain ⟨z1, z2⟩ := (H3.out.1.below (Below.refl _ _).drew).layFacts (hfa_below HFA2.out (Below.refl _ _).drew) hgr8; have H8 : Hid (∃ T', Rd T' (w8.setCell ⟨fb i, 0, none⟩ (.slice a8 (f.data ++ l.take (m.rig.part)).length c8)) d fb (m.fails.lay i (l.take (m.rig.part))) vf vn vs vc ∧ Goes T T' w (w8.setCell ⟨fb i, 0, none⟩ (.slice a8 (f.data ++ l.take (m.rig.part)).length c8))) := (by obtain ⟨T', r1, r2⟩ := (H3.out.1.below (Below.refl _ _).drew).lay HFL.out (hfa_below HFA2.out (Below.refl _ _).drew) HBG.out hgr8 hown8 hat8; exact ⟨T', r1, (H3.out.2.trans (Goes.below (Below.refl _ _).drew)).trans r2⟩); clear hown8 hgr8 hat8)
              all_goals (
                go_wp2
                go_ret
                obtain ⟨T9, h9, g9⟩ := H8.out
                rw [show (f.data ++ l.take (m.rig.part)).length = f.data.length + (m.rig.part) from by rw [List.length_append, hlt]] at h9 g9
                exact ⟨rfl, T9, Re.of h9, g9⟩)
          · have hpl' : (l.length : Int) < (m.rig.part : Int) := by omega
            have hmin : min m.rig.part l.length = l.length := by omega
            have hminI : min (m.rig.part : Int) (l.length : Int) = (l.length : Int) := by omega
            have hk0 : l.length ≤ l.length := by omega
            have HEQ : Hid (m.append s l = (31, if roomR m.room m.used f.data.length (l.length) then m.fails.lay i (l.take (l.length)) else m.fails)) := by
              show _ = _
              have e2 : m.fails.layPart i l = if roomR m.room m.used f.data.length (l.length) then m.fails.lay i (l.take (l.length)) else m.fails := by
                unfold Rm.layPart
                rw [show m.fails.rig.part = m.rig.part from fails_part _, hmin, show lenOf m.fails.fl i = f.data.length from hln]
                rfl
              simp [Rm.append, renter_f hd hf, hok, hl, e2]
            cases hro : roomR m.room m.used f.data.length (l.length) with
            | false =>
              rw [HEQ.out, hro, if_neg (by simp)]
              go_enter Try.func40, Try.ntmps40
              go_wp2_with (first | (go_at_call 62; refine (ref_right s _ hs9).mono ?_; rintro e w5 ⟨rfl, hw5⟩; have hw6 := hw5.symm; clear hw5; subst hw6; rw [hok]) | (go_at_call 64; refine (rat_any HH.out s).mono ?_; rintro e w1 ⟨rfl, b1⟩; rw [show pv fb (look m.now s.data.toList) = .pointer (some ⟨fb i, 0, none⟩) from by rw [show look m.now s.data.toList = some i from hl]; rfl]; have H1 : Hid (Rd T w1 d fb m vf vn vs vc ∧ Goes T T w w1) := ⟨HH.out.below b1, Goes.below b1⟩; have t8 : w1.cell? ⟨d, 8, none⟩ = some (.int .i64 (m.rig.part : Nat)) := (H1.out.1.top.2 8 (by omega)).1; clear b1) | (go_at_call 63; refine (rrigged_any H1.out.1).mono ?_; rintro e w2 ⟨rfl, h2, g2⟩; rw [hf]; have H2 : Hid (Rd T w2 d fb m.fails vf vn vs vc ∧ Goes T T w w2) := ⟨h2, H1.out.2.trans g2⟩; clear h2 g2) | (go_at_call 74; refine (rfull_any H2.out.1 (show m.used ≤ _ by omega) HFL.out (l.length) (by omega)).mono ?_; rintro e w3 ⟨rfl, q3, hw3⟩; rw [show (!roomR m.fails.room m.fails.used f.data.length (l.length)) = true from by rw [show roomR m.fails.room m.fails.used f.data.length (l.length) = !true from hro]; rfl]; have H3 : Hid (Rd T w3 d fb m.fails vf vn vs vc ∧ Goes T T w w3) := (by have b3 : Below w2.heap.size w2 w3 := (by rw [hw3]; exact below_drewN (Below.refl _ _) q3); exact ⟨H2.out.1.below b3, H2.out.2.trans (Goes.below b3)⟩); clear hw3))
              go_ret
              exact ⟨rfl, T, Re.of H3.out.1, H3.out.2⟩
            | true =>
              rw [HEQ.out, hro, if_pos rfl]
              go_enter Try.func40, Try.ntmps40
              go_upto_region 11 with (first | (go_at_call 62; refine (ref_right s _ hs9).mono ?_; rintro e w5 ⟨rfl, hw5⟩; have hw6 := hw5.symm; clear hw5; subst hw6; rw [hok]) | (go_at_call 64; refine (rat_any HH.out s).mono ?_; rintro e w1 ⟨rfl, b1⟩; rw [show pv fb (look m.now s.data.toList) = .pointer (some ⟨fb i, 0, none⟩) from by rw [show look m.now s.data.toList = some i from hl]; rfl]; have H1 : Hid (Rd T w1 d fb m vf vn vs vc ∧ Goes T T w w1) := ⟨HH.out.below b1, Goes.below b1⟩; have t8 : w1.cell? ⟨d, 8, none⟩ = some (.int .i64 (m.rig.part : Nat)) := (H1.out.1.top.2 8 (by omega)).1; clear b1) | (go_at_call 63; refine (rrigged_any H1.out.1).mono ?_; rintro e w2 ⟨rfl, h2, g2⟩; rw [hf]; have H2 : Hid (Rd T w2 d fb m.fails vf vn vs vc ∧ Goes T T w w2) := ⟨h2, H1.out.2.trans g2⟩; clear h2 g2) | (go_at_call 74; refine (rfull_any H2.out.1 (show m.used ≤ _ by omega) HFL.out (l.length) (by omega)).mono ?_; rintro e w3 ⟨rfl, q3, hw3⟩; rw [show (!roomR m.fails.room m.fails.used f.data.length (l.length)) = false from by rw [show roomR m.fails.room m.fails.used f.data.length (l.length) = !false from hro]; rfl]; have H3 : Hid (Rd T w3 d fb m.fails vf vn vs vc ∧ Goes T T w w3) := (by have b3 : Below w2.heap.size w2 w3 := (by rw [hw3]; exact below_drewN (Below.refl _ _) q3); exact ⟨H2.out.1.below b3, H2.out.2.trans (Goes.below b3)⟩); clear hw3))
              obtain ⟨a, c, hfa⟩ := H3.out.1.file i f HFL.out
              have cf0 := (hfa.fld.2 0 (by omega)).1
              simp only [fcell, if_true] at cf0
              have HFA2 : Hid (FileAt T w3 (fb i) i f a c) := hfa
              have HBW : Hid (IsB w3 ab l) := isB_goes2 HB.out HO.out H3.out.2
              have HBG : Hid (f.data.length + (l.take (l.length)).length ≤ 2147483648) := by
                have z : roomR m.fails.room m.fails.used f.data.length (l.length) = true := hro
                simp only [roomR, Bool.and_eq_true, decide_eq_true_eq] at z
                have z2 := z.2
                show f.data.length + (l.take (l.length)).length ≤ 2147483648
                (try simp only [List.length_take])
                omega
              have hncb : l.length ≤ cb := by omega
              have hlt : (l.take (l.length)).length = l.length := by first | rfl | (simp only [List.length_take]; omega)
              clear hfa
              go_region_law (refine step_appHb (by rfl) (.tmp 43) (.tmp 46) 30 (by rfl) i8 Try.underlying30 hi8 y0 y1 y2 a c f.data (by first | rfl | simp [Act.eval, Act.put]) (HFA2.out.own.below (Below.refl _ _).drew) ab (l.length) cb (l.take (l.length)) (by first | rfl | simp [Act.eval, Act.put]) hlt.symm NB.out ((HBW.out.below (Below.refl _ _).drew).take _) (by have := HBG.out; omega) ?_; intro a8 c8 w8 hown8 hgr8 hat8; obtain ⟨z1, z2⟩ := (H3.out.1.below (Below.refl _ _).drew).layFacts (hfa_below HFA2.out (Below.refl _ _).drew) hgr8; have H8 : Hid (∃ T', Rd T' (w8.setCell ⟨fb i, 0, none⟩ (.slice a8 (f.data ++ l.take (l.length)).length c8)) d fb (m.fails.lay i (l.take (l.length))) vf vn vs vc ∧ Goes T T' w (w8.setCell ⟨fb i, 0, none⟩ (.slice a8 (f.data ++ l.take (l.length)).length c8))) := (by obtain ⟨T', r1, r2⟩ := (H3.out.1.below (Below.refl _ _).drew).lay HFL.out (hfa_below HFA2.out (Below.refl _ _).drew) HBG.out hgr8 hown8 hat8; exact ⟨T', r1, (H3.out.2.trans (Goes.below (Below.refl _ _).drew)).trans r2⟩); clear hown8 hgr8 hat8)
              all_goals (
                go_wp2
                go_ret
                obtain ⟨T9, h9, g9⟩ := H8.out
                rw [show (f.data ++ l.take (l.length)).length = f.data.length + (l.length) from by rw [List.length_append, hlt]] at h9 g9
                exact ⟨rfl, T9, Re.of h9, g9⟩)
        | false =>
          cases hro : roomR m.room m.used f.data.length l.length with
          | false =>
            have e : m.append s l = (32, m.fails) := by simp [Rm.append, renter_o hd hf, hok, hl, hln, hro]
            rw [e]
            go_enter Try.func40, Try.ntmps40
            go_wp2_with (first | (go_at_call 62; refine (ref_right s _ hs9).mono ?_; rintro e w5 ⟨rfl, hw5⟩; have hw6 := hw5.symm; clear hw5; subst hw6; rw [hok]) | (go_at_call 64; refine (rat_any HH.out s).mono ?_; rintro e w1 ⟨rfl, b1⟩; rw [show pv fb (look m.now s.data.toList) = .pointer (some ⟨fb i, 0, none⟩) from by rw [show look m.now s.data.toList = some i from hl]; rfl]; have H1 : Hid (Rd T w1 d fb m vf vn vs vc ∧ Goes T T w w1) := ⟨HH.out.below b1, Goes.below b1⟩; have t8 : w1.cell? ⟨d, 8, none⟩ = some (.int .i64 (m.rig.part : Nat)) := (H1.out.1.top.2 8 (by omega)).1; clear b1) | (go_at_call 63; refine (rrigged_any H1.out.1).mono ?_; rintro e w2 ⟨rfl, h2, g2⟩; rw [hf]; have H2 : Hid (Rd T w2 d fb m.fails vf vn vs vc ∧ Goes T T w w2) := ⟨h2, H1.out.2.trans g2⟩; clear h2 g2) | (go_at_call 74; refine (rfull_any H2.out.1 (show m.used ≤ _ by omega) HFL.out (l.length) (by omega)).mono ?_; rintro e w3 ⟨rfl, q3, hw3⟩; rw [show (!roomR m.fails.room m.fails.used f.data.length (l.length)) = true from by rw [show roomR m.fails.room m.fails.used f.data.length (l.length) = !true from hro]; rfl]; have H3 : Hid (Rd T w3 d fb m.fails vf vn vs vc ∧ Goes T T w w3) := (by have b3 : Below w2.heap.size w2 w3 := (by rw [hw3]; exact below_drewN (Below.refl _ _) q3); exact ⟨H2.out.1.below b3, H2.out.2.trans (Goes.below b3)⟩); clear hw3))
            go_ret
            exact ⟨rfl, T, Re.of H3.out.1, H3.out.2⟩
          | true =>
            have HFA : Hid (∀ W (y : Int), Rd T W d fb m.fails vf vn vs vc → y = ((1 + l.length : Nat) : Int) → Calls Try.prog 65 #[.pointer (some ⟨d, 0, none⟩), .int .i64 y] W fun e w' => e = .returned (.tuple #[.int .i64 (((m.fails.spend (1 + l.length)).1 - 1 : Nat) : Int), .bool (decide (0 < (m.fails.spend (1 + l.length)).1))]) ∧ Rd T w' d fb (m.fails.spend (1 + l.length)).2 vf vn vs vc ∧ Goes T T W w') := fun W y hW hy => by
              subst hy
              exact rfalls_any hW (1 + l.length) (by omega)
            have hsl := rspend_le m.fails (1 + l.length)
            by_cases hs1 : 0 < (m.fails.spend (1 + l.length)).1
            · have hs' : decide (0 < (m.fails.spend (1 + l.length)).1) = true := decide_eq_true hs1
              have e : m.append s l = (30, (m.fails.spend (1 + l.length)).2.lay i (l.take ((m.fails.spend (1 + l.length)).1 - 1))) := by simp [Rm.append, renter_o hd hf, hok, hl, hln, hro, hs1]
              rw [e]
              obtain ⟨NX, hNX⟩ : ∃ NX, (m.fails.spend (1 + l.length)).1 - 1 = NX := ⟨_, rfl⟩
              have hk0 : NX ≤ l.length := by omega
              go_enter Try.func40, Try.ntmps40
              go_upto_region 19 with (first | (go_at_call 62; refine (ref_right s _ hs9).mono ?_; rintro e w5 ⟨rfl, hw5⟩; have hw6 := hw5.symm; clear hw5; subst hw6; rw [hok]) | (go_at_call 64; refine (rat_any HH.out s).mono ?_; rintro e w1 ⟨rfl, b1⟩; rw [show pv fb (look m.now s.data.toList) = .pointer (some ⟨fb i, 0, none⟩) from by rw [show look m.now s.data.toList = some i from hl]; rfl]; have H1 : Hid (Rd T w1 d fb m vf vn vs vc ∧ Goes T T w w1) := ⟨HH.out.below b1, Goes.below b1⟩; have t8 : w1.cell? ⟨d, 8, none⟩ = some (.int .i64 (m.rig.part : Nat)) := (H1.out.1.top.2 8 (by omega)).1; clear b1) | (go_at_call 63; refine (rrigged_any H1.out.1).mono ?_; rintro e w2 ⟨rfl, h2, g2⟩; rw [hf]; have H2 : Hid (Rd T w2 d fb m.fails vf vn vs vc ∧ Goes T T w w2) := ⟨h2, H1.out.2.trans g2⟩; clear h2 g2) | (go_at_call 74; refine (rfull_any H2.out.1 (show m.used ≤ _ by omega) HFL.out (l.length) (by omega)).mono ?_; rintro e w3 ⟨rfl, q3, hw3⟩; rw [show (!roomR m.fails.room m.fails.used f.data.length (l.length)) = false from by rw [show roomR m.fails.room m.fails.used f.data.length (l.length) = !false from hro]; rfl]; have H3 : Hid (Rd T w3 d fb m.fails vf vn vs vc ∧ Goes T T w w3) := (by have b3 : Below w2.heap.size w2 w3 := (by rw [hw3]; exact below_drewN (Below.refl _ _) q3); exact ⟨H2.out.1.below b3, H2.out.2.trans (Goes.below b3)⟩); clear hw3) | (go_at_call 65; refine (HFA.out w3 _ H3.out.1 (by first | rfl | omega | go_num)).mono ?_; rintro e w4 ⟨rfl, h4, g4⟩; rw [hs']; have H4 : Hid (Rd T w4 d fb (m.fails.spend (1 + l.length)).2 vf vn vs vc ∧ Goes T T w w4) := ⟨h4, H3.out.2.trans g4⟩; clear h4 g4))
              obtain ⟨a, c, hfa⟩ := H4.out.1.file i f HFL.out
              have cf0 := (hfa.fld.2 0 (by omega)).1
              simp only [fcell, if_true] at cf0
              have HFA2 : Hid (FileAt T w4 (fb i) i f a c) := hfa
              have HBW : Hid (IsB w4 ab l) := isB_goes2 HB.out HO.out H4.out.2
              have HBG : Hid (f.data.length + (l.take NX).length ≤ 2147483648) := by
                have z : roomR m.fails.room m.fails.used f.data.length (l.length) = true := hro
                simp only [roomR, Bool.and_eq_true, decide_eq_true_eq] at z
                have z2 := z.2
                show f.data.length + (l.take NX).length ≤ 2147483648
                (try simp only [List.length_take])
                omega
              have hncb : NX ≤ cb := by omega
              have hlt : (l.take NX).length = NX := by first | rfl | (simp only [List.length_take]; omega)
              clear hfa
              go_region_law (refine step_appHb (by rfl) (.tmp 70) (.tmp 73) 30 (by rfl) i8 Try.underlying30 hi8 y0 y1 y2 a c f.data (by first | rfl | simp [Act.eval, Act.put]) (HFA2.out.own.below (Below.refl _ _).drew) ab (NX) cb (l.take NX) (by first | rfl | simp [Act.eval, Act.put]) hlt.symm NB.out ((HBW.out.below (Below.refl _ _).drew).take _) (by have := HBG.out; omega) ?_; intro a8 c8 w8 hown8 hgr8 hat8; obtain ⟨z1, z2⟩ := (H4.out.1.below (Below.refl _ _).drew).layFacts (hfa_below HFA2.out (Below.refl _ _).drew) hgr8; have H8 : Hid (∃ T', Rd T' (w8.setCell ⟨fb i, 0, none⟩ (.slice a8 (f.data ++ l.take NX).length c8)) d fb ((m.fails.spend (1 + l.length)).2.lay i (l.take NX)) vf vn vs vc ∧ Goes T T' w (w8.setCell ⟨fb i, 0, none⟩ (.slice a8 (f.data ++ l.take NX).length c8))) := (by obtain ⟨T', r1, r2⟩ := (H4.out.1.below (Below.refl _ _).drew).lay HFL.out (hfa_below HFA2.out (Below.refl _ _).drew) HBG.out hgr8 hown8 hat8; exact ⟨T', r1, (H4.out.2.trans (Goes.below (Below.refl _ _).drew)).trans r2⟩); clear hown8 hgr8 hat8)
              all_goals (
                go_wp2
                go_ret
                obtain ⟨T9, h9, g9⟩ := H8.out
                rw [show (f.data ++ l.take NX).length = f.data.length + NX from by rw [List.length_append, hlt]] at h9 g9
                exact ⟨rfl, T9, by first | exact Re.of h9 | (rw [hNX]; exact Re.of h9), g9⟩)
            · have hs' : decide (0 < (m.fails.spend (1 + l.length)).1) = false := decide_eq_false hs1
              have e : m.append s l = (0, (m.fails.spend (1 + l.length)).2.lay i l) := by simp [Rm.append, renter_o hd hf, hok, hl, hln, hro, hs1]
              rw [e]
              go_enter Try.func40, Try.ntmps40
              go_upto_region 21 with (first | (go_at_call 62; refine (ref_right s _ hs9).mono ?_; rintro e w5 ⟨rfl, hw5⟩; have hw6 := hw5.symm; clear hw5; subst hw6; rw [hok]) | (go_at_call 64; refine (rat_any HH.out s).mono ?_; rintro e w1 ⟨rfl, b1⟩; rw [show pv fb (look m.now s.data.toList) = .pointer (some ⟨fb i, 0, none⟩) from by rw [show look m.now s.data.toList = some i from hl]; rfl]; have H1 : Hid (Rd T w1 d fb m vf vn vs vc ∧ Goes T T w w1) := ⟨HH.out.below b1, Goes.below b1⟩; have t8 : w1.cell? ⟨d, 8, none⟩ = some (.int .i64 (m.rig.part : Nat)) := (H1.out.1.top.2 8 (by omega)).1; clear b1) | (go_at_call 63; refine (rrigged_any H1.out.1).mono ?_; rintro e w2 ⟨rfl, h2, g2⟩; rw [hf]; have H2 : Hid (Rd T w2 d fb m.fails vf vn vs vc ∧ Goes T T w w2) := ⟨h2, H1.out.2.trans g2⟩; clear h2 g2) | (go_at_call 74; refine (rfull_any H2.out.1 (show m.used ≤ _ by omega) HFL.out (l.length) (by omega)).mono ?_; rintro e w3 ⟨rfl, q3, hw3⟩; rw [show (!roomR m.fails.room m.fails.used f.data.length (l.length)) = false from by rw [show roomR m.fails.room m.fails.used f.data.length (l.length) = !false from hro]; rfl]; have H3 : Hid (Rd T w3 d fb m.fails vf vn vs vc ∧ Goes T T w w3) := (by have b3 : Below w2.heap.size w2 w3 := (by rw [hw3]; exact below_drewN (Below.refl _ _) q3); exact ⟨H2.out.1.below b3, H2.out.2.trans (Goes.below b3)⟩); clear hw3) | (go_at_call 65; refine (HFA.out w3 _ H3.out.1 (by first | rfl | omega | go_num)).mono ?_; rintro e w4 ⟨rfl, h4, g4⟩; rw [hs']; have H4 : Hid (Rd T w4 d fb (m.fails.spend (1 + l.length)).2 vf vn vs vc ∧ Goes T T w w4) := ⟨h4, H3.out.2.trans g4⟩; clear h4 g4))
              obtain ⟨a, c, hfa⟩ := H4.out.1.file i f HFL.out
              have cf0 := (hfa.fld.2 0 (by omega)).1
              simp only [fcell, if_true] at cf0
              have HFA2 : Hid (FileAt T w4 (fb i) i f a c) := hfa
              have HBW : Hid (IsB w4 ab l) := isB_goes2 HB.out HO.out H4.out.2
              have HBG : Hid (f.data.length + (l).length ≤ 2147483648) := by
                have z : roomR m.fails.room m.fails.used f.data.length (l.length) = true := hro
                simp only [roomR, Bool.and_eq_true, decide_eq_true_eq] at z
                have z2 := z.2
                show f.data.length + (l).length ≤ 2147483648
                (try simp only [List.length_take])
                omega
              have hncb : l.length ≤ cb := by omega
              have hlt : (l).length = l.length := by first | rfl | (simp only [List.length_take]; omega)
              clear hfa
              go_wp2_with (at_builtin; refine wpList_appHb (by rfl) (.tmp 81) (.tmp 82) 30 (by rfl) i8 Try.underlying30 hi8 y0 y1 y2 a c f.data (by first | rfl | simp [Act.eval, Act.put]) HFA2.out.own ab (l.length) cb (l) (by first | rfl | simp [Act.eval, Act.put]) hlt.symm NB.out HBW.out (by have := HBG.out; omega) ?_; intro a8 c8 w8 hown8 hgr8 hat8; obtain ⟨z1, z2⟩ := H4.out.1.layFacts HFA2.out hgr8; have H8 : Hid (∃ T', Rd T' (w8.setCell ⟨fb i, 0, none⟩ (.slice a8 (f.data ++ l).length c8)) d fb ((m.fails.spend (1 + l.length)).2.lay i (l)) vf vn vs vc ∧ Goes T T' w (w8.setCell ⟨fb i, 0, none⟩ (.slice a8 (f.data ++ l).length c8))) := (by obtain ⟨T', r1, r2⟩ := H4.out.1.lay HFL.out HFA2.out HBG.out hgr8 hown8 hat8; exact ⟨T', r1, (H4.out.2.trans (Goes.below (Below.refl _ _))).trans r2⟩); clear hown8 hgr8 hat8)
              go_ret
              obtain ⟨T9, h9, g9⟩ := H8.out
              first | exact ⟨rfl, T9, Re.of h9, g9⟩ | (rw [List.length_append] at h9 g9; exact ⟨rfl, T9, Re.of h9, g9⟩)
end Dsk
end Go.Proofs.Ytbloifnibgdeoaa
namespace Go.Proofs.Ytbloifnibgdeoaa
namespace Dsk
open Go.RowKit Go.Shelf Go.Maps Go.Sort Byt Laws
set_option linter.unusedVariables false
set_option maxRecDepth 100000
set_option linter.unusedSimpArgs false
attribute [local go_sem ↓] Go.wp_at_zero Go.wp_at_succ

theorem wpList_cloneB {P : Program} (w : World) {ops : Array Oper} {rest : List Oper} {o : Oper} {a : Act} {Q : Exit → Act → World → Prop} (hgd : o.guard = none) (s x : Operand) (t : TypeId)
    (ho : o.op = .call { callee := .builtin .append, args := #[s, x], argTypes := #[t, t] })
    (e : TypeId) (i : TypeInfo) (ht : P.underlying t = some (.slice e)) (hi : P.info? e = some i) (hz : i.zero = some (.int .u8 0)) (hsize : i.size = 1) (hby : i.bytes = 1)
    (hs : a.eval s = .slice none 0 0) (ao : Option Addr) (m c : Nat) (r : List Nat) (hx : a.eval x = .slice ao m c) (hm : m = r.length) (hn : ao = none → c = 0) (hr : IsB w ao r) (h47 : m ≤ 140737488355328)
    (h : ∀ a' c' w', New e w.heap.size w' a' c' r → Below w.heap.size w w' → wpList P ops Q rest (a.put o.dst (.slice a' r.length c')) w') : wpList P ops Q (o :: rest) a w :=
  wpList_plain hgd fun _ hK => by
    subst hm
    cases ao with
    | none =>
      have hr0 := hr.none
      subst hr0
      obtain rfl := hn rfl
      have hrun := run_append_owned_none (P := P) (w := w) w.heap.size t o.type e i 1 ht hi (.slice none 0 0) 0 [] (World.ownsRow_nil _ _ _ _)
      have hx' : a.eval x = .slice none 0 0 := hx
      unfold Oper.wp execOp
      simp only [ho, resolve, invoke, builtin, Sem.run_bind, Sem.run_pure, Result.andThen_ok, List.map_toArray, List.map_cons, List.map_nil, hs, hx', hrun]
      exact hK _ _ (h none 0 w ⟨World.ownsRow_nil _ _ _ _, by simp⟩ (Below.refl _ _))
    | some ad =>
      obtain ⟨v', w', hrun, h2, h3, h4, h5⟩ := run_append_own_at (P := P) w w.heap.size t o.type e i (.int .u8 0) 1 1 ht hi hz hsize hby rfl (by omega) (.slice none 0 0) 0 [] (World.ownsRow_nil _ _ _ _) ad r.length c (cellsB r) (by rw [cellsB_length]; omega) (news_of hr ad rfl) (cellsB_one r) (by unfold maxLen; omega) (by omega) (Nat.le_refl _)
      rw [List.nil_append, Nat.zero_add] at h2
      obtain ⟨a', c', rfl, hnew⟩ := New.of h2 hr.2
      unfold Oper.wp execOp
      simp only [ho, resolve, invoke, builtin, Sem.run_bind, Sem.run_pure, Result.andThen_ok, List.map_toArray, List.map_cons, List.map_nil, hs, hx, hrun]
      exact hK _ _ (h a' c' w' hnew (below_of (Below.refl _ _) h3 (Nat.le_refl _) (fun j hj => by cases hj)))
theorem ints_goes2 {T T' : Nat → Nat} {w w' : World} {a : Option Addr} {ks : List Int} (h : IntsAt w a ks) (ho : ks ≠ [] → ∀ ad, a = some ad → T ad.block = 0) (g : Goes T T' w w') : IntsAt w' a ks := by
  by_cases hk : ks = []
  · intro j x hx
    rw [hk] at hx
    simp at hx
  · exact h.goes (ho hk) g
theorem isB_lt {w : World} {ab : Option Addr} {l : List Nat} (h : IsB w ab l) (hne : l ≠ []) : ∀ ad, ab = some ad → ad.block < w.heap.size := fun ad e => by
  obtain ⟨b, off, e2, hr⟩ := h.1 hne
  rw [e] at e2
  have e3 : ad = ⟨b, off, none⟩ := by injection e2
  rw [e3]
  exact hr.1
theorem ints_lt {w : World} {a : Option Addr} {ks : List Int} (h : IntsAt w a ks) (hne : ks ≠ []) : ∀ ad, a = some ad → ad.block < w.heap.size := fun ad e => by
  obtain ⟨x, hx⟩ := List.exists_mem_of_ne_nil _ hne
  obtain ⟨j, hj⟩ := List.getElem?_of_mem hx
  obtain ⟨b, off, e2, hc⟩ := h j x hj
  rw [e] at e2
  have e3 : ad = ⟨b, off, none⟩ := by injection e2
  rw [e3]
  exact (World.block_lt_of_cell? w _ hc : (⟨b, off + j, none⟩ : Addr).block < w.heap.size)
theorem cell_goes {T T' : Nat → Nat} {w w' : World} {b i : Nat} {v : Value} (hc : w.cell? ⟨b, i, none⟩ = some v) (ho : T b = 0) (g : Goes T T' w w') : w'.cell? ⟨b, i, none⟩ = some v := by
  have hlt : b < w.heap.size := World.block_lt_of_cell? w _ hc
  have e2 := (g.block b hlt ho).1
  rw [← hc]
  unfold World.cell?
  rw [show w'.heap[(⟨b, i, none⟩ : Addr).block]? = w.heap[(⟨b, i, none⟩ : Addr).block]? from e2]
/-- Inside does: both disks, the pair, the call as the law boxed it, its bytes and numbers and their copies. -/
structure Dz (T S : Nat → Nat) (W : World) (d mb : Nat) (fb : Nat → Nat) (m : Dm) (rb : Nat) (rm : Rm) (P ob : Nat) (o : OpD) (a1 a2 : Option Addr) : Prop where
  two : Two T S W d mb fb m rb rm
  p0 : W.cell? ⟨P, 0, none⟩ = some (.pointer (some ⟨d, 0, none⟩))
  p1 : W.cell? ⟨P, 1, none⟩ = some (.pointer (some ⟨rb, 0, none⟩))
  pt : ts T S P = 0
  ob : Ob (ts T S) W ob o
  isB : IsB W o.da o.data
  ints : IntsAt W o.ka o.keep
  cp : IsB W a1 o.data
  kp : IntsAt W a2 o.keep
  td : o.data ≠ [] → ∀ ad, o.da = some ad → ts T S ad.block = 0 ∧ ad.block < W.heap.size
  tn : o.keep ≠ [] → ∀ ad, o.ka = some ad → ts T S ad.block = 0 ∧ ad.block < W.heap.size
  tc : ∀ ad, a1 = some ad → ts T S ad.block = 0 ∧ ad.block < W.heap.size
  tk : o.keep ≠ [] → ∀ ad, a2 = some ad → ts T S ad.block = 0 ∧ ad.block < W.heap.size
section
variable {T S T' S' : Nat → Nat} {W W' : World} {d mb : Nat} {fb fb' : Nat → Nat} {m m' : Dm} {rb : Nat} {rm rm' : Rm} {P ob : Nat} {o : OpD} {a1 a2 : Option Addr}
theorem Dz.go (h : Dz T S W d mb fb m rb rm P ob o a1 a2) (two' : Two T' S' W' d mb fb' m' rb rm') (g2 : Go2 T S T' S' W W') : Dz T' S' W' d mb fb' m' rb rm' P ob o a1 a2 := by
  have g := g2.goes
  have tk : ∀ {x : Option Addr}, (∀ ad, x = some ad → ts T S ad.block = 0 ∧ ad.block < W.heap.size) → ∀ ad, x = some ad → ts T' S' ad.block = 0 ∧ ad.block < W'.heap.size := fun h0 ad e => ⟨(g.block _ (h0 ad e).2 (h0 ad e).1).2, Nat.lt_of_lt_of_le (h0 ad e).2 g.size⟩
  refine ⟨two', cell_goes h.p0 h.pt g, cell_goes h.p1 h.pt g, (g.block P (World.block_lt_of_cell? W _ h.p0) h.pt).2, h.ob.goes g, isB_goes2 h.isB (fun hne ad e => (h.td hne ad e).1) g, ints_goes2 h.ints (fun hne ad e => (h.tn hne ad e).1) g, isB_goes h.cp (fun ad e => (h.tc ad e).1) g, ints_goes2 h.kp (fun hne ad e => (h.tk hne ad e).1) g, fun hne => tk (h.td hne), fun hne => tk (h.tn hne), tk h.tc, fun hne => tk (h.tk hne)⟩
theorem Dz.below (h : Dz T S W d mb fb m rb rm P ob o a1 a2) (hb : Below W.heap.size W W') : Dz T S W' d mb fb m rb rm P ob o a1 a2 := h.go (h.two.below hb) (Go2.below hb)
theorem Dz.prog (h : Dz T S W d mb fb m rb rm P ob o a1 a2) (hp : Pd T' W' d mb fb' m') (g : Goes T T' W W') : Dz T' S W' d mb fb' m' rb rm P ob o a1 a2 ∧ Go2 T S T' S W W' :=
  ⟨h.go (h.two.prog hp g).1 (h.two.prog hp g).2, (h.two.prog hp g).2⟩
theorem Dz.ref (h : Dz T S W d mb fb m rb rm P ob o a1 a2) (hr : Re S' W' rb rm') (g : Goes S S' W W') : Dz T S' W' d mb fb m rb rm' P ob o a1 a2 ∧ Go2 T S T S' W W' :=
  ⟨h.go (h.two.ref hr g).1 (h.two.ref hr g).2, (h.two.ref hr g).2⟩
/-- The cells that the regions read. -/
def DzC (W : World) (d rb P ob : Nat) (o : OpD) : Prop := W.cell? ⟨P, 0, none⟩ = some (.pointer (some ⟨d, 0, none⟩)) ∧ W.cell? ⟨P, 1, none⟩ = some (.pointer (some ⟨rb, 0, none⟩)) ∧ W.cell? ⟨ob, 1, none⟩ = some (.string o.name) ∧ W.cell? ⟨ob, 2, none⟩ = some (.string o.too) ∧ W.cell? ⟨ob, 3, none⟩ = some (.slice o.da o.data.length o.dc) ∧ W.cell? ⟨ob, 4, none⟩ = some (.int .i64 o.x) ∧ W.cell? ⟨ob, 5, none⟩ = some (.int .i64 o.y) ∧ W.cell? ⟨ob, 6, none⟩ = some (.int .i64 o.z) ∧ W.cell? ⟨ob, 7, none⟩ = some (.slice o.ka o.keep.length o.kc)
theorem Dz.cells (h : Dz T S W d mb fb m rb rm P ob o a1 a2) : W.cell? ⟨P, 0, none⟩ = some (.pointer (some ⟨d, 0, none⟩)) ∧ W.cell? ⟨P, 1, none⟩ = some (.pointer (some ⟨rb, 0, none⟩)) ∧ W.cell? ⟨ob, 1, none⟩ = some (.string o.name) ∧ W.cell? ⟨ob, 2, none⟩ = some (.string o.too) ∧ W.cell? ⟨ob, 3, none⟩ = some (.slice o.da o.data.length o.dc) ∧ W.cell? ⟨ob, 4, none⟩ = some (.int .i64 o.x) ∧ W.cell? ⟨ob, 5, none⟩ = some (.int .i64 o.y) ∧ W.cell? ⟨ob, 6, none⟩ = some (.int .i64 o.z) ∧ W.cell? ⟨ob, 7, none⟩ = some (.slice o.ka o.keep.length o.kc) :=
  ⟨h.p0, h.p1, h.ob.at_ 1 (by omega), h.ob.at_ 2 (by omega), h.ob.at_ 3 (by omega), h.ob.at_ 4 (by omega), h.ob.at_ 5 (by omega), h.ob.at_ 6 (by omega), h.ob.at_ 7 (by omega)⟩
end
/-- Within does, from the world at its beginning on. -/
structure Dn (T0 S0 : Nat → Nat) (w : World) (T S : Nat → Nat) (W : World) (d mb : Nat) (fb : Nat → Nat) (m : Dm) (rb : Nat) (rm : Rm) (P ob : Nat) (o : OpD) (a1 a2 : Option Addr) (c : Nat) : Prop where
  dz : Dz T S W d mb fb m rb rm P ob o a1 a2
  go : Go2 T0 S0 T S w W
  rel : ∃ φ, Rel φ m rm
  hist : Hist m
  szs : m.now.length + 2 * m.ch.length ≤ 8388608 + 3 * c ∧ m.ch.length ≤ c ∧ rm.fl.length ≤ 8388608 + 3 * c
section
variable {T0 S0 : Nat → Nat} {w : World} {T S T' S' : Nat → Nat} {W W' : World} {d mb : Nat} {fb fb' : Nat → Nat} {m m' : Dm} {rb : Nat} {rm rm' : Rm} {P ob : Nat} {o : OpD} {a1 a2 : Option Addr} {c : Nat}
theorem Dn.below (h : Dn T0 S0 w T S W d mb fb m rb rm P ob o a1 a2 c) (hb : Below W.heap.size W W') : Dn T0 S0 w T S W' d mb fb m rb rm P ob o a1 a2 c :=
  ⟨h.dz.below hb, h.go.trans (Go2.below hb), h.rel, h.hist, h.szs⟩
theorem Dn.one (h : Dn T0 S0 w T S W d mb fb m rb rm P ob o a1 a2 c) : Dn T0 S0 w T S W d mb fb m rb rm P ob o a1 a2 (c + 1) := { h with szs := by have := h.szs; omega }
theorem Dn.step (h : Dn T0 S0 w T S W d mb fb m rb rm P ob o a1 a2 c) (hz : Dz T' S' W' d mb fb' m' rb rm' P ob o a1 a2) (g : Go2 T S T' S' W W') (rel' : ∃ φ, Rel φ m' rm') (hist' : Hist m') (hs : m'.now.length ≤ m.now.length + 1 ∧ m'.ch.length ≤ m.ch.length + 1 ∧ rm'.fl.length ≤ rm.fl.length + 1) : Dn T0 S0 w T' S' W' d mb fb' m' rb rm' P ob o a1 a2 (c + 1) :=
  ⟨hz, h.go.trans g, rel', hist', by have := h.szs; omega⟩
theorem Dn.pair (h : Dn T0 S0 w T S W d mb fb m rb rm P ob o a1 a2 c) : Pair T S W d mb fb m rb rm c := ⟨h.dz.two, h.rel, h.hist, h.szs⟩
theorem Dn.first (h : Pair T S w d mb fb m rb rm c) (p0 : w.cell? ⟨P, 0, none⟩ = some (.pointer (some ⟨d, 0, none⟩))) (p1 : w.cell? ⟨P, 1, none⟩ = some (.pointer (some ⟨rb, 0, none⟩))) (pt : ts T S P = 0) (ho : OpOk w o) (t1 : o.data ≠ [] → ∀ ad, o.da = some ad → ts T S ad.block = 0) (t2 : o.keep ≠ [] → ∀ ad, o.ka = some ad → ts T S ad.block = 0) (hb : Below w.heap.size w W) (hob : w.heap.size ≤ ob) (hob2 : ob < W.heap.size) (hcl : ∀ t, t < 8 → W.cell? ⟨ob, t, none⟩ = o.cells[t]?) (cp : IsB W a1 o.data) (kp : IntsAt W a2 o.keep) (h1 : ∀ ad, a1 = some ad → w.heap.size ≤ ad.block ∧ ad.block < W.heap.size) (h2 : ∀ ad, a2 = some ad → w.heap.size ≤ ad.block) : Dn T S w T S W d mb fb m rb rm P ob o a1 a2 c := by
  have g : Goes (ts T S) (ts T S) w W := Goes.below hb
  have a1' : IsB W o.da o.data := isB_goes2 ho.isB t1 g
  have a2' : IntsAt W o.ka o.keep := ints_goes2 ho.ints t2 g
  exact ⟨⟨h.two.below hb, cell_goes p0 pt g, cell_goes p1 pt g, pt, ⟨hob2, h.two.fresh hob, hcl⟩, a1', a2', cp, kp, fun hne ad e => ⟨t1 hne ad e, isB_lt a1' hne ad e⟩, fun hne ad e => ⟨t2 hne ad e, ints_lt a2' hne ad e⟩, fun ad e => ⟨h.two.fresh (h1 ad e).1, (h1 ad e).2⟩, fun hne ad e => ⟨h.two.fresh (h2 ad e), ints_lt kp hne ad e⟩⟩, Go2.below hb, h.rel, h.hist, h.szs⟩
end
theorem Re.fell_any {T : Nat → Nat} {w : World} {d : Nat} {m : Rm} (h : Re T w d m) :
    Calls Try.prog 16 #[.pointer (some ⟨d, 0, none⟩)] w fun e w' => e = .returned (.bool m.down) ∧ w' = w := by
  obtain ⟨fb, vf, vn, vs, vc, h⟩ := h
  exact rfell_any h
theorem Re.arm_any {T : Nat → Nat} {w : World} {d : Nat} {m : Rm} (h : Re T w d m) (n : Int) (hn : n ≤ 9223372036854775807) :
    Calls Try.prog 20 #[.pointer (some ⟨d, 0, none⟩), .int .i64 n] w fun e w' => e = .returned (.tuple #[]) ∧ Re T w' d (m.arm n) ∧ Goes T T w w' := by
  obtain ⟨fb, vf, vn, vs, vc, h⟩ := h
  refine (rarm_any h n hn).mono ?_
  rintro e w' ⟨h1, h2, h3⟩
  exact ⟨h1, .of h2, h3⟩
theorem Re.fail_any {T : Nat → Nat} {w : World} {d : Nat} {m : Rm} (h : Re T w d m) (x y z : Int) (hx : x ≤ 9223372036854775807) (hy : y ≤ 9223372036854775807) (hz : z ≤ 9223372036854775807) :
    Calls Try.prog 47 #[.pointer (some ⟨d, 0, none⟩), .int .i64 x, .int .i64 y, .int .i64 z] w fun e w' => e = .returned (.tuple #[]) ∧ Re T w' d (m.fail x y z) ∧ Goes T T w w' := by
  obtain ⟨fb, vf, vn, vs, vc, h⟩ := h
  refine (rfail_any h x y z hx hy hz).mono ?_
  rintro e w' ⟨h1, h2, h3⟩
  exact ⟨h1, .of h2, h3⟩
theorem Re.files_any {T : Nat → Nat} {w : World} {d : Nat} {m : Rm} (h : Re T w d m) (hch : m.ch.length ≤ 1000000) :
    Calls Try.prog 14 #[.pointer (some ⟨d, 0, none⟩)] w fun e w' => ∃ v ds, e = .returned v ∧ FilesAt w.heap.size w' v m.files ds ∧ Below w.heap.size w w' := by
  obtain ⟨fb, vf, vn, vs, vc, h⟩ := h
  exact rfiles_any h hch
/-- What does leaves. -/
def DoIs (T S : Nat → Nat) (w w' : World) (d mb rb c : Nat) : Prop := ∃ T' S' fb' m' rm', Pair T' S' w' d mb fb' m' rb rm' c ∧ Go2 T S T' S' w w'
set_option maxHeartbeats 1000000 in
theorem sameInts_true (a b : Option Addr) (ca cb n m : Nat) (l : List Int) (w : World) (ha : IntsAt w a l) (hb : IntsAt w b l) (hlen : l.length ≤ 9223372036854775807) (hn : n = l.length) (hm : m = l.length) :
    Calls Try.prog 48 #[.slice a n ca, .slice b m cb] w fun e w' => e = .returned (.bool true) ∧ ∃ q, w' = w.drewN q := by
  obtain rfl : m = n := by omega
  clear hm
  have HA : Hid (IntsAt w a l) := ha
  have HB : Hid (IntsAt w b l) := hb
  have HN : Hid (m = l.length) := hn
  have hmm : m ≤ 9223372036854775807 := by omega
  clear ha hb hn hlen
  go_enter Try.func48, Try.ntmps48
  go_wp2
  go_loopw [5] (fun i wr => ∃ k q : Nat, k ≤ m ∧ i = .int .i64 (k : Int) ∧ wr = w.drewN q) (fun i _ => m - (intOf i).toNat)
  case atStart => exact ⟨0, 0, Nat.zero_le _, rfl, rfl⟩
  case round =>
    obtain ⟨k, q, hk, rfl, rfl⟩ := hrel
    by_cases hlt : k < m
    · have hlt' : k < l.length := by rw [← HN.out]; exact hlt
      obtain ⟨x, hx⟩ : ∃ x, l[k]? = some x := ⟨_, List.getElem?_eq_getElem hlt'⟩
      obtain ⟨b1, o1, rfl, c1⟩ := HA.out k x hx
      obtain ⟨b2, o2, rfl, c2⟩ := HB.out k x hx
      have q1 : (k : Int) < (m : Int) := by omega
      clear hlt' hx
      go_wp2
      go_quiet (fail)
      go_wp2
      go_roundw
      case rel => exact ⟨k + 1, _, by omega, by go_num, rfl⟩
      case measure => simp [intOf]; omega
    · go_wp2
      go_ret
      exact ⟨rfl, _, rfl⟩
end Dsk
end Go.Proofs.Ytbloifnibgdeoaa
namespace Go.Proofs.Ytbloifnibgdeoaa
namespace Dsk
open Go.RowKit Go.Shelf Go.Maps Go.Sort Byt Laws
set_option linter.unusedVariables false
set_option maxRecDepth 100000
set_option linter.unusedSimpArgs false

theorem wp_cloneI2 {P : Program} (w : World) {o : Oper} {a : Act} {K : Act → World → Prop} {Q : Exit → Act → World → Prop} (s x : Operand) (t : TypeId)
    (ho : o.op = .call { callee := .builtin .append, args := #[s, x], argTypes := #[t, t] })
    (e : TypeId) (i : TypeInfo) (ht : P.underlying t = some (.slice e)) (hi : P.info? e = some i) (hz : i.zero = some (.int .i64 0)) (hsize : i.size = 1) (hby : i.bytes = 8)
    (hs : a.eval s = .slice none 0 0) (ao : Option Addr) (m c : Nat) (r : List Int) (hx : a.eval x = .slice ao m c) (hm : m = r.length) (hn : ao = none → c = 0) (hr : IntsAt w ao r) (h47 : m ≤ 1048576)
    (h : ∀ a' c' w', NInts w.heap.size w' a' c' r → Below w.heap.size w w' → K (a.put o.dst (.slice a' r.length c')) w') :
    Oper.wp P o a w K Q := by
  subst hm
  cases ao with
  | none =>
    have hr0 : r = [] := by
      cases r with
      | nil => rfl
      | cons y ys =>
        obtain ⟨b, off, e, _⟩ := hr 0 y rfl
        cases e
    subst hr0
    obtain rfl := hn rfl
    have hrun := run_append_owned_none (P := P) (w := w) w.heap.size t o.type e i 1 ht hi (.slice none 0 0) 0 [] (World.ownsRow_nil _ _ _ _)
    have hx' : a.eval x = .slice none 0 0 := hx
    unfold Oper.wp execOp
    simp only [ho, resolve, invoke, builtin, Sem.run_bind, Sem.run_pure, Result.andThen_ok, List.map_toArray, List.map_cons, List.map_nil, hs, hx', hrun]
    exact h none 0 w ⟨hr, fun ad e => (by cases e), Nat.le_refl _, by omega⟩ (Below.refl _ _)
  | some ad =>
    obtain ⟨v', w', hrun, h2, h3, h4, h5⟩ := run_append_own_at (P := P) w w.heap.size t o.type e i (.int .i64 0) 1 8 ht hi hz hsize hby rfl (by omega) (.slice none 0 0) 0 [] (World.ownsRow_nil _ _ _ _) ad r.length c (r.map fun x => Value.int .i64 x) (by rw [List.length_map]; omega) (ints_news hr) (by intro u hu; obtain ⟨x, _, rfl⟩ := List.mem_map.1 hu; rfl) (by unfold maxLen; omega) (by omega) (Nat.le_refl _)
    rw [List.nil_append, Nat.zero_add] at h2
    obtain ⟨a', c', rfl, hnew⟩ := NInts.of h2
    unfold Oper.wp execOp
    simp only [ho, resolve, invoke, builtin, Sem.run_bind, Sem.run_pure, Result.andThen_ok, List.map_toArray, List.map_cons, List.map_nil, hs, hx, hrun]
    exact h a' c' w' hnew (below_of (Below.refl _ _) h3 (Nat.le_refl _) (fun j hj => by cases hj))
/-- append([]int(nil), x...). -/
theorem wpList_cloneI2 {P : Program} (w : World) {ops : Array Oper} {rest : List Oper} {o : Oper} {a : Act} {Q : Exit → Act → World → Prop} (hgd : o.guard = none) (s x : Operand) (t : TypeId)
    (ho : o.op = .call { callee := .builtin .append, args := #[s, x], argTypes := #[t, t] })
    (e : TypeId) (i : TypeInfo) (ht : P.underlying t = some (.slice e)) (hi : P.info? e = some i) (hz : i.zero = some (.int .i64 0)) (hsize : i.size = 1) (hby : i.bytes = 8)
    (hs : a.eval s = .slice none 0 0) (ao : Option Addr) (m c : Nat) (r : List Int) (hx : a.eval x = .slice ao m c) (hm : m = r.length) (hn : ao = none → c = 0) (hr : IntsAt w ao r) (h47 : m ≤ 1048576)
    (h : ∀ a' c' w', NInts w.heap.size w' a' c' r → Below w.heap.size w w' → wpList P ops Q rest (a.put o.dst (.slice a' r.length c')) w') : wpList P ops Q (o :: rest) a w :=
  wpList_plain hgd fun _ hK => wp_cloneI2 w s x t ho e i ht hi hz hsize hby hs ao m c r hx hm hn hr h47 fun a' c' w' h1 h2 => hK _ _ (h a' c' w' h1 h2)
theorem syncDir_ch (m : Dm) : m.syncDir.2.ch.length ≤ m.ch.length + 1 := by
  unfold Dm.syncDir
  split
  · exact Nat.le_succ m.ch.length
  · split
    · exact Nat.le_succ m.ch.length
    · simp
theorem rarm_fl (m : Rm) (n : Int) : (m.arm n).fl = m.fl := by
  unfold Rm.arm
  split <;> rfl
theorem rfail_fl (m : Rm) (x y z : Int) : (m.fail x y z).fl = m.fl := by
  unfold Rm.fail
  split <;> rfl
theorem image_le (m : Dm) (dir : Int) (ks : List Int) : (m.image dir ks).length ≤ m.now.length + 2 * m.ch.length := by
  show (told _ _ _).length ≤ _
  rw [told_length]
  exact dirAt_len m dir
theorem Pd.image_big {T : Nat → Nat} {w : World} {d mb : Nat} {fb : Nat → Nat} {m : Dm} (h : Pd T w d mb fb m) (dir : Int) (ks : List Int) : ∀ f ∈ m.image dir ks, f.data.length ≤ 2147483648 := by
  obtain ⟨cv, D, h⟩ := h
  intro f hf
  obtain ⟨k, hk⟩ := List.getElem?_of_mem hf
  have hlt := (List.getElem?_eq_some_iff.1 hk).1
  have hlt2 : k < (m.dirAt dir).length := by
    have e : (m.image dir ks).length = (m.dirAt dir).length := told_length _ _ _
    omega
  have hp : (m.dirAt dir)[k]? = some ((m.dirAt dir)[k]'hlt2) := List.getElem?_eq_getElem hlt2
  have e := told_get (fl := m.fl) (ks := ks) hp
  have e2 : (told m.fl ks (m.dirAt dir))[k]? = some f := hk
  rw [e] at e2
  injection e2 with e3
  rw [← e3]
  show (leftD m.fl _ _).length ≤ _
  unfold leftD
  rw [List.length_take]
  have hd : (dataOf m.fl ((m.dirAt dir)[k]'hlt2).2).length ≤ 2147483648 := by
    unfold dataOf
    cases hg : m.fl[((m.dirAt dir)[k]'hlt2).2]? with
    | none => simp
    | some g =>
      obtain ⟨a, c, hfi⟩ := h.file _ g hg
      exact hfi.big
  omega
section
variable {T0 S0 : Nat → Nat} {w : World} {T S T' S' : Nat → Nat} {W W' : World} {d mb : Nat} {fb fb' : Nat → Nat} {m m' : Dm} {rb : Nat} {rm rm' : Rm} {P ob : Nat} {o : OpD} {a1 a2 : Option Addr} {c : Nat}
theorem Dn.fall {φ : Nat → Nat} {dir : Int} {ks : List Int} (h : Dn T0 S0 w T S W d mb fb m rb rm P ob o a1 a2 c) (hr : Rel φ m rm) (hz : Dz T' S' W' d mb fb' (m.fall dir ks) rb (rm.fall dir ks) P ob o a1 a2) (g : Go2 T S T' S' W W') : Dn T0 S0 w T' S' W' d mb fb' (m.fall dir ks) rb (rm.fall dir ks) P ob o a1 a2 (c + 1) := by
  refine ⟨hz, h.go.trans g, hr.fall h.hist (fun j f hf => h.dz.two.pd.sures j f hf) dir ks, h.hist.fall dir ks, ?_⟩
  have h1 : (m.fall dir ks).now = m.dirAt dir := rfl
  have h2 : (m.fall dir ks).ch = [] := rfl
  have h3 : (rm.fall dir ks).fl.length = (rm.image dir ks).length := by show (List.map _ _).length = _; rw [List.length_map]
  rw [hr.image] at h3
  have h4 := image_le m dir ks
  have h5 := dirAt_len m dir
  have h6 := h.szs
  rw [h1, h2, h3]
  simp only [List.length_nil]
  omega
end
end Dsk
end Go.Proofs.Ytbloifnibgdeoaa
namespace Go.Proofs.Ytbloifnibgdeoaa
namespace Dsk
open Go.RowKit Go.Maps Go.Sort Byt Laws
set_option linter.unusedVariables false
set_option maxRecDepth 100000

def nA : ByteArray := ⟨#[97]⟩
def nX : ByteArray := ⟨#[120]⟩
def nY : ByteArray := ⟨#[121]⟩
def kn1 : Dm := ((newM 0 []).create nA).2
def kn2 : Dm := (kn1.append nA [120, 121, 122]).2
def kn3 : Dm := (kn2.sync nA).2
def kn4 : Dm := (kn3.append nA [117, 118]).2
theorem kn1_e : (newM 0 []).create nA = (0, kn1) := by kernel_rfl
theorem kn2_e : kn1.append nA [120, 121, 122] = (0, kn2) := by kernel_rfl
theorem kn3_e : kn2.sync nA = (0, kn3) := by kernel_rfl
theorem kn4_e : kn3.append nA [117, 118] = (0, kn4) := by kernel_rfl
theorem kn5_e : kn4.files = [⟨nA, [120, 121, 122, 117, 118], 3⟩] := by kernel_rfl
theorem kn6_e : kn4.image 0 [] = [] := by kernel_rfl
theorem kn7_e : kn4.image 1 [1] = [⟨nA, [120, 121, 122, 117], 4⟩] := by kernel_rfl
def kq0 : Dm := (newM 0 []).fail 1 2 2
def kq1 : Dm := (kq0.create nX).2
def kq2 : Dm := (kq1.append nX [49, 50, 51, 52, 53]).2
def kq3 : Dm := (kq2.delete nY).2
def kq4 : Dm := (kq3.delete nY).2
theorem kq1_e : kq0.create nX = (0, kq1) := by kernel_rfl
theorem kq2_e : kq1.append nX [49, 50, 51, 52, 53] = (31, kq2) := by kernel_rfl
theorem kq3_e : kq2.delete nY = (31, kq3) := by kernel_rfl
theorem kq4_e : kq3.delete nY = (34, kq4) := by kernel_rfl
theorem kq5_e : kq4.read nX = ([49, 50], 0) := by kernel_rfl
end Dsk
end Go.Proofs.Ytbloifnibgdeoaa
namespace Go.Proofs.Ytbloifnibgdeoaa
namespace Dsk
open Go.RowKit Go.Maps Go.Sort Byt Laws
set_option linter.unusedVariables false
set_option maxRecDepth 100000

/-- A disk in a walk: what lay before the walk is as it was. -/
structure Kn (w0 : World) (T : Nat → Nat) (w : World) (d mb : Nat) (fb : Nat → Nat) (m : Dm) : Prop where
  pd : Pd T w d mb fb m
  low : ∀ b, b < w0.heap.size → T b = 0
  below : Below w0.heap.size w0 w
theorem Kn.goes {w0 : World} {T T' : Nat → Nat} {w w' : World} {d mb : Nat} {fb fb' : Nat → Nat} {m m' : Dm} (h : Kn w0 T w d mb fb m) (g : Goes T T' w w') (hp : Pd T' w' d mb fb' m') : Kn w0 T' w' d mb fb' m' :=
  ⟨hp, fun b hb => (g.block b (Nat.lt_of_lt_of_le hb h.below.size) (h.low b hb)).2, h.below.trans ⟨g.os, g.tape, g.output, g.size, fun b hb => (g.block b (Nat.lt_of_lt_of_le hb h.below.size) (h.low b hb)).1⟩⟩
theorem Kn.still {w0 : World} {T : Nat → Nat} {w w' : World} {d mb : Nat} {fb : Nat → Nat} {m : Dm} (h : Kn w0 T w d mb fb m) (hb : Below w.heap.size w w') : Kn w0 T w' d mb fb m := by
  obtain ⟨cv, D, hp⟩ := h.pd
  exact ⟨⟨cv, D, hp.below hb⟩, h.low, h.below.trans (hb.mono h.below.size)⟩
theorem Kn.fresh {w0 : World} {T : Nat → Nat} {w : World} {d mb : Nat} {fb : Nat → Nat} {m : Dm} (h : Kn w0 T w d mb fb m) {b : Nat} (hb : w.heap.size ≤ b) : T b = 0 := by
  obtain ⟨cv, D, hp⟩ := h.pd
  exact hp.fresh b hb
theorem new_kn {w0 w w' : World} {R : Nat} {fs : List Fj} {e : Ending} (hb0 : Below w0.heap.size w0 w) (hb : Below w.heap.size w w') (h : NewAns w R fs e w') (hok : okNew R fs = true) :
    ∃ d mb T fb, e = .returned (.tuple #[.pointer (some ⟨d, 0, none⟩), .int .i64 0]) ∧ Kn w0 T w' d mb fb (newM R fs) := by
  rcases h with ⟨h1, _⟩ | ⟨_, d, mb, T, fb, h1, rfl, h2, h3⟩
  · rw [hok] at h1; cases h1
  · exact ⟨d, mb, T, fb, rfl, h2, fun b hb' => h3 b (Nat.lt_of_lt_of_le hb' hb0.size), hb0.trans (hb.mono hb0.size)⟩
theorem fj_nil (w : World) : FjAt w none [] [] := ⟨rfl, fun j f x hf => by simp at hf⟩
theorem isB_lit (w : World) (t : TypeId) (fr : Nat × Nat) (cs : Array Value) (l : List Nat) (hl : ∀ x ∈ l, x < 256) (hc : ∀ (i x : Nat), l[i]? = some x → cs[i]? = some (.int .u8 (x : Int))) : IsB (w.alloc (.cells cs t fr)) (some ⟨w.heap.size, 0, none⟩) l := by
  refine IsB.some ⟨by simp, fun i x hx => ?_⟩ hl
  rw [Go.Joins.cell_alloc_mark_at w cs t fr _ _ rfl, Nat.zero_add]
  exact hc i x hx
theorem lit3 (a b c : Nat) : ∀ (i x : Nat), [a, b, c][i]? = some x → (#[.int .u8 (a : Int), .int .u8 (b : Int), .int .u8 (c : Int)] : Array Value)[i]? = some (.int .u8 (x : Int))
  | 0, x, h => by simp at h; subst h; rfl
  | 1, x, h => by simp at h; subst h; rfl
  | 2, x, h => by simp at h; subst h; rfl
  | n + 3, x, h => by simp at h
theorem lit2 (a b : Nat) : ∀ (i x : Nat), [a, b][i]? = some x → (#[.int .u8 (a : Int), .int .u8 (b : Int)] : Array Value)[i]? = some (.int .u8 (x : Int))
  | 0, x, h => by simp at h; subst h; rfl
  | 1, x, h => by simp at h; subst h; rfl
  | n + 2, x, h => by simp at h
theorem lit5 (a b c d e : Nat) : ∀ (i x : Nat), [a, b, c, d, e][i]? = some x → (#[.int .u8 (a : Int), .int .u8 (b : Int), .int .u8 (c : Int), .int .u8 (d : Int), .int .u8 (e : Int)] : Array Value)[i]? = some (.int .u8 (x : Int))
  | 0, x, h => by simp at h; subst h; rfl
  | 1, x, h => by simp at h; subst h; rfl
  | 2, x, h => by simp at h; subst h; rfl
  | 3, x, h => by simp at h; subst h; rfl
  | 4, x, h => by simp at h; subst h; rfl
  | n + 5, x, h => by simp at h

set_option maxHeartbeats 4000000 in
theorem known_any (w : World) : Calls Try.prog 8 #[] w fun e w' => e = .returned (.bool true) ∧ Below w.heap.size w w' := by
  have okN0 : okNew ((0 : Nat) : Int) [] = true := by kernel_rfl
  have HNW : Hid (okNew ((0 : Nat) : Int) [] = true) := okN0
  clear okN0
  have hcv := fun (w : World) (C : Array Value) (n c : Nat) => Lib.run_convert_bytes_const (P := Try.prog) w 30 5 C n c Try.underlying30 Try.underlying5
  go_enter Try.func8, Try.ntmps8
  go_wp2_with fail
  refine (new_any 0 (by omega) none 0 [] [] w (fj_nil w) (Nat.le_refl _) (by omega) (by simp)).mono ?_
  rintro e w1 ⟨hb1, hna⟩
  obtain ⟨d, mb, T1, fb1, rfl, hk1⟩ := new_kn (Below.refl _ _) hb1 hna HNW.out
  have K : Hid (Kn w T1 w1 d mb fb1 (newM 0 [])) := hk1
  clear hb1 hna hk1
  go_wp2_with (first | (go_at_call 15; refine (down_any K.out.pd).mono ?_; rintro e w9 ⟨rfl, hw9⟩; have hw8 := hw9.symm; clear hw9; subst hw8; rw [show (newM 0 []).down = false from rfl]))
  refine (create_any K.out.pd nA (by decide) (by decide)).mono ?_
  rintro e w2 ⟨rfl, T2, fb2, hp2, hg2⟩
  rw [kn1_e] at hp2 ⊢
  have K' : Hid (Kn w T2 w2 d mb fb2 (kn1)) := K.out.goes hg2 hp2
  clear K
  have K := K'
  clear K'
  clear hp2 hg2
  go_wp2_with fail
  have hb3 : Below w2.heap.size w2 (w2.alloc (.cells #[.int .u8 120, .int .u8 121, .int .u8 122] 5 (3, 4))) := (Below.refl _ _).alloc (Nat.le_refl _) _
  refine (append_any (K.out.still hb3).pd nA (by decide) (some ⟨w2.heap.size, 0, none⟩) 3 [120, 121, 122] (isB_lit w2 _ _ _ _ (by decide) (lit3 120 121 122)) (by simp) (by decide) (by decide) (fun ad e => by cases e; exact K.out.fresh (Nat.le_refl _)) (by decide)).mono ?_
  rintro e w3 ⟨rfl, T3, hp3, hg3⟩
  rw [kn2_e] at hp3 ⊢
  have K' : Hid (Kn w T3 w3 d mb fb2 (kn2)) := (K.out.still hb3).goes hg3 hp3
  clear K
  have K := K'
  clear K'
  clear hp3 hg3 hb3
  go_wp2_with fail
  refine (sync_any K.out.pd nA (by decide)).mono ?_
  rintro e w4 ⟨rfl, hp4, hg4⟩
  rw [kn3_e] at hp4 ⊢
  have K' : Hid (Kn w T3 w4 d mb fb2 (kn3)) := K.out.goes hg4 hp4
  clear K
  have K := K'
  clear K'
  clear hp4 hg4
  go_wp2_with fail
  have hb5 : Below w4.heap.size w4 (w4.alloc (.cells #[.int .u8 117, .int .u8 118] 5 (2, 3))) := (Below.refl _ _).alloc (Nat.le_refl _) _
  refine (append_any (K.out.still hb5).pd nA (by decide) (some ⟨w4.heap.size, 0, none⟩) 2 [117, 118] (isB_lit w4 _ _ _ _ (by decide) (lit2 117 118)) (by simp) (by decide) (by decide) (fun ad e => by cases e; exact K.out.fresh (Nat.le_refl _)) (by decide)).mono ?_
  rintro e w5 ⟨rfl, T5, hp5, hg5⟩
  rw [kn4_e] at hp5 ⊢
  have K' : Hid (Kn w T5 w5 d mb fb2 (kn4)) := (K.out.still hb5).goes hg5 hp5
  clear K
  have K := K'
  clear K'
  clear hp5 hg5 hb5
  go_wp2_with fail
  refine (files_any K.out.pd).mono ?_
  rintro e w6 ⟨v6, ds6, rfl, hf6, hb6⟩
  rw [kn5_e] at hf6
  have K' : Hid (Kn w T5 w6 d mb fb2 kn4) := K.out.still hb6
  clear K
  have K := K'
  clear K'
  obtain ⟨x6, hx6⟩ : ∃ x, ds6[0]? = some x := ⟨_, List.getElem?_eq_getElem (by rw [hf6.len]; decide)⟩
  obtain ⟨g6, cap6, rfl, q1, q2, c0, c1, c2⟩ := hf6.cells (j := 0) rfl hx6
  have hcv6 := conv_any w6 x6.1 x6.2 _ _ (hf6.data 0 _ x6 rfl hx6).1.isB rfl (hf6.data 0 _ x6 rfl hx6).1.cap
  rw [show ofB [120, 121, 122, 117, 118] = (⟨#[120, 121, 122, 117, 118]⟩ : ByteArray) from rfl] at hcv6
  simp only [nA, List.length_cons, List.length_nil] at c0 c1 c2 q1 hcv6 ⊢
  clear hf6 hx6 hb6
  go_wp2_with fail
  refine (image_any K.out.pd 0 none 0 [] (fun j x h => by simp at h) (Nat.le_refl _) (by omega) (by simp) (by decide) (by decide)).mono ?_
  rintro e w7 ⟨v7, ds7, rfl, hf7, hb7⟩
  rw [kn6_e] at hf7
  have K' : Hid (Kn w T5 w7 d mb fb2 kn4) := K.out.still hb7
  clear K
  have K := K'
  clear K'
  obtain ⟨a7, c7, rfl⟩ := own_slice hf7.row
  simp only [List.length_nil]
  clear hf7 hb7 c0 c1 c2 q1 q2 hcv6
  go_wp2_with fail
  have hb8 : Below w7.heap.size w7 (w7.alloc (.cells #[.int .i64 1] 3)) := (Below.refl _ _).alloc (Nat.le_refl _) _
  refine (image_any (K.out.still hb8).pd 1 (some ⟨w7.heap.size, 0, none⟩) 1 [1] (fun j x h => by
    cases j with
    | zero => simp at h; subst h; exact ⟨w7.heap.size, 0, rfl, by rw [World.cell?_alloc_at _ _ _ _ rfl]; rfl⟩
    | succ j => simp at h) (Nat.le_refl _) (by omega) (by simp) (by decide) (by decide)).mono ?_
  rintro e w9 ⟨v9, ds9, rfl, hf9, hb9⟩
  rw [kn7_e] at hf9
  have K' : Hid (Kn w T5 w9 d mb fb2 kn4) := (K.out.still hb8).still hb9
  clear K
  have K := K'
  clear K'
  obtain ⟨x9, hx9⟩ : ∃ x, ds9[0]? = some x := ⟨_, List.getElem?_eq_getElem (by rw [hf9.len]; decide)⟩
  obtain ⟨g9, cap9, rfl, q1, q2, c0, c1, c2⟩ := hf9.cells (j := 0) rfl hx9
  have hcv9 := conv_any w9 x9.1 x9.2 _ _ (hf9.data 0 _ x9 rfl hx9).1.isB rfl (hf9.data 0 _ x9 rfl hx9).1.cap
  rw [show ofB [120, 121, 122, 117] = (⟨#[120, 121, 122, 117]⟩ : ByteArray) from rfl] at hcv9
  simp only [nA, List.length_cons, List.length_nil] at c0 c1 c2 q1 hcv9 ⊢
  have BK : Hid (Below w.heap.size w w9) := K.out.below
  clear hf9 hx9 hb9 hb8 K
  go_wp2_with fail
  refine (new_any 0 (by omega) none 0 [] [] w9 (fj_nil w9) (Nat.le_refl _) (by omega) (by simp)).mono ?_
  rintro e w10 ⟨hb10, hna⟩
  obtain ⟨d2, mb2, U1, gb1, rfl, hk10⟩ := new_kn BK.out hb10 hna HNW.out
  have K : Hid (Kn w U1 w10 d2 mb2 gb1 (newM 0 [])) := hk10
  clear hb10 hna hk10 c0 c1 c2 q1 q2 hcv9
  go_wp2_with fail
  refine (fail_any K.out.pd 1 2 2 (by omega) (by omega) (by omega)).mono ?_
  rintro e w11 ⟨rfl, hp11, hg11⟩
  have K' : Hid (Kn w U1 w11 d2 mb2 gb1 kq0) := K.out.goes hg11 hp11
  clear K
  have K := K'
  clear K' hp11 hg11
  go_wp2_with fail
  refine (create_any K.out.pd nX (by decide) (by decide)).mono ?_
  rintro e w12 ⟨rfl, U2, gb2, hp12, hg12⟩
  rw [kq1_e] at hp12 ⊢
  have K' : Hid (Kn w U2 w12 d2 mb2 gb2 kq1) := K.out.goes hg12 hp12
  clear K
  have K := K'
  clear K' hp12 hg12
  go_wp2_with fail
  have hb13 : Below w12.heap.size w12 (w12.alloc (.cells #[.int .u8 49, .int .u8 50, .int .u8 51, .int .u8 52, .int .u8 53] 5 (5, 6))) := (Below.refl _ _).alloc (Nat.le_refl _) _
  refine (append_any (K.out.still hb13).pd nX (by decide) (some ⟨w12.heap.size, 0, none⟩) 5 [49, 50, 51, 52, 53] (isB_lit w12 _ _ _ _ (by decide) (lit5 49 50 51 52 53)) (by simp) (by decide) (by decide) (fun ad e => by cases e; exact K.out.fresh (Nat.le_refl _)) (by decide)).mono ?_
  rintro e w13 ⟨rfl, U3, hp13, hg13⟩
  rw [kq2_e] at hp13 ⊢
  have K' : Hid (Kn w U3 w13 d2 mb2 gb2 kq2) := (K.out.still hb13).goes hg13 hp13
  clear K
  have K := K'
  clear K' hp13 hg13 hb13
  go_wp2_with fail
  refine (delete_any K.out.pd nY (by decide) (by decide) (by decide)).mono ?_
  rintro e w14 ⟨rfl, U4, hp14, hg14⟩
  rw [kq3_e] at hp14 ⊢
  have K' : Hid (Kn w U4 w14 d2 mb2 gb2 kq3) := K.out.goes hg14 hp14
  clear K
  have K := K'
  clear K' hp14 hg14
  go_wp2_with fail
  refine (delete_any K.out.pd nY (by decide) (by decide) (by decide)).mono ?_
  rintro e w15 ⟨rfl, U5, hp15, hg15⟩
  rw [kq4_e] at hp15 ⊢
  have K' : Hid (Kn w U5 w15 d2 mb2 gb2 kq4) := K.out.goes hg15 hp15
  clear K
  have K := K'
  clear K' hp15 hg15
  go_wp2_with fail
  refine (read_any K.out.pd nX (by decide)).mono ?_
  rintro e w16 ⟨a16, c16, rfl, hn16, hb16⟩
  rw [kq5_e] at hn16 ⊢
  have hcv16 := conv_any w16 a16 c16 _ _ hn16.isB rfl hn16.cap
  rw [show ofB [49, 50] = (⟨#[49, 50]⟩ : ByteArray) from rfl] at hcv16
  simp only [List.length_cons, List.length_nil] at hcv16 ⊢
  have BF : Hid (Below w.heap.size w w16) := K.out.below.trans (hb16.mono K.out.below.size)
  clear hn16 hb16
  go_wp2
  go_ret
  exact ⟨rfl, BF.out⟩
end Dsk
end Go.Proofs.Ytbloifnibgdeoaa
