import Derived.Test.YtkebbmdghnplmaaDoorQg1
import Derived.Test.YtkebbmdghnplmaaDoorQgM
import Derived.Test.YtkebbmdghnplmaaDoorQb9
namespace Go.Proofs.YtkebbmdghnplmaaDoor
namespace Qb
open Go.RowKit Go.Shelf CMath Byt Laws Irw Crw Cod Qe
set_option linter.unusedVariables false
set_option linter.unusedSimpArgs false
set_option maxRecDepth 100000

/-- two lists of entries that are alike -/
theorem sameEntries_true (a b : Option Addr) (ca cb n m : Nat) (l : List En) (w : World) (ha : Erw.IsE w a l) (hb : Erw.IsE w b l) (hn : n = l.length) (hm : m = l.length) (hl : n ≤ 1000000000000) :
    Calls Tryd.prog 17 #[.slice a n ca, .slice b m cb] w fun e w' => e = .returned (.bool true) ∧ Below w.heap.size w w' := by
  obtain rfl : m = n := by omega
  clear hm
  have HA : Hid (Erw.IsE w a l) := ha
  have HB : Hid (Erw.IsE w b l) := hb
  have HNN : Hid (m = l.length) := hn
  clear ha hb hn
  go_enter Tryd.func17, Tryd.ntmps17
  go_wp2
  go_loopw [5] (fun i wr => ∃ k q : Nat, k ≤ m ∧ i = .int .i64 k ∧ wr = w.drewN q) (fun i _ => m - (intOf i).toNat)
  case atStart => exact ⟨0, 0, Nat.zero_le _, rfl, rfl⟩
  case round =>
    obtain ⟨k, q, hk, rfl, rfl⟩ := hrel
    by_cases hlt : k < m
    · have hlt' : k < l.length := by rw [← HNN.out]; exact hlt
      obtain ⟨b1, o1, ⟨yk, ys, yd, yv⟩, rfl, hy, _, x0, x1, x2, x3⟩ := Qg.isE_at HA.out hlt'
      obtain ⟨b2, o2, y', rfl, hy', _, y0, y1, y2, y3⟩ := Qg.isE_at HB.out hlt'
      rw [hy] at hy'
      cases hy'
      have q1 : (k : Int) < (m : Int) := by omega
      dsimp only at x0 x1 x2 x3 y0 y1 y2 y3
      clear hlt' hy
      go_wp2
      go_quiet (fail)
      go_wp2
      go_roundw
      case rel => exact ⟨k + 1, _, by omega, by go_num, rfl⟩
      case measure => simp [intOf]; omega
    · go_wp2
      go_ret
      exact ⟨rfl, below_drewN (Below.refl _ _) _⟩
structure MdS2 (w : World) (M : Nat) (r : Int) (acc' acc : List En) (v : Value) (T : Nat → Nat) (W : World) : Prop where
  ma : MakerAt 1 T W M r (pushes (Rn r) st0 acc')
  ow : Erw.OwnE 7 T W v acc
  bl : Below w.heap.size w W
  hi : Hi T W
  fr : ∀ b, b < w.heap.size → T b = 0
abbrev MdSt (w : World) (M : Nat) (r : Int) (acc : List En) (v : Value) (T : Nat → Nat) (W : World) : Prop := MdS2 w M r acc acc v T W
def MdIs (w : World) (R : Nat) (l : List En) (e : Ending) (w' : World) : Prop := ∃ g c a' c', e = .returned (.tuple #[.slice (some ⟨g, 0, none⟩) (blk (pushes R st0 (mds l))).length c, .slice a' (mds l).length c', .bool true]) ∧ w.heap.size ≤ g ∧ (blk (pushes R st0 (mds l))).length ≤ c ∧ c ≤ 9223372036854775807 ∧ IsB w' (some ⟨g, 0, none⟩) (blk (pushes R st0 (mds l))) ∧ Erw.IsE w' a' (mds l) ∧ (mds l).length ≤ c' ∧ (a' = none → c' = 0) ∧ Below w.heap.size w w'
theorem md_next {w w2 w9 : World} {M N : Nat} {r : Int} {acc : List En} {x : En} {aa a9 : Option Addr} {cc c9 : Nat} {T2 T9 : Nat → Nat} (h : MdS2 w M r (acc ++ [x]) acc (.slice aa N cc) T2 w2) (hg : Goes (· = 7) T2 w2 T9 w9) (ho : Erw.OwnE 7 T9 w9 (.slice a9 (acc.length + [x].length) c9) (acc ++ [x])) : MdSt w M r (acc ++ [x]) (.slice a9 (acc.length + 1) c9) T9 w9 :=
  ⟨h.ma.goes hg (by omega) (by omega) (by omega), ho, h.bl.trans ⟨hg.os, hg.tape, hg.output, hg.size, fun b hb => hg.block b (Nat.lt_of_lt_of_le hb h.bl.size) (by rw [h.fr b hb]; omega)⟩, h.hi.goes hg, fun b hb => (hg.tag b (Nat.lt_of_lt_of_le hb h.bl.size) (by rw [h.fr b hb]; omega)).trans (h.fr b hb)⟩
end Qb
end Go.Proofs.YtkebbmdghnplmaaDoor
