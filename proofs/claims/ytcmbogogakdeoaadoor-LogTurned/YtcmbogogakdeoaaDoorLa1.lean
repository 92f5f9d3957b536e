import Derived.Test.YtcmbogogakdeoaaDoorProg
import Derived.Test.YtcmbogogakdeoaaDoorSum
import Derived.Test.YtcmbogogakdeoaaDoorLgR
import Derived.Test.YtcmbogogakdeoaaDoorLaws
import Derived.WalkKit
import Derived.WalkSpells
import Derived.WalkLawsBesides
import Derived.Deep.QuietTactic
import Derived.BigQuiet
import Derived.Deep.RegionHeld3
import Derived.Lib.MinMax
namespace Go.Proofs.YtcmbogogakdeoaaDoor
namespace Lga
open Go.RowKit CMath Byt Cod Lg Laws
set_option linter.unusedVariables false
set_option maxRecDepth 20000

theorem blockLeft_any (n : Nat) (x : Int) (w : World) (hx : x = n) (hn : n ≤ 9223372036854775807) :
    Calls Tryd.prog 20 #[.int .i64 x] w fun e w' => e = .returned (.int .i64 ((512 - n % 512 : Nat) : Int)) ∧ w' = w := by
  subst hx
  go_enter Tryd.func20, Tryd.ntmps20
  go_wp2
  go_ret
  refine ⟨?_, rfl⟩
  show Ending.returned (.int .i64 (512 - (n : Int) % 512)) = _
  congr 2
  omega

theorem kindOf_any (a b : Bool) (w : World) :
    Calls Tryd.prog 22 #[.bool a, .bool b] w fun e w' => e = .returned (.int .u8 ((kd a b : Nat) : Int)) ∧ w' = w := by
  cases a <;> cases b
  all_goals
    go_enter Tryd.func22, Tryd.ntmps22
    go_wp2
    go_ret
    exact ⟨rfl, rfl⟩

theorem own_three {w : World} {x0 x1 x2 : Nat} {T : TypeId} {y0 y1 y2 : Int} (h0 : y0 = x0) (h1 : y1 = x1) (h2 : y2 = x2) : (w.alloc (.cells #[.int .u8 y0, .int .u8 y1, .int .u8 y2] T)).ownsRow w.heap.size T 1 (.slice (some ⟨w.heap.size, 0, none⟩) 3 3) 3 (cellsB [x0, x1, x2]) := by
  subst h0 h1 h2
  exact World.ownsRow_lit w #[.int .u8 (x0 : Int), .int .u8 (x1 : Int), .int .u8 (x2 : Int)] 3 (Nat.le_refl _) (by simp [maxLen]) (by simp)
theorem own_below {w w' : World} {base n : Nat} {e : TypeId} {v : Value} {xs : List Value} (h : w.ownsRow base e 1 v n xs) (hb : Below w.heap.size w w') : w'.ownsRow base e 1 v n xs := (Keep.below (bs := []) hb).own h (by simp)
theorem isB_grown {w w' : World} {g : Nat} {l : List Nat} {r : Option Nat} (h : IsB w (some ⟨g, 0, none⟩) l) (hg : w.grownBy w' r) (hgs : g < w.heap.size) (hr : r ≠ some g) : IsB w' (some ⟨g, 0, none⟩) l := by
  refine ⟨fun hne => ?_, h.2⟩
  obtain ⟨b, off, e, hrow⟩ := h.1 hne
  cases e
  exact ⟨g, 0, rfl, hrow.keep (hg.block g hgs (fun e => hr e.symm)) hg.size⟩
set_option maxHeartbeats 1000000 in
theorem appendPiece_any (base : Nat) (v : Value) (pre : List Nat) (k : Nat) (a : Option Addr) (cap n : Nat) (p : List Nat) (w : World) (hown : w.ownsRow base 5 1 v pre.length (cellsB pre)) (hpre : ∀ x ∈ pre, x < 256) (hk : k < 256) (hp : IsB w a p) (hc : a = none → cap = 0) (hn : n = p.length) (ht : Tab w) (hbase : base ≤ w.heap.size) (h0 : 0 < base) (h47 : pre.length + p.length + 16 ≤ 140737488355328) :
    Calls Tryd.prog 21 #[v, .int .u8 (k : Int), .slice a n cap] w fun e w' => ∃ v, e = .returned v ∧ Own 5 base w' v (pre ++ pie k p) ∧ Below base w w' := by
  subst hn
  obtain ⟨i8, hi, hz0, hz1, hz2⟩ := info_parts info8
  have HO : Hid (w.ownsRow base 5 1 v pre.length (cellsB pre)) := hown
  have HP : Hid (∀ x ∈ pre, x < 256) := hpre
  have HI : Hid (IsB w a p) := hp
  have HN : Hid (a = none → cap = 0) := hc
  have HT : Hid (Tab w) := ht
  clear hown hpre hp hc ht
  go_enter Tryd.func21, Tryd.ntmps21
  have hcr : crc (body k p) < 4294967296 := crc_lt _ (body_byte hk HI.out.2)
  have hbl := body_length k p
  go_wp2_with (first
    | (at_builtin; refine wpList_appB (by rfl) (.tmp 18) (.tmp 19) 23 (by rfl) w.heap.size 5 i8 Tryd.underlying23 hi hz0 hz1 hz2 _ [p.length % 256, p.length / 256 % 256, k] 3 (by rfl) (own_three (by omega) (by omega) (by omega)) a p.length cap p (by rfl) rfl HN.out (HI.out.below ((Below.refl _ _).alloc (Nat.le_refl _) _)) (by omega) (by simp) ?_; intro v1 w1 hown1 hgr1 hnn1; have HB1 : Hid (Below w.heap.size w w1) := below_of ((Below.refl _ _).alloc (Nat.le_refl _) _) hgr1 (Nat.le_refl _) (by simp [Value.ownBlock]); have HO1 : Hid (Own 5 w.heap.size w1 v1 (body k p)) := Own.pos hown1 (body_byte hk HI.out.2) (by omega); clear hgr1 hown1 hnn1; obtain ⟨g1, c1, rfl, hg1, hgs1, hc1, hI1⟩ := HO1.out.isB)
    | (go_at_call 31; refine (sum_any _ _ _ (body k p) w1 hI1 (HT.out.below HB1.out HT.out.lt) (by rw [body_length]; omega) rfl).mono ?_; rintro e w2 ⟨rfl, hw2⟩; subst hw2; have HO2 : Hid (w2.ownsRow base 5 1 v pre.length (cellsB pre)) := own_below HO.out HB1.out; have hs2 := HB1.out.size)
    | (at_builtin; refine wpList_appB (by rfl) (.tmp 23) (.tmp 35) 23 (by rfl) base 5 i8 Tryd.underlying23 hi hz0 hz1 hz2 _ pre pre.length (by rfl) (HO2.out.alloc _) (some ⟨w2.heap.size, 0, none⟩) 4 4 (four (crc (body k p))) (by rfl) rfl (by simp) (isB_four (by omega) (by omega) (by omega) (by omega)) (by omega) (by simp; omega) ?_; intro v3 w3 hown3 hgr3 hnn3; have HG3 : Hid ((w2.alloc _).grownBy w3 v.ownBlock) := hgr3; have HO3 : Hid (w3.ownsRow base 5 1 v3 (pre.length + 4) (cellsB (pre ++ four (crc (body k p))))) := hown3; have hI3 := isB_grown (hI1.below ((Below.refl _ _).alloc (Nat.le_refl _) _)) hgr3 (by simp; omega) (fun e => by have := (HO.out.lt _ e).2; omega); have HB3 : Hid (Below base w w3) := below_of ((HB1.out.mono hbase).alloc (by omega) _) hgr3 hbase (fun j hj => (HO.out.lt j hj).1); clear hgr3 hown3 hnn3; have hs3 := HB3.out.size)
    | (at_builtin; refine wpList_appB (by rfl) (.tmp 37) (.tmp 38) 23 (by rfl) base 5 i8 Tryd.underlying23 hi hz0 hz1 hz2 _ (pre ++ four (crc (body k p))) (pre.length + 4) (by rfl) HO3.out (some ⟨g1, 0, none⟩) (body k p).length c1 (body k p) (by rfl) rfl (by simp) hI3 (by omega) (by omega) ?_; intro v4 w4 hown4 hgr4 hnn4; have HB4 : Hid (Below base w w4) := below_of HB3.out hgr4 hbase (fun j hj => (HO3.out.lt j hj).1); have HO4 : Hid (w4.ownsRow base 5 1 v4 (pre.length + 4 + (body k p).length) (cellsB (pre ++ four (crc (body k p)) ++ body k p))) := hown4; clear hgr4 hown4 hnn4))
  go_ret
  refine ⟨v4, rfl, ?_, HB4.out⟩
  have h := HO4.out
  rw [List.append_assoc] at h
  exact Own.pos h (byte_app HP.out (pie_byte hk HI.out.2)) (by omega)

end Lga
end Go.Proofs.YtcmbogogakdeoaaDoor
