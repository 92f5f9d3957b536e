import Derived.Test.YtjbnnhephagdmaaDoorMw0
import Derived.Test.YtjbnnhephagdmaaDoorMl4
import Derived.Test.YtjbnnhephagdmaaDoorMk2
import Derived.Deep.RegionHeld3
namespace Go.Proofs.YtjbnnhephagdmaaDoor
namespace Mnf
open Go.RowKit CMath Byt Cod Crw Irw Laws
set_option linter.unusedVariables false
set_option linter.unusedSimpArgs false
set_option maxRecDepth 20000
def LenB (e : Ed) : Prop := e.out.length ≤ 1000000000000 ∧ e.inn.length ≤ 1000000000000 ∧ e.ptr.length ≤ 1000000000000
set_option maxHeartbeats 2000000 in
/-- two lists of edits that are alike -/
theorem sameEdits_true (w : World) (a b : Option Addr) (n ca cb : Nat) (es : List Ed) (ha : EdsAt w (a, n, ca) es) (hb : EdsAt w (b, n, cb) es) (hl : ∀ e ∈ es, LenB e) (hn : n ≤ 1000000000000) :
    Calls Tryd.prog 11 #[.slice a n ca, .slice b n cb] w fun e w' => e = .returned (.bool true) ∧ Below w.heap.size w w' := by
  have hne : n = es.length := by obtain ⟨vs, _, h2, _⟩ := ha; exact h2
  have HE : Hid (EdsAt w (a, n, ca) es ∧ EdsAt w (b, n, cb) es ∧ (∀ e ∈ es, LenB e) ∧ n = es.length) := ⟨ha, hb, hl, hne⟩
  clear ha hb hl hne
  go_enter Tryd.func11, Tryd.ntmps11
  go_wp2
  go_loopw [5] (fun i wr => ∃ k : Nat, k ≤ n ∧ i = .int .i64 (k : Int) ∧ Hid (Below w.heap.size w wr)) (fun i _ => n - (intOf i).toNat)
  case atStart => exact ⟨0, Nat.zero_le _, rfl, Below.refl _ _⟩
  case round =>
    obtain ⟨k, hk, rfl, HBR⟩ := hrel
    rename World => wr
    by_cases hlt : k < n
    · have hkl : k < es.length := by rw [← HE.out.2.2.2]; exact hlt
      obtain ⟨ed, hed0⟩ : ∃ e, es[k]? = some e := ⟨_, List.getElem?_eq_getElem hkl⟩
      obtain ⟨b1, off1, v, hsa, hbl1, cs1, he1⟩ := eds_at (HE.out.1.below HBR.out) hed0
      dsimp only at hsa
      subst hsa
      obtain ⟨v1, v2, v3, o1, i1, p1⟩ := v
      have he1b := he1
      obtain ⟨⟨q1, q2, q3⟩, _⟩ := he1b
      obtain rfl : v1 = ed.log := q1
      obtain rfl : v2 = ed.nxt := q2
      obtain rfl : v3 = ed.seq := q3
      obtain ⟨b2, off2, v, hsa, hbl2, cs2, he2⟩ := eds_at (HE.out.2.1.below HBR.out) hed0
      dsimp only at hsa
      subst hsa
      obtain ⟨v1, v2, v3, o2, i2, p2⟩ := v
      have he2b := he2
      obtain ⟨⟨q1, q2, q3⟩, _⟩ := he2b
      obtain rfl : v1 = ed.log := q1
      obtain rfl : v2 = ed.nxt := q2
      obtain rfl : v3 = ed.seq := q3
      have HST : Hid (∀ W, Below wr.heap.size wr W → Below wr.heap.size wr W ∧ W.cell? ⟨b1, off1 + k * 6, none⟩ = some (.int .u64 (ed.log : Int)) ∧ W.cell? ⟨b1, off1 + k * 6 + 1, none⟩ = some (.int .u64 (ed.nxt : Int)) ∧ W.cell? ⟨b1, off1 + k * 6 + 2, none⟩ = some (.int .u64 (ed.seq : Int)) ∧ W.cell? ⟨b1, off1 + k * 6 + 3, none⟩ = some (.slice o1.1 o1.2.1 o1.2.2) ∧ W.cell? ⟨b1, off1 + k * 6 + 4, none⟩ = some (.slice i1.1 i1.2.1 i1.2.2) ∧ W.cell? ⟨b1, off1 + k * 6 + 5, none⟩ = some (.slice p1.1 p1.2.1 p1.2.2) ∧ W.cell? ⟨b2, off2 + k * 6, none⟩ = some (.int .u64 (ed.log : Int)) ∧ W.cell? ⟨b2, off2 + k * 6 + 1, none⟩ = some (.int .u64 (ed.nxt : Int)) ∧ W.cell? ⟨b2, off2 + k * 6 + 2, none⟩ = some (.int .u64 (ed.seq : Int)) ∧ W.cell? ⟨b2, off2 + k * 6 + 3, none⟩ = some (.slice o2.1 o2.2.1 o2.2.2) ∧ W.cell? ⟨b2, off2 + k * 6 + 4, none⟩ = some (.slice i2.1 i2.2.1 i2.2.2) ∧ W.cell? ⟨b2, off2 + k * 6 + 5, none⟩ = some (.slice p2.1 p2.2.1 p2.2.2)) := fun W hW => ⟨hW, (hW.cell (p := ⟨b1, off1 + k * 6, none⟩) hbl1).trans (cs1 0 _ rfl), (hW.cell (p := ⟨b1, off1 + k * 6 + 1, none⟩) hbl1).trans (cs1 1 _ rfl), (hW.cell (p := ⟨b1, off1 + k * 6 + 2, none⟩) hbl1).trans (cs1 2 _ rfl), (hW.cell (p := ⟨b1, off1 + k * 6 + 3, none⟩) hbl1).trans (cs1 3 _ rfl), (hW.cell (p := ⟨b1, off1 + k * 6 + 4, none⟩) hbl1).trans (cs1 4 _ rfl), (hW.cell (p := ⟨b1, off1 + k * 6 + 5, none⟩) hbl1).trans (cs1 5 _ rfl), (hW.cell (p := ⟨b2, off2 + k * 6, none⟩) hbl2).trans (cs2 0 _ rfl), (hW.cell (p := ⟨b2, off2 + k * 6 + 1, none⟩) hbl2).trans (cs2 1 _ rfl), (hW.cell (p := ⟨b2, off2 + k * 6 + 2, none⟩) hbl2).trans (cs2 2 _ rfl), (hW.cell (p := ⟨b2, off2 + k * 6 + 3, none⟩) hbl2).trans (cs2 3 _ rfl), (hW.cell (p := ⟨b2, off2 + k * 6 + 4, none⟩) hbl2).trans (cs2 4 _ rfl), (hW.cell (p := ⟨b2, off2 + k * 6 + 5, none⟩) hbl2).trans (cs2 5 _ rfl)⟩
      have hlb := HE.out.2.2.1 ed (List.mem_of_getElem? hed0)
      have HSE : Hid (∀ W, Below wr.heap.size wr W → Calls Tryd.prog 14 #[.agg #[.int .u64 (ed.log : Int), .int .u64 (ed.nxt : Int), .int .u64 (ed.seq : Int), .slice o1.1 o1.2.1 o1.2.2, .slice i1.1 i1.2.1 i1.2.2, .slice p1.1 p1.2.1 p1.2.2], .agg #[.int .u64 (ed.log : Int), .int .u64 (ed.nxt : Int), .int .u64 (ed.seq : Int), .slice o2.1 o2.2.1 o2.2.2, .slice i2.1 i2.2.1 i2.2.2, .slice p2.1 p2.2.1 p2.2.2]] W fun e w' => e = .returned (.bool true) ∧ Below W.heap.size W w') := fun W hW => sameEdit_true ed.log ed.nxt ed.seq o1 i1 p1 o2 i2 p2 ed W (he1.below hW).2.1 (he1.below hW).2.2.1 (he1.below hW).2.2.2.1 (he2.below hW).2.1 (he2.below hW).2.2.1 (he2.below hW).2.2.2.1 hlb.1 hlb.2.1 hlb.2.2
      have q1 : (k : Int) < (n : Int) := by omega
      clear hkl hed0 cs1 cs2 he1 he2 hlb
      go_wp2
      go_region_held3 (fun W => Below wr.heap.size wr W ∧ W.cell? ⟨b1, off1 + k * 6, none⟩ = some (.int .u64 (ed.log : Int)) ∧ W.cell? ⟨b1, off1 + k * 6 + 1, none⟩ = some (.int .u64 (ed.nxt : Int)) ∧ W.cell? ⟨b1, off1 + k * 6 + 2, none⟩ = some (.int .u64 (ed.seq : Int)) ∧ W.cell? ⟨b1, off1 + k * 6 + 3, none⟩ = some (.slice o1.1 o1.2.1 o1.2.2) ∧ W.cell? ⟨b1, off1 + k * 6 + 4, none⟩ = some (.slice i1.1 i1.2.1 i1.2.2) ∧ W.cell? ⟨b1, off1 + k * 6 + 5, none⟩ = some (.slice p1.1 p1.2.1 p1.2.2) ∧ W.cell? ⟨b2, off2 + k * 6, none⟩ = some (.int .u64 (ed.log : Int)) ∧ W.cell? ⟨b2, off2 + k * 6 + 1, none⟩ = some (.int .u64 (ed.nxt : Int)) ∧ W.cell? ⟨b2, off2 + k * 6 + 2, none⟩ = some (.int .u64 (ed.seq : Int)) ∧ W.cell? ⟨b2, off2 + k * 6 + 3, none⟩ = some (.slice o2.1 o2.2.1 o2.2.2) ∧ W.cell? ⟨b2, off2 + k * 6 + 4, none⟩ = some (.slice i2.1 i2.2.1 i2.2.2) ∧ W.cell? ⟨b2, off2 + k * 6 + 5, none⟩ = some (.slice p2.1 p2.2.1 p2.2.2)) (first | assumption | exact HST.out _ (Below.refl _ _).drew | exact HST.out _ (by assumption) | exact keepS HST.out (by assumption) (by assumption))
        (first
          | (go_at_call 14; refine (HSE.out _ (And.left (by assumption))).mono ?_; rintro e w6 ⟨rfl, hb6⟩))
      have HB8 : Hid (Below wr.heap.size wr w6) := by rename_i hz; exact hz.1
      rename_i hzz
      clear hzz HST HSE
      go_wp2
      go_roundw
      case rel => exact ⟨k + 1, by omega, by go_num, bl_go HBR.out HB8.out⟩
      case measure => simp [intOf]; omega
    · have q1 : ¬ (k : Int) < (n : Int) := by omega
      go_wp2
      go_ret
      exact ⟨rfl, HBR.out⟩
/-- a place below m, and itself where it is one -/
def plc (k m : Int) : Int := Int.tmod (if k < 0 then -(k + 1) else k) m
theorem plc_bound (k m : Int) (hm : 0 < m) : 0 ≤ plc k m ∧ plc k m < m := by
  unfold plc
  have h0 : 0 ≤ (if k < 0 then -(k + 1) else k) := by split <;> omega
  rw [Int.tmod_eq_emod_of_nonneg h0]
  exact ⟨Int.emod_nonneg _ (by omega), Int.emod_lt_of_pos _ hm⟩
theorem place_any (k m : Int) (w : World) (hk : -9223372036854775808 ≤ k ∧ k ≤ 9223372036854775807) (hm : 0 < m) (hm2 : m ≤ 1000000000000) :
    Calls Tryd.prog 9 #[.int .i64 k, .int .i64 m] w fun e w' => e = .returned (.int .i64 (plc k m)) ∧ w' = w := by
  obtain ⟨hb1, hb2⟩ := plc_bound k m hm
  have hne : ¬ m = 0 := by omega
  have hne2 : (m == 0) = false := by simpa using hne
  by_cases h0 : k < 0
  · have e : plc k m = Int.tmod (-(k + 1)) m := by unfold plc; rw [if_pos h0]
    rw [e] at hb1 hb2 ⊢
    go_enter Tryd.func9, Tryd.ntmps9
    go_wp2
    go_ret
    exact ⟨by rw [Int.neg_tmod]; rfl, rfl⟩
  · have e : plc k m = Int.tmod k m := by unfold plc; rw [if_neg h0]
    rw [e] at hb1 hb2 ⊢
    go_enter Tryd.func9, Tryd.ntmps9
    go_wp2
    go_ret
    exact ⟨by rw [Int.tmod_eq_emod_of_nonneg (by omega)]; rfl, rfl⟩
end Mnf
end Go.Proofs.YtjbnnhephagdmaaDoor
