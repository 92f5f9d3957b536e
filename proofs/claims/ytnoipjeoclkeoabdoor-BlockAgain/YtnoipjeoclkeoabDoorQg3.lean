import Derived.Test.YtnoipjeoclkeoabDoorQg2
import Derived.Test.YtnoipjeoclkeoabDoorQc6
import Derived.Test.YtnoipjeoclkeoabDoorQd4
namespace Go.Proofs.YtnoipjeoclkeoabDoor
namespace Qb
open Go.RowKit Go.Shelf CMath Byt Laws Irw Crw Cod Qe
set_option linter.unusedVariables false
set_option linter.unusedSimpArgs false
set_option maxRecDepth 100000

theorem wkp_made {r : Nat} {l : List En} (hok : ∀ e ∈ l, Ok e ∧ 0 ≤ e.2.1) : (wkp (pushes r st0 l).b 0).map Prod.snd = l := by
  rw [wkp_fst]
  have := (wk_from (r := r) hok (Nat.zero_le _) (Nat.zero_mod r)).2
  rw [List.drop_zero] at this
  exact this
theorem gv_neg (l : List En) : gv (-1) l = l := by simp [gv]
/-- Open of what was made. -/
theorem open_made (a : Option Addr) (cap N R : Nat) (l : List En) (w : World) (hR : 1 ≤ R) (hc : chain ⟨#[]⟩ l) (h0 : ∀ e ∈ l, 0 ≤ e.2.1) (hl : l.length ≤ 4000) (ht : Tab w) (ha : IsB w a (blk (pushes R st0 l))) (hN : N = (blk (pushes R st0 l)).length) (hcap : N ≤ cap) (hc12 : cap ≤ 9223372036854775807) (hc0 : a = none → cap = 0) :
    Calls Tryd.prog 6 #[.slice a N cap] w fun e w' => ∃ M, e = .returned (.tuple #[.pointer (some ⟨M, 3, none⟩), .int .i64 0]) ∧ BlkF w.heap.size w' M 3 (pushes R st0 l).b (pushes R st0 l).p ∧ Below w.heap.size w w' := by
  have hok : ∀ e ∈ l, Ok e ∧ 0 ≤ e.2.1 := fun e he => ⟨chain_ok hc e he, h0 e he⟩
  have hbl := pushes_len R l hok
  have hpl := pushes_plen R l st0
  have z1 : st0.p.length = 0 := rfl
  obtain ⟨r', h1, h2, h3⟩ := opn_mk R l hR hc h0 (by omega) (by omega) (by omega)
  have hL := blk_len (pushes R st0 l)
  refine (open_any a cap N (blk (pushes R st0 l)) w ht ha hN hcap hc12 (by omega) hc0).mono fun e w' ⟨hb, h⟩ => ?_
  rw [h2] at h
  obtain ⟨M, he, hk⟩ := h
  dsimp only at hk
  rw [h3] at hk
  exact ⟨M, he, hk, hb⟩
theorem given_made (w : World) (K o R : Nat) (l : List En) (hc : chain ⟨#[]⟩ l) (h0 : ∀ e ∈ l, 0 ≤ e.2.1) (hl : l.length ≤ 4000) (hk : BlkZ w K o (pushes R st0 l).b (pushes R st0 l).p) :
    Calls Tryd.prog 8 #[.pointer (some ⟨K, o, none⟩), .int .i64 (-1)] w fun e w' => GvIs w l e w' := by
  have hok : ∀ e ∈ l, Ok e ∧ 0 ≤ e.2.1 := fun e he => ⟨chain_ok hc e he, h0 e he⟩
  have hbl := pushes_len R l hok
  have := given_any w K o _ _ (-1) hk (by omega)
  rw [gv_neg, wkp_made hok] at this
  exact this
/-- The chapter's first example. -/
def k3 : List En := [(⟨#[97]⟩, 1, false, ⟨#[120]⟩), (⟨#[97, 98]⟩, 2, true, ⟨#[]⟩), (⟨#[98]⟩, 3, false, ⟨#[]⟩)]
theorem k3_chain : chain ⟨#[]⟩ k3 := ⟨by decide, by decide, by decide, trivial⟩
theorem k3_nn : ∀ e ∈ k3, 0 ≤ e.2.1 := by decide
theorem k3_ok : ∀ e ∈ k3, Ok e ∧ 0 ≤ e.2.1 := fun e he => ⟨chain_ok k3_chain e he, k3_nn e he⟩
theorem k3_b : (pushes (Rn 2) st0 k3).b.length = 15 ∧ (pushes (Rn 2) st0 k3).p.length = 8 := by
  have h : Rn 2 = 2 := rfl
  rw [h]
  simp [k3, pushes, push, sh, plc, st0, entB, shr, kB, vB, tag, num, words, four, strB, Byt.strB]
theorem k3_aa : skE k3 ⟨#[97, 97]⟩ = some (⟨#[97, 98]⟩, 2, true, ⟨#[]⟩) := by unfold skE; simp only [Lib.toList_data]; rfl
theorem k3_c : skE k3 ⟨#[99]⟩ = none := by unfold skE; simp only [Lib.toList_data]; rfl

theorem k3_sz : ∀ e ∈ k3, e.1.size ≤ 1000000 ∧ e.2.2.2.size ≤ 1000000 ∧ 0 ≤ e.2.1 := by decide
theorem k3_adds {k : Nat} {x : En} (h : k3[k]? = some x) : adds (lastE ⟨#[]⟩ (k3.take k)) x = 0 := by
  have hk : k < k3.length := (List.getElem?_eq_some_iff.1 h).1
  have hc := k3_chain
  rw [← List.take_append_drop k k3, List.drop_eq_getElem_cons hk, chain_app] at hc
  rw [List.getElem?_eq_getElem hk] at h
  cases h
  exact hc.2.1
structure KnSt (w : World) (M : Nat) (acc : List En) (T : Nat → Nat) (W : World) : Prop where
  ma : MakerAt 1 T W M 2 (pushes (Rn 2) st0 acc)
  bl : Below w.heap.size w W
  hi : Hi T W
  fr : ∀ b, b < w.heap.size → T b = 0
theorem k3_row {W : World} {b : Nat} {u : TypeId} (h : W.heap[b]? = some (.cells #[.string ⟨#[97]⟩, .int .u64 1, .bool false, .string ⟨#[120]⟩, .string ⟨#[97, 98]⟩, .int .u64 2, .bool true, .string ⟨#[]⟩, .string ⟨#[98]⟩, .int .u64 3, .bool false, .string ⟨#[]⟩] u)) : Erw.IsE W (some ⟨b, 0, none⟩) k3 := by
  refine Erw.IsE.of ⟨(Array.getElem?_eq_some_iff.1 h).1, fun i z hz => ?_⟩
  match i, hz with
  | 0, hz => cases hz; exact ⟨by rw [cell_of_obj h]; rfl, by rw [cell_of_obj h]; rfl, by rw [cell_of_obj h]; rfl, by rw [cell_of_obj h]; rfl⟩
  | 1, hz => cases hz; exact ⟨by rw [cell_of_obj h]; rfl, by rw [cell_of_obj h]; rfl, by rw [cell_of_obj h]; rfl, by rw [cell_of_obj h]; rfl⟩
  | 2, hz => cases hz; exact ⟨by rw [cell_of_obj h]; rfl, by rw [cell_of_obj h]; rfl, by rw [cell_of_obj h]; rfl, by rw [cell_of_obj h]; rfl⟩
  | n + 3, hz => simp [k3] at hz
set_option maxHeartbeats 2000000 in
theorem known_any (w : World) (ht : Tab w) :
    Calls Tryd.prog 5 #[] w fun e w' => e = .returned (.bool true) ∧ Below w.heap.size w w' := by
  have HT : Hid (Tab w) := ht
  clear ht
  go_enter Tryd.func5, Tryd.ntmps5
  go_wp2_with (go_at_call 14; fail)
  have g1 : (w.alloc (.cells #[.string ⟨#[97]⟩, .int .u64 1, .bool false, .string ⟨#[120]⟩, .string ⟨#[97, 98]⟩, .int .u64 2, .bool true, .string ⟨#[]⟩, .string ⟨#[98]⟩, .int .u64 3, .bool false, .string ⟨#[]⟩] 43)).heap[w.heap.size]? = some (.cells #[.string ⟨#[97]⟩, .int .u64 1, .bool false, .string ⟨#[120]⟩, .string ⟨#[97, 98]⟩, .int .u64 2, .bool true, .string ⟨#[]⟩, .string ⟨#[98]⟩, .int .u64 3, .bool false, .string ⟨#[]⟩] 43) := World.alloc_heap_new _ _
  have hb1 : Below w.heap.size w (w.alloc (.cells #[.string ⟨#[97]⟩, .int .u64 1, .bool false, .string ⟨#[120]⟩, .string ⟨#[97, 98]⟩, .int .u64 2, .bool true, .string ⟨#[]⟩, .string ⟨#[98]⟩, .int .u64 3, .bool false, .string ⟨#[]⟩] 43)) := (Below.refl _ _).alloc (Nat.le_refl _) _
  generalize (w.alloc (.cells #[.string ⟨#[97]⟩, .int .u64 1, .bool false, .string ⟨#[120]⟩, .string ⟨#[97, 98]⟩, .int .u64 2, .bool true, .string ⟨#[]⟩, .string ⟨#[98]⟩, .int .u64 3, .bool false, .string ⟨#[]⟩] 43)) = W1 at *
  have HIE : Hid (Erw.IsE W1 (some ⟨w.heap.size, 0, none⟩) k3) := k3_row g1
  have HB1 : Hid (Below w.heap.size w W1) := hb1
  refine (newMaker_any 1 (fun _ => 0) W1 2).mono ?_
  rintro e w2 ⟨rfl, hm2, hb2, hs2⟩
  have HS1 : Hid (KnSt W1 W1.heap.size [] (upd (fun _ => 0) W1.heap.size 1) w2) := ⟨hm2, hb2, fun b hb => upd_other _ _ (by omega), fun b hb => upd_other _ _ (by omega)⟩
  clear hm2 hb2 hs2 g1 hb1
  dsimp only
  go_wp2
  go_loopw [3] (fun i wr => ∃ k : Nat, k ≤ 3 ∧ i = .int .i64 (k : Int) ∧ Hid (∃ T, KnSt W1 W1.heap.size (k3.take k) T wr)) (fun i _ => 3 - (intOf i).toNat)
  case atStart => exact ⟨0, by omega, rfl, _, HS1.out⟩
  case round =>
    obtain ⟨k, hk, rfl, HK⟩ := hrel
    rename World => wr
    by_cases hlt : k < 3
    · obtain ⟨T, hst⟩ := HK.out
      have HST : Hid (KnSt W1 W1.heap.size (k3.take k) T wr) := hst
      obtain ⟨b1, o1, ⟨yk, ys, yd, yv⟩, e1, hy, _, x0, x1, x2, x3⟩ := Qg.isE_at (HIE.out.below hst.bl) (show k < k3.length from hlt)
      cases e1
      have q1 : (k : Int) < 3 := by omega
      have hs := k3_sz _ (List.mem_of_getElem? hy)
      simp only [Nat.zero_add] at x0 x1 x2 x3
      dsimp only at x0 x1 x2 x3 hs
      obtain ⟨s9, rfl⟩ : ∃ s : Nat, ys = (s : Int) := ⟨ys.toNat, by omega⟩
      have hl3 := pushes_len (Rn 2) (k3.take k) (fun e he => k3_ok e (List.mem_of_mem_take he))
      have hpl := pushes_plen (Rn 2) (k3.take k) st0
      have hnl := pushes_n (Rn 2) (k3.take k) st0
      have hln : (k3.take k).length ≤ 3 := by rw [List.length_take]; omega
      have z1 : st0.p.length = 0 := rfl
      have z2 : st0.n = 0 := rfl
      have HADD : Hid (Calls Tryd.prog 15 #[.pointer (some ⟨W1.heap.size, 0, none⟩), .agg #[.string yk, .int .u64 (s9 : Int), .bool yd, .string yv]] wr fun e w' => e = .returned (.int .i64 0) ∧ ∃ T', KnSt W1 W1.heap.size (k3.take (k + 1)) T' w') := (add_any 1 T wr W1.heap.size 2 _ yk s9 yd yv hst.ma hst.hi (by omega) hs.1 hs.2.1 (by omega) (by omega) (by omega) ⟨by omega, by omega⟩).mono fun e w' h => by
        obtain ⟨T', h1, h2, h3⟩ := h
        have h0 : adds (pushes (Rn 2) st0 (k3.take k)).last (yk, (s9 : Int), yd, yv) = 0 := by rw [pushes_lastE]; exact k3_adds hy
        rw [h0] at h1 h2
        rw [if_pos rfl] at h2
        have hs := HST.out
        refine ⟨h1, T', ⟨?_, hs.bl.trans ⟨h3.os, h3.tape, h3.output, h3.size, fun b hb => h3.block b (Nat.lt_of_lt_of_le hb hs.bl.size) (by rw [hs.fr b hb]; unfold Mk; omega)⟩, hs.hi.goes h3, fun b hb => (h3.tag b (Nat.lt_of_lt_of_le hb hs.bl.size) (by rw [hs.fr b hb]; unfold Mk; omega)).trans (hs.fr b hb)⟩⟩
        rw [List.take_add_one, hy]
        show MakerAt 1 T' w' _ 2 (pushes (Rn 2) st0 (k3.take k ++ [(yk, (s9 : Int), yd, yv)]))
        rw [pushes_snoc]
        exact h2
      clear hst hy hl3 hpl hnl hln z1 z2 hs HK
      go_wp2_with (first
        | (go_at_call 15; go_loud (refine HADD.out.mono ?_; rintro e w3 ⟨rfl, h2⟩; have HS2 : Hid (∃ T', KnSt W1 W1.heap.size (k3.take (k + 1)) T' w3) := h2; clear h2))
        | (go_at_call 7; go_loud (refine (num_any _ _).mono ?_; rintro e w3 ⟨rfl, hw⟩; have hw2 := hw.symm; clear hw; subst hw2)))
      go_roundw
      case rel => exact ⟨k + 1, by omega, by go_num, HS2.out⟩
      case measure => simp [intOf]; omega
    · obtain rfl : k = 3 := by omega
      obtain ⟨T, hst⟩ := HK.out
      rw [show k3.take 3 = k3 from rfl] at hst
      have HST : Hid (KnSt W1 W1.heap.size k3 T wr) := hst
      have HTW : Hid (Tab wr) := HT.out.below (HB1.out.trans (hst.bl.mono HB1.out.size)) HT.out.lt
      have HBY : Hid (Calls Tryd.prog 16 #[.pointer (some ⟨W1.heap.size, 0, none⟩)] wr fun e w' => ∃ v, e = .returned v ∧ Byt.Own 5 wr.heap.size w' v (blk (pushes (Rn 2) st0 k3)) ∧ Below wr.heap.size wr w') := bytes_any 1 T wr W1.heap.size 2 _ hst.ma HTW.out (by rw [k3_b.1]; omega) (by rw [k3_b.2]; omega)
      clear hst HK
      go_wp2_with (go_at_call 16; go_loud (refine HBY.out.mono ?_; rintro e w4 ⟨v, rfl, hown, hb4⟩; have HOW : Hid (Byt.Own 5 wr.heap.size w4 v (blk (pushes (Rn 2) st0 k3)) ∧ Below wr.heap.size wr w4) := ⟨hown, hb4⟩; clear hown hb4))
      obtain ⟨g, c, rfl, hg, hgl, hlc, hib⟩ := HOW.out.1.isB
      have h31 : (blk (pushes (Rn 2) st0 k3)).length = 31 := by rw [blk_len, k3_b.1, k3_b.2]
      have hcm : c ≤ 9223372036854775807 := (New.ofOwn HOW.out.1).elim fun a h => h.elim fun c' h => by have := h.1; simp only [Value.slice.injEq] at this; obtain ⟨_, _, rfl⟩ := this; exact h.2.max
      have hb4 := HOW.out.2
      have HOP : Hid (Calls Tryd.prog 6 #[.slice (some ⟨g, 0, none⟩) 31 c] w4 fun e w' => ∃ M, e = .returned (.tuple #[.pointer (some ⟨M, 3, none⟩), .int .i64 0]) ∧ BlkF w4.heap.size w' M 3 (pushes (Rn 2) st0 k3).b (pushes (Rn 2) st0 k3).p ∧ Below w4.heap.size w4 w') := open_made _ c 31 (Rn 2) k3 w4 (Rn_pos 2) k3_chain k3_nn (by decide) (HTW.out.below hb4 HTW.out.lt) hib h31.symm (by omega) hcm (by simp)
      rw [h31]
      clear hib hlc hgl hg hcm
      refine HOP.out.mono ?_
      rintro e w5 ⟨K5, rfl, hk5, hb5⟩
      have HB5 : Hid (Below w4.heap.size w4 w5) := hb5
      have HBW : Hid (Below W1.heap.size W1 w5) := HST.out.bl.trans ((hb4.mono HST.out.bl.size).trans (hb5.mono (Nat.le_trans HST.out.bl.size hb4.size)))
      have HSZ : Hid (Calls Tryd.prog 17 #[.pointer (some ⟨W1.heap.size, 0, none⟩)] w5 fun e w' => e = .returned (.int .i64 31) ∧ Below w5.heap.size w5 w') := by
        have h5 : MakerAt 1 T w5 W1.heap.size 2 (pushes (Rn 2) st0 k3) := (HST.out.ma.below hb4).below hb5
        refine (size_any 1 T w5 W1.heap.size 2 _ h5 (by rw [k3_b.1]; omega) (by rw [k3_b.2]; omega)).mono fun e w' ⟨h1, n, h2⟩ => ?_
        rw [k3_b.1, k3_b.2] at h1
        exact ⟨h1, by rw [h2]; exact below_drewN (Below.refl _ _) _⟩
      have HKB : Hid (BlkZ w5 K5 3 (pushes (Rn 2) st0 k3).b (pushes (Rn 2) st0 k3).p) := hk5.z
      clear hk5 hb5 hb4
      dsimp only
      go_wp2_with (first
        | (go_at_call 17; go_loud (refine HSZ.out.mono ?_; rintro e w6 ⟨rfl, hb6⟩; have HB6 : Hid (Below w5.heap.size w5 w6) := hb6; clear hb6))
        | (go_at_call 7; go_loud (refine (num_any _ _).mono ?_; rintro e w3 ⟨rfl, hw⟩; have hw2 := hw.symm; clear hw; subst hw2)))
      refine (given_made w6 K5 3 (Rn 2) k3 k3_chain k3_nn (by decide) (HKB.out.below HB6.out)).mono ?_
      rintro e w7 ⟨a7, c7, rfl, hi7, _, _, _, hb7⟩
      have HB7 : Hid (Below w6.heap.size w6 w7) := hb7
      have HB57 : Hid (Below w5.heap.size w5 w7) := HB6.out.trans (hb7.mono HB6.out.size)
      have HBW7 : Hid (Below W1.heap.size W1 w7) := HBW.out.trans (HB57.out.mono HBW.out.size)
      have HSE : Hid (Calls Tryd.prog 10 #[.slice a7 3 c7, .slice (some ⟨w.heap.size, 0, none⟩) 3 3] w7 fun e w' => e = .returned (.bool true) ∧ Below w7.heap.size w7 w') := sameEntries_true _ _ _ _ 3 3 k3 w7 hi7 (HIE.out.below HBW7.out) rfl rfl (by omega)
      rw [show k3.length = 3 from rfl]
      clear hi7 hb7
      dsimp only
      go_wp2_with (go_at_call 10; go_loud (refine HSE.out.mono ?_; rintro e w8 ⟨rfl, hb8⟩; have HB8 : Hid (Below w5.heap.size w5 w8) := HB57.out.trans (hb8.mono HB57.out.size); clear hb8))
      have HSK : Hid (∀ (W : World) (key : ByteArray), Below w5.heap.size w5 W → Calls Tryd.prog 18 #[.pointer (some ⟨K5, 3, none⟩), .string key] W fun e w' => e = .returned (skV (skE k3 key)) ∧ Below W.heap.size W w') := fun W key hb => seek_any W K5 3 (Rn 2) k3 key (Rn_pos 2) (HKB.out.below hb) k3_chain k3_nn (by rw [k3_b.1]; omega) (by rw [k3_b.2]; omega)
      refine (HSK.out w8 _ HB8.out).mono ?_
      rintro e w9 ⟨rfl, hb9⟩
      rw [k3_aa]
      unfold skV
      dsimp only [Option.isSome]
      have HB9 : Hid (Below w5.heap.size w5 w9) := HB8.out.trans (hb9.mono HB8.out.size)
      clear hb9
      go_wp2_with (go_at_call 18; fail)
      have hb10 : Below w9.heap.size w9 (w9.alloc (.cells #[.string ⟨#[97, 98]⟩, .int .u64 2, .bool true, .string ⟨#[]⟩] 43)) := (Below.refl _ _).alloc (Nat.le_refl _) _
      have g10 : (w9.alloc (.cells #[.string ⟨#[97, 98]⟩, .int .u64 2, .bool true, .string ⟨#[]⟩] 43)).heap[w9.heap.size]? = some (.cells #[.string ⟨#[97, 98]⟩, .int .u64 2, .bool true, .string ⟨#[]⟩] 43) := World.alloc_heap_new _ _
      generalize (w9.alloc (.cells #[.string ⟨#[97, 98]⟩, .int .u64 2, .bool true, .string ⟨#[]⟩] 43)) = w10 at *
      have HB10 : Hid (Below w5.heap.size w5 w10) := HB9.out.trans (hb10.mono HB9.out.size)
      refine (HSK.out w10 _ HB10.out).mono ?_
      rintro e w11 ⟨rfl, hb11⟩
      rw [k3_c]
      unfold skV
      dsimp only [Option.isSome]
      have g11 := (hb11.block _ (Array.getElem?_eq_some_iff.1 g10).1).trans g10
      have HB11 : Hid (Below w5.heap.size w5 w11) := HB10.out.trans (hb11.mono HB10.out.size)
      have HBW11 : Hid (Below W1.heap.size W1 w11) := HBW.out.trans (HB11.out.mono HBW.out.size)
      obtain ⟨b1, o1, y, e1, hy, hbl, x0, x1, x2, x3⟩ := Qg.isE_at (HIE.out.below HBW11.out) (show 1 < k3.length by decide)
      cases e1
      cases hy
      simp only [Nat.zero_add, Nat.one_mul, Nat.reduceAdd] at x0 x1 x2 x3
      have c0 : w11.cell? ⟨w9.heap.size, 0, none⟩ = some (.string ⟨#[97, 98]⟩) := by rw [cell_of_obj g11]; rfl
      have c1 : w11.cell? ⟨w9.heap.size, 1, none⟩ = some (.int .u64 2) := by rw [cell_of_obj g11]; rfl
      have c2 : w11.cell? ⟨w9.heap.size, 2, none⟩ = some (.bool true) := by rw [cell_of_obj g11]; rfl
      have c3 : w11.cell? ⟨w9.heap.size, 3, none⟩ = some (.string ⟨#[]⟩) := by rw [cell_of_obj g11]; rfl
      have hl11 : w9.heap.size < w11.heap.size := (Array.getElem?_eq_some_iff.1 g11).1
      have hl12 : ¬ w9.heap.size = w11.heap.size := by omega
      have hl13 : w.heap.size < w11.heap.size := hbl
      have hl14 : ¬ w.heap.size = w11.heap.size := by omega
      clear hb10 hb11 g10 g11 hbl
      go_wp2
      go_region
      all_goals
        go_wp2
        go_ret
        refine ⟨rfl, HB1.out.trans ((HBW11.out.trans ?_).mono HB1.out.size)⟩
        exact (((Below.refl _ _).alloc (Nat.le_refl _) _).mono HBW11.out.size).drew
end Qb
end Go.Proofs.YtnoipjeoclkeoabDoor
