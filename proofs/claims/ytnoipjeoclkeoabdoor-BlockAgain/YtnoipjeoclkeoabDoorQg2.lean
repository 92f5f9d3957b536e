import Derived.Test.YtnoipjeoclkeoabDoorQg1
import Derived.Test.YtnoipjeoclkeoabDoorQb9
namespace Go.Proofs.YtnoipjeoclkeoabDoor
namespace Qb
open Go.RowKit Go.Shelf CMath Byt Laws Irw Crw Cod Qe
set_option linter.unusedVariables false
set_option linter.unusedSimpArgs false
set_option maxRecDepth 100000

/-- two lists of entries that are alike -/
theorem sameEntries_true (a b : Option Addr) (ca cb n m : Nat) (l : List En) (w : World) (ha : Erw.IsE w a l) (hb : Erw.IsE w b l) (hn : n = l.length) (hm : m = l.length) (hl : n ≤ 1000000000000) :
    Calls Tryd.prog 10 #[.slice a n ca, .slice b m cb] w fun e w' => e = .returned (.bool true) ∧ Below w.heap.size w w' := by
  obtain rfl : m = n := by omega
  clear hm
  have HA : Hid (Erw.IsE w a l) := ha
  have HB : Hid (Erw.IsE w b l) := hb
  have HNN : Hid (m = l.length) := hn
  clear ha hb hn
  go_enter Tryd.func10, Tryd.ntmps10
  go_wp2
  go_loopw [5] (fun i wr => ∃ k q : Nat, k ≤ m ∧ i = .int .i64 k ∧ wr = w.drewN q) (fun i _ => m - (intOf i).toNat)
  case atStart => exact ⟨0, 0, Nat.zero_le _, rfl, rfl⟩
  case round =>
    obtain ⟨k, q, hk, rfl, rfl⟩ := hrel
    by_cases hlt : k < m
    · have hlt' : k < l.length := by rw [← HNN.out]; exact hlt
      obtain ⟨b1, o1, ⟨yk, ys, yd, yv⟩, rfl, hy, _, x0, x1, x2, x3⟩ := Qg.isE_at HA.out hlt'
      obtain ⟨b2, o2, y', rfl, hy', _, y0, y1, y2, y3⟩ := Qg.isE_at HB.out hlt'
      rw [hy] at hy'
      cases hy'
      have q1 : (k : Int) < (m : Int) := by omega
      dsimp only at x0 x1 x2 x3 y0 y1 y2 y3
      clear hlt' hy
      go_wp2
      go_quiet (fail)
      go_wp2
      go_roundw
      case rel => exact ⟨k + 1, _, by omega, by go_num, rfl⟩
      case measure => simp [intOf]; omega
    · go_wp2
      go_ret
      exact ⟨rfl, below_drewN (Below.refl _ _) _⟩
theorem num_any (x : Int) (w : World) : Calls Tryd.prog 7 #[.int .i64 x] w fun e w' => e = .returned (.int .i64 x) ∧ w' = w := by
  go_enter Tryd.func7, Tryd.ntmps7
  go_wp2
  go_ret
  exact ⟨rfl, rfl⟩

/-- The entries that a maker takes. -/
def mdStep (acc : List En) (e : En) : List En := if adds (lastE ⟨#[]⟩ acc) e = 0 then acc ++ [e] else acc
def mds (l : List En) : List En := l.foldl mdStep []
theorem mds_snoc (l : List En) (e : En) : mds (l ++ [e]) = mdStep (mds l) e := by simp [mds]
theorem mds_take {l : List En} {k : Nat} {e : En} (h : l[k]? = some e) : mds (l.take (k + 1)) = mdStep (mds (l.take k)) e := by
  rw [List.take_add_one, h]
  exact mds_snoc _ _
theorem mds_all (l : List En) : chain ⟨#[]⟩ (mds l) ∧ (∀ e ∈ mds l, e ∈ l) ∧ (mds l).length ≤ l.length := by
  have key : ∀ (l acc : List En), chain ⟨#[]⟩ acc → chain ⟨#[]⟩ (l.foldl mdStep acc) ∧ (∀ e ∈ l.foldl mdStep acc, e ∈ acc ∨ e ∈ l) ∧ (l.foldl mdStep acc).length ≤ acc.length + l.length := by
    intro l
    induction l with
    | nil => intro acc h; exact ⟨h, fun e he => .inl he, by simp⟩
    | cons x l ih =>
      intro acc h
      have h1 : chain ⟨#[]⟩ (mdStep acc x) := by
        unfold mdStep
        split
        · rename_i h2; exact chain_snoc h h2
        · exact h
      have h3 := ih _ h1
      refine ⟨h3.1, fun e he => ?_, ?_⟩
      · rcases h3.2.1 e he with h4 | h4
        · unfold mdStep at h4
          split at h4
          · rcases List.mem_append.1 h4 with h5 | h5
            · exact .inl h5
            · rw [List.mem_singleton.1 h5]; exact .inr List.mem_cons_self
          · exact .inl h4
        · exact .inr (List.mem_cons_of_mem _ h4)
      · have h5 : (mdStep acc x).length ≤ acc.length + 1 := by
          unfold mdStep
          split
          · simp
          · omega
        have := h3.2.2
        simp only [List.foldl_cons, List.length_cons]
        omega
  have := key l [] trivial
  refine ⟨this.1, fun e he => ?_, by simpa [mds] using this.2.2⟩
  rcases this.2.1 e he with h | h
  · simp at h
  · exact h
theorem mds_chain {l : List En} (h : chain ⟨#[]⟩ l) : mds l = l := by
  have key : ∀ (l acc : List En), chain (lastE ⟨#[]⟩ acc) l → l.foldl mdStep acc = acc ++ l := by
    intro l
    induction l with
    | nil => intro acc _; simp
    | cons x l ih =>
      intro acc h
      have h1 : mdStep acc x = acc ++ [x] := by unfold mdStep; rw [if_pos h.1]
      simp only [List.foldl_cons]
      rw [h1, ih _ (by rw [lastE_snoc]; exact h.2)]
      simp
  exact key l [] h
structure MdS2 (w : World) (M : Nat) (r : Int) (acc' acc : List En) (v : Value) (T : Nat → Nat) (W : World) : Prop where
  ma : MakerAt 1 T W M r (pushes (Rn r) st0 acc')
  ow : Erw.OwnE 7 T W v acc
  bl : Below w.heap.size w W
  hi : Hi T W
  fr : ∀ b, b < w.heap.size → T b = 0
abbrev MdSt (w : World) (M : Nat) (r : Int) (acc : List En) (v : Value) (T : Nat → Nat) (W : World) : Prop := MdS2 w M r acc acc v T W
def MdIs (w : World) (R : Nat) (l : List En) (e : Ending) (w' : World) : Prop := ∃ g c a' c', e = .returned (.tuple #[.slice (some ⟨g, 0, none⟩) (blk (pushes R st0 (mds l))).length c, .slice a' (mds l).length c', .bool true]) ∧ w.heap.size ≤ g ∧ (blk (pushes R st0 (mds l))).length ≤ c ∧ c ≤ 9223372036854775807 ∧ IsB w' (some ⟨g, 0, none⟩) (blk (pushes R st0 (mds l))) ∧ Erw.IsE w' a' (mds l) ∧ (mds l).length ≤ c' ∧ (a' = none → c' = 0) ∧ Below w.heap.size w w'
theorem isE_new10 {w : World} {x : En} {u : TypeId} : Erw.IsE (w.alloc (.cells #[.string x.1, .int .u64 x.2.1, .bool x.2.2.1, .string x.2.2.2] u)) (some ⟨w.heap.size, 0, none⟩) [x] := by
  refine Erw.IsE.of ⟨by simp, fun i z hz => ?_⟩
  cases i with
  | zero => simp at hz; subst hz; refine ⟨?_, ?_, ?_, ?_⟩ <;> (rw [World.cell?_alloc_at _ _ _ _ rfl]; rfl)
  | succ i => simp at hz
theorem md_next {w w2 w9 : World} {M N : Nat} {r : Int} {acc : List En} {x : En} {aa a9 : Option Addr} {cc c9 : Nat} {T2 T9 : Nat → Nat} (h : MdS2 w M r (acc ++ [x]) acc (.slice aa N cc) T2 w2) (hg : Goes (· = 7) T2 w2 T9 w9) (ho : Erw.OwnE 7 T9 w9 (.slice a9 (acc.length + [x].length) c9) (acc ++ [x])) : MdSt w M r (acc ++ [x]) (.slice a9 (acc.length + 1) c9) T9 w9 :=
  ⟨h.ma.goes hg (by omega) (by omega) (by omega), ho, h.bl.trans ⟨hg.os, hg.tape, hg.output, hg.size, fun b hb => hg.block b (Nat.lt_of_lt_of_le hb h.bl.size) (by rw [h.fr b hb]; omega)⟩, h.hi.goes hg, fun b hb => (hg.tag b (Nat.lt_of_lt_of_le hb h.bl.size) (by rw [h.fr b hb]; omega)).trans (h.fr b hb)⟩
set_option maxHeartbeats 2000000 in
theorem made_any (w : World) (r : Int) (a : Option Addr) (cap n : Nat) (l : List En) (ht : Tab w) (hl : Erw.IsE w a l) (hn : n = l.length) (hnl : n ≤ 4000000) (hsz : ∀ e ∈ l, e.1.size ≤ 1000000 ∧ e.2.2.2.size ≤ 1000000 ∧ 0 ≤ e.2.1) (hr : -9223372036854775808 ≤ r ∧ r ≤ 9223372036854775807) :
    Calls Tryd.prog 9 #[.int .i64 r, .slice a n cap] w fun e w' => MdIs w (Rn r) l e w' := by
  obtain ⟨i0, hi0, hz0, hz1, hz2⟩ := info_parts Erw.infoE
  have HL : Hid (Erw.IsE w a l ∧ n = l.length ∧ ∀ e ∈ l, e.1.size ≤ 1000000 ∧ e.2.2.2.size ≤ 1000000 ∧ 0 ≤ e.2.1) := ⟨hl, hn, hsz⟩
  have HT : Hid (Tab w) := ht
  have HR : Hid (-9223372036854775808 ≤ r ∧ r ≤ 9223372036854775807) := hr
  clear hl hn hsz ht hr
  go_enter Tryd.func9, Tryd.ntmps9
  go_wp2_with (go_at_call 14; go_loud (refine (newMaker_any 1 (fun _ => 0) w r).mono ?_; rintro e w1 ⟨rfl, hm1, hb1, hs1⟩; have HS1 : Hid (MdSt w w.heap.size r [] (.slice none 0 0) (upd (fun _ => 0) w.heap.size 1) w1) := ⟨hm1, Erw.OwnE.empty _ _ _, hb1, fun b hb => upd_other _ _ (by omega), fun b hb => upd_other _ _ (by omega)⟩; clear hm1 hb1 hs1))
  go_loopw [8, 9] (fun v i wr => ∃ (k : Nat) (aa : Option Addr) (N cc : Nat), k ≤ n ∧ N ≤ k ∧ v = .slice aa N cc ∧ i = .int .i64 (k : Int) ∧ Hid (N = (mds (l.take k)).length ∧ ∃ T, MdSt w w.heap.size r (mds (l.take k)) (.slice aa N cc) T wr)) (fun _ i _ => n - (intOf i).toNat)
  case atStart => exact ⟨0, none, 0, 0, Nat.zero_le _, Nat.le_refl _, rfl, rfl, rfl, _, HS1.out⟩
  case round =>
    obtain ⟨k, aa, N, cc, hk, hNk, rfl, rfl, HK⟩ := hrel
    rename World => wr
    by_cases hlt : k < n
    · obtain ⟨hN, T, hst⟩ := HK.out
      have HST : Hid (MdSt w w.heap.size r (mds (l.take k)) (.slice aa N cc) T wr) := hst
      have HNN : Hid (N = (mds (l.take k)).length) := hN
      have hkl : k < l.length := by have := HL.out.2.1; omega
      obtain ⟨b1, o1, ⟨yk, ys, yd, yv⟩, rfl, hy, _, x0, x1, x2, x3⟩ := Qg.isE_at (HL.out.1.below hst.bl) hkl
      have q1 : (k : Int) < (n : Int) := by omega
      have hs := HL.out.2.2 _ (List.mem_of_getElem? hy)
      dsimp only at x0 x1 x2 x3 hs
      obtain ⟨s9, rfl⟩ : ∃ s : Nat, ys = (s : Int) := ⟨ys.toNat, by omega⟩
      have HMT : Hid (mds (l.take (k + 1)) = mdStep (mds (l.take k)) (yk, (s9 : Int), yd, yv)) := mds_take hy
      have hok : ∀ e ∈ mds (l.take k), Ok e ∧ 0 ≤ e.2.1 := fun e he => ⟨chain_ok (mds_all (l.take k)).1 e he, (HL.out.2.2 e (List.mem_of_mem_take ((mds_all (l.take k)).2.1 e he))).2.2⟩
      have hbl := pushes_len (Rn r) (mds (l.take k)) hok
      have hpl := pushes_plen (Rn r) (mds (l.take k)) st0
      have hnl' := pushes_n (Rn r) (mds (l.take k)) st0
      have z1 : st0.p.length = 0 := rfl
      have z2 : st0.n = 0 := rfl
      have HADD : Hid (Calls Tryd.prog 15 #[.pointer (some ⟨w.heap.size, 0, none⟩), .agg #[.string yk, .int .u64 (s9 : Int), .bool yd, .string yv]] wr fun e w' => AddIs 1 T wr w.heap.size r (pushes (Rn r) st0 (mds (l.take k))) (yk, (s9 : Int), yd, yv) e w') := add_any 1 T wr w.heap.size r _ yk s9 yd yv hst.ma hst.hi (by omega) hs.1 hs.2.1 (by omega) (by omega) (by omega) HR.out
      have hls : (pushes (Rn r) st0 (mds (l.take k))).last = lastE ⟨#[]⟩ (mds (l.take k)) := pushes_lastE _ _ _
      unfold AddIs at HADD
      rw [hls] at HADD
      unfold mdStep at HMT
      have HIE : Hid (Erw.IsE w (some ⟨b1, o1, none⟩) l ∧ l[k]? = some (yk, (s9 : Int), yd, yv)) := ⟨HL.out.1, hy⟩
      generalize mds (l.take k) = acc at *
      generalize adds (lastE ⟨#[]⟩ acc) (yk, (s9 : Int), yd, yv) = ad at *
      clear hbl hpl hnl' z1 z2 hok hls hs hst hN hy hkl HK
      by_cases had : ad = 0
      · subst had
        rw [if_pos rfl] at HMT
        have HADD2 : Hid (Calls Tryd.prog 15 #[.pointer (some ⟨w.heap.size, 0, none⟩), .agg #[.string yk, .int .u64 (s9 : Int), .bool yd, .string yv]] wr fun e w' => e = .returned (.int .i64 0) ∧ ∃ T', MdS2 w w.heap.size r (acc ++ [(yk, (s9 : Int), yd, yv)]) acc (.slice aa N cc) T' w') := HADD.out.mono fun e w' h => by
          obtain ⟨T', h1, h2, h3⟩ := h
          rw [if_pos rfl] at h2
          have hs := HST.out
          exact ⟨h1, T', ⟨by rw [pushes_snoc]; exact h2, hs.ow.goes h3 (by unfold Mk; omega), hs.bl.trans ⟨h3.os, h3.tape, h3.output, h3.size, fun b hb => h3.block b (Nat.lt_of_lt_of_le hb hs.bl.size) (by rw [hs.fr b hb]; unfold Mk; omega)⟩, hs.hi.goes h3, fun b hb => (h3.tag b (Nat.lt_of_lt_of_le hb hs.bl.size) (by rw [hs.fr b hb]; unfold Mk; omega)).trans (hs.fr b hb)⟩⟩
        clear HADD
        have hq0 : N ≤ 4000000 := by omega
        go_wp2_with (first
          | (go_at_call 15; go_loud (refine HADD2.out.mono ?_; rintro e w2 ⟨rfl, T2, h2⟩; have HS2 : Hid (MdS2 w w.heap.size r (acc ++ [(yk, (s9 : Int), yd, yv)]) acc (.slice aa N cc) T2 w2) := h2; have hcs := (HIE.out.1.below h2.bl) (by intro e; have h9 := HIE.out.2; rw [e] at h9; cases h9); obtain ⟨b', o', e', hr'⟩ := hcs; cases e'; obtain ⟨y0, y1, y2, y3⟩ := hr'.2 k _ HIE.out.2; dsimp only at y0 y1 y2 y3; clear h2 hr' x0 x1 x2 x3))
          | (go_at_call 7; go_loud (refine (num_any _ _).mono ?_; rintro e w3 ⟨rfl, hw⟩; have hw2 := hw.symm; clear hw; subst hw2))
          | (at_builtin; go_loud (refine Erw.wpList_appE _ (by rfl) (.tmp 28) (.tmp 33) 29 (by rfl) i0 Tryd.underlying29 hi0 hz0 hz1 hz2 7 T2 (.slice aa N cc) acc (by rfl) (HS2.out.ow.below ((Below.refl _ _).alloc (Nat.le_refl _) _)) (some ⟨w2.heap.size, 0, none⟩) 1 1 [(yk, (s9 : Int), yd, yv)] (by rfl) (by rfl) (by simp) isE_new10 (by have := HNN.out; simp; omega) ?_; intro a9 c9 T9 w9 hown9 hgo9 _; have hg29 : Goes (· = 7) T2 w2 T9 w9 := (Goes.below ((Below.refl _ _).alloc (Nat.le_refl _) _)).trans hgo9; have HS9 : Hid (MdSt w w.heap.size r (acc ++ [(yk, (s9 : Int), yd, yv)]) (.slice a9 (acc.length + 1) c9) T9 w9) := md_next HS2.out hg29 hown9; simp only [List.length_cons, List.length_nil, Nat.zero_add]; clear hown9 hgo9 hg29)))
        go_roundw
        case rel => exact ⟨k + 1, a9, acc.length + 1, c9, by omega, by have := HNN.out; omega, rfl, by go_num, by rw [HMT.out]; simp, T9, by rw [HMT.out]; exact HS9.out⟩
        case measure => simp [intOf]; omega
      · rw [if_neg had] at HMT
        have HADD2 : Hid (Calls Tryd.prog 15 #[.pointer (some ⟨w.heap.size, 0, none⟩), .agg #[.string yk, .int .u64 (s9 : Int), .bool yd, .string yv]] wr fun e w' => e = .returned (.int .i64 ad) ∧ ∃ T', MdSt w w.heap.size r acc (.slice aa N cc) T' w') := HADD.out.mono fun e w' h => by
          obtain ⟨T', h1, h2, h3⟩ := h
          rw [if_neg had] at h2
          have hs := HST.out
          exact ⟨h1, T', ⟨h2, hs.ow.goes h3 (by unfold Mk; omega), hs.bl.trans ⟨h3.os, h3.tape, h3.output, h3.size, fun b hb => h3.block b (Nat.lt_of_lt_of_le hb hs.bl.size) (by rw [hs.fr b hb]; unfold Mk; omega)⟩, hs.hi.goes h3, fun b hb => (h3.tag b (Nat.lt_of_lt_of_le hb hs.bl.size) (by rw [hs.fr b hb]; unfold Mk; omega)).trans (hs.fr b hb)⟩⟩
        have had2 : (ad == 0) = false := by simpa using had
        clear HADD
        go_wp2_with (first
          | (go_at_call 15; go_loud (refine HADD2.out.mono ?_; rintro e w2 ⟨rfl, h2⟩; have HS2 : Hid (∃ T', MdSt w w.heap.size r acc (.slice aa N cc) T' w2) := h2; clear h2))
          | (go_at_call 7; go_loud (refine (num_any _ _).mono ?_; rintro e w3 ⟨rfl, hw⟩; have hw2 := hw.symm; clear hw; subst hw2)))
        go_roundw
        case rel => exact ⟨k + 1, aa, N, cc, by omega, by omega, rfl, by go_num, by rw [HMT.out]; exact HNN.out, by rw [HMT.out]; exact HS2.out⟩
        case measure => simp [intOf]; omega
    · obtain rfl : k = n := by omega
      obtain ⟨hN, T, hst⟩ := HK.out
      rw [List.take_of_length_le (by have := HL.out.2.1; omega)] at hN hst
      have hok : ∀ e ∈ mds l, Ok e ∧ 0 ≤ e.2.1 := fun e he => ⟨chain_ok (mds_all l).1 e he, (HL.out.2.2 e ((mds_all l).2.1 e he)).2.2⟩
      have hml := (mds_all l).2.2
      have hbl := pushes_len (Rn r) (mds l) hok
      have hpl := pushes_plen (Rn r) (mds l) st0
      have z1 : st0.p.length = 0 := rfl
      have hll := HL.out.2.1
      have HBY : Hid (Calls Tryd.prog 16 #[.pointer (some ⟨w.heap.size, 0, none⟩)] wr fun e w' => ∃ v, e = .returned v ∧ Byt.Own 5 wr.heap.size w' v (blk (pushes (Rn r) st0 (mds l))) ∧ Below wr.heap.size wr w') := bytes_any 1 T wr w.heap.size r _ hst.ma (HT.out.below hst.bl HT.out.lt) (by omega) (by omega)
      have HST : Hid (MdSt w w.heap.size r (mds l) (.slice aa N cc) T wr) := hst
      have HNN : Hid (N = (mds l).length) := hN
      clear hst hN hok hml hbl hpl z1 hll HK
      go_wp2_with (go_at_call 16; go_loud (refine HBY.out.mono ?_; rintro e w2 ⟨v, rfl, hown, hb2⟩; have HOW : Hid (Byt.Own 5 wr.heap.size w2 v (blk (pushes (Rn r) st0 (mds l))) ∧ Below wr.heap.size wr w2) := ⟨hown, hb2⟩; clear hown hb2))
      go_ret3
      obtain ⟨g, c, rfl, hg, _, hlc, hib⟩ := HOW.out.1.isB
      obtain ⟨a2, c2, e2, hi2, hc2, hn2⟩ := HST.out.ow.form
      simp only [Value.slice.injEq] at e2
      obtain ⟨rfl, e3, rfl⟩ := e2
      have hcm : c ≤ 9223372036854775807 := (New.ofOwn HOW.out.1).elim fun a h => h.elim fun c' h => by have := h.1; simp only [Value.slice.injEq] at this; obtain ⟨_, _, rfl⟩ := this; exact h.2.max
      refine ⟨g, c, aa, cc, by rw [HNN.out]; rfl, Nat.le_trans HST.out.bl.size hg, hlc, hcm, hib, hi2.below HOW.out.2, hc2, hn2, HST.out.bl.trans (HOW.out.2.mono HST.out.bl.size)⟩
end Qb
end Go.Proofs.YtnoipjeoclkeoabDoor
