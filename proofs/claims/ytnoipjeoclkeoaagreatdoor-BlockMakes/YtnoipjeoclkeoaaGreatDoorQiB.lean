import Derived.Test.YtnoipjeoclkeoaaGreatDoorQiA
import Derived.Test.YtnoipjeoclkeoaaGreatDoorSam
namespace Go.Proofs.YtnoipjeoclkeoaaGreatDoor
namespace BlockMakes
open Go.RowKit CMath Byt Laws Irw Crw Cod Qb
set_option linter.unusedVariables false
set_option linter.unusedSimpArgs false
set_option maxRecDepth 100000

theorem sz_of {l : List Qg.En} (h : (l.map Qg.bulkE).sum ≤ 32768) : ∀ e ∈ l, e.1.size ≤ 32768 ∧ e.2.2.2.size ≤ 32768 := fun e he => by
  have h1 := Qg.sum_mem he
  have h2 : Qg.bulkE e = 1 + e.1.size + e.2.2.2.size := rfl
  omega
theorem bm_isE {w : World} {M K q : Nat} {r : Int} {acc' acc : List Qb.En} {A : Option Addr} {NN C : Nat} {T : Nat → Nat} {W : World} (h : Bm w M K q r acc' acc (.slice A NN C) T W) : Erw.IsE W A acc ∧ NN = acc.length := ⟨h.ow.isE.1, h.ow.isE.2.1⟩
theorem bm_last {w : World} {M K q : Nat} {r : Int} {acc acc' : List Qb.En} {v : Value} {T : Nat → Nat} {W : World} (h : Bm w M K q r acc acc' v T W) : (lastE ⟨#[]⟩ acc).size ≤ 64 := by
  have := h.ma.last
  rw [pushes_lastE] at this
  exact this
theorem emod_le (a b : Int) (ha : 0 ≤ a) (hb : 0 < b) : a % b ≤ a := by
  have h1 := Int.emod_add_mul_ediv a b
  have h2 : 0 ≤ a / b := Int.ediv_nonneg ha (by omega)
  have h3 : 0 ≤ b * (a / b) := Int.mul_nonneg (by omega) h2
  omega
set_option maxHeartbeats 8000000 in
theorem walk (w0 : World) (ht : Tab w0) (r : Int) (hr : -9223372036854775808 ≤ r ∧ r ≤ 9223372036854775807) (a : Option Addr) (cap : Nat) (l : List Qb.En) (hl : Erw.IsE w0 a l) (hmx : (l.length : Int) ≤ 9223372036854775807) (hsz : ∀ e ∈ l, e.1.size ≤ maxLen ∧ e.2.2.2.size ≤ maxLen ∧ 0 ≤ e.2.1 ∧ e.2.1 ≤ 18446744073709551615) (every : Int) (hev : -9223372036854775808 ≤ every ∧ every ≤ 9223372036854775807) :
    Calls Tryz.prog 3 #[.int .i64 r, .slice a l.length cap, .int .i64 every] w0 fun e w' => e = .returned (.bool true) ∧ Below w0.heap.size w0 w' := by
  obtain ⟨i0, hi0, hz0, hz1, hz2⟩ := info_parts Erw.infoE
  have HR : Hid ((-9223372036854775808 ≤ r ∧ r ≤ 9223372036854775807) ∧ True) := ⟨hr, trivial⟩
  have HT0 : Hid (Tab w0) := ht
  have HL0 : Hid (Erw.IsE w0 a l ∧ ∀ e ∈ l, 0 ≤ e.2.1) := ⟨hl, fun e he => (hsz e he).2.2.1⟩
  have HSM : Hid (Calls Tryz.prog 5 #[.slice a l.length cap] w0 fun r w' => Qg.SmIs w0 l r w') := Qg.small_any w0 a cap _ l rfl hmx hl (fun e he => ⟨(hsz e he).1, (hsz e he).2.1⟩)
  clear ht hl hr hsz
  go_enter Tryz.func3, Tryz.ntmps3
  go_wp2_with (go_at_call 5; fail)
  refine HSM.out.mono ?_
  rintro e w ⟨⟨b, rfl, hbs⟩, hb1⟩
  have HB1 : Hid (Below w0.heap.size w0 w) := hb1
  dsimp only
  cases b with
  | false =>
    clear hbs hb1
    go_wp2
    go_ret
    exact ⟨rfl, HB1.out⟩
  | true =>
    obtain ⟨h200, hbulk⟩ := hbs rfl
    have hs := sz_of hbulk
    have HL : Hid (Erw.IsE w a l ∧ ∀ e ∈ l, e.1.size ≤ 1000000 ∧ e.2.2.2.size ≤ 1000000 ∧ 0 ≤ e.2.1) := ⟨HL0.out.1.below hb1, fun e he => ⟨by have := (hs e he).1; omega, by have := (hs e he).2; omega, HL0.out.2 e he⟩⟩
    have HT : Hid (Tab w) := HT0.out.below hb1 HT0.out.lt
    obtain ⟨n, hn⟩ : ∃ n, n = l.length := ⟨_, rfl⟩
    have HNL : Hid (n = l.length) := hn
    rw [← hn] at h200 ⊢
    clear hbs hb1 hbulk hs hn HL0 HSM hmx
    go_wp2_with (first | (refine BookB.wpList_book (by rfl) (by rfl) ?_) | (go_at_call 6; fail))
    have HK0 : Hid (BookB.Kept (BookB.upd (fun _ => 0) w.heap.size 1) (w.alloc (.cells BookB.bookZ 46)) w.heap.size 0) := BookB.Kept.first w
    have hb2 : Below w.heap.size w (w.alloc (.cells BookB.bookZ 46)) := (Below.refl _ _).alloc (Nat.le_refl _) _
    have hs2 : (w.alloc (.cells BookB.bookZ 46)).heap.size = w.heap.size + 1 := by simp
    generalize (w.alloc (.cells BookB.bookZ 46)) = W2 at *
    refine (newMaker_any 9000010 (BookB.upd (fun _ => 0) w.heap.size 1) W2 r).mono ?_
    rintro e w3 ⟨rfl, hm3, hb3, hs3⟩
    obtain ⟨Kb, hKb⟩ : ∃ Kb, Kb = w.heap.size := ⟨_, rfl⟩
    obtain ⟨M, hM⟩ : ∃ M, M = W2.heap.size := ⟨_, rfl⟩
    have HBM : Hid (Bm w M Kb 0 r [] [] (.slice none 0 0) (upd (BookB.upd (fun _ => 0) w.heap.size 1) W2.heap.size 9000010) w3) := by
      rw [hKb, hM]
      exact ⟨(HK0.out.below hb3).tag W2.heap.size 10 (BookB.upd_other _ _ (by omega)) (by omega), hm3, Erw.OwnE.empty _ _ _, hb2.trans (hb3.mono hb2.size), fun b hb => (upd_other _ _ (by omega)).trans (BookB.upd_other _ _ (by omega))⟩
    rw [← hKb, ← hM]
    clear hm3 hb3 hs3 hb2 hs2 HK0 hKb hM
    dsimp only
    have HS8 : Hid (Calls Tryz.prog 7 #[.pointer (some ⟨M, 0, none⟩)] w3 fun e w' => e = .returned (.int .i64 8) ∧ ∃ n, w' = w3.drewN n) := size_any 9000010 _ w3 M r st0 HBM.out.ma (by simp [st0]) (by simp [st0])
    go_wp2_with (go_at_call 7; go_loud (refine HS8.out.mono ?_; rintro e w4 ⟨rfl, n4, hw4⟩; have HBM4 : Hid (Bm w M Kb 0 r [] [] (.slice none 0 0) (upd (BookB.upd (fun _ => 0) w.heap.size 1) W2.heap.size 9000010) w4) := HBM.out.below (by rw [hw4]; exact below_drewN (Below.refl _ _) _); clear hw4))
    go_loopw [9, 10] (fun v i wr => ∃ (k : Nat) (aa : Option Addr) (N cc q : Nat), k ≤ n ∧ N ≤ k ∧ q ≤ k ∧ v = .slice aa N cc ∧ i = .int .i64 (k : Int) ∧ Hid (N = (mds (l.take k)).length ∧ ∃ T, Bm w M Kb q r (mds (l.take k)) (mds (l.take k)) (.slice aa N cc) T wr)) (fun _ i _ => n - (intOf i).toNat)
    case atStart => exact ⟨0, none, 0, 0, 0, Nat.zero_le _, Nat.le_refl _, Nat.le_refl _, rfl, rfl, rfl, _, HBM4.out⟩
    case round =>
      clear HBM HBM4 HS8
      obtain ⟨k, aa, N, cc, q, hk, hNk, hqk, rfl, rfl, HK⟩ := hrel
      rename World => wr
      by_cases hlt : k < n
      · obtain ⟨hN, T, hst⟩ := HK.out
        have HST : Hid (Bm w M Kb q r (mds (l.take k)) (mds (l.take k)) (.slice aa N cc) T wr) := hst
        have hkl : k < l.length := by have := HNL.out; omega
        obtain ⟨b1, o1, ⟨yk, ys, yd, yv⟩, rfl, hy, _, x0, x1, x2, x3⟩ := Qg.isE_at (HL.out.1.below hst.bl) hkl
        have q1 : (k : Int) < (n : Int) := by omega
        have hs := HL.out.2 _ (List.mem_of_getElem? hy)
        dsimp only at x0 x1 x2 x3 hs
        obtain ⟨s9, rfl⟩ : ∃ s : Nat, ys = (s : Int) := ⟨ys.toNat, by omega⟩
        have HMT : Hid (mds (l.take (k + 1)) = mdStep (mds (l.take k)) (yk, (s9 : Int), yd, yv)) := mds_take hy
        have HAK : Hid (∀ e ∈ mds (l.take (k + 1)), Ok e ∧ 0 ≤ e.2.1) := fun e he => ⟨chain_ok (mds_all (l.take (k + 1))).1 e he, (HL.out.2 e (List.mem_of_mem_take ((mds_all (l.take (k + 1))).2.1 e he))).2.2⟩
        have hok : ∀ e ∈ mds (l.take k), Ok e ∧ 0 ≤ e.2.1 := fun e he => ⟨chain_ok (mds_all (l.take k)).1 e he, (HL.out.2 e (List.mem_of_mem_take ((mds_all (l.take k)).2.1 e he))).2.2⟩
        have hbl := pushes_len (Rn r) (mds (l.take k)) hok
        have hpl := pushes_plen (Rn r) (mds (l.take k)) st0
        have hnl' := pushes_n (Rn r) (mds (l.take k)) st0
        have z1 : st0.p.length = 0 := rfl
        have z2 : st0.n = 0 := rfl
        have hll := bm_last hst
        have HADS : Hid (Calls Tryz.prog 8 #[.slice aa N cc, .agg #[.string yk, .int .u64 (s9 : Int), .bool yd, .string yv]] wr fun e w' => e = .returned (.int .i64 (adds (lastE ⟨#[]⟩ (mds (l.take k))) (yk, (s9 : Int), yd, yv))) ∧ Below wr.heap.size wr w') := by
          have := refAdds_any aa cc N (mds (l.take k)) yk (s9 : Int) yd yv wr (bm_isE hst).1 (bm_isE hst).2 (by omega) hs.1 hs.2.1 (by rw [lastK_E]; omega)
          rw [lastK_E] at this
          exact this
        have HADD : Hid (∀ W, Below wr.heap.size wr W → Calls Tryz.prog 10 #[.pointer (some ⟨M, 0, none⟩), .agg #[.string yk, .int .u64 (s9 : Int), .bool yd, .string yv]] W fun e w' => AddIs 9000010 T W M r (pushes (Rn r) st0 (mds (l.take k))) (yk, (s9 : Int), yd, yv) e w') := fun W hW => add_any 9000010 T W M r _ yk s9 yd yv (HST.out.below hW).ma (HST.out.below hW).kept.2 (by omega) hs.1 hs.2.1 (by omega) (by omega) (by omega) HR.out.1
        have hls : (pushes (Rn r) st0 (mds (l.take k))).last = lastE ⟨#[]⟩ (mds (l.take k)) := pushes_lastE _ _ _
        unfold AddIs at HADD
        rw [hls] at HADD
        unfold mdStep at HMT
        have HIE : Hid (Erw.IsE w (some ⟨b1, o1, none⟩) l ∧ l[k]? = some (yk, (s9 : Int), yd, yv)) := ⟨HL.out.1, hy⟩
        have HCEL : Hid (∀ W, Below w.heap.size w W → W.cell? ⟨b1, o1 + k * 4, none⟩ = some (.string yk) ∧ W.cell? ⟨b1, o1 + k * 4 + 1, none⟩ = some (.int .u64 (s9 : Int)) ∧ W.cell? ⟨b1, o1 + k * 4 + 2, none⟩ = some (.bool yd) ∧ W.cell? ⟨b1, o1 + k * 4 + 3, none⟩ = some (.string yv)) := fun W hW => by
          obtain ⟨b', o', e', hr'⟩ := (HIE.out.1.below hW) (by intro e; have h9 := HIE.out.2; rw [e] at h9; cases h9)
          cases e'
          exact hr'.2 k _ HIE.out.2
        have hN200 : N ≤ 200 := by omega
        generalize mds (l.take k) = acc at *
        generalize adds (lastE ⟨#[]⟩ acc) (yk, (s9 : Int), yd, yv) = ad at *
        have HNA : Hid (N = acc.length) := hN
        clear hbl hpl hnl' z1 z2 hok hls hs hst hN hy hkl HK hll
        go_wp2_with (go_at_call 8; go_loud (refine HADS.out.mono ?_; rintro e w2 ⟨rfl, hb2⟩; have HB2 : Hid (Below wr.heap.size wr w2) := hb2; have HS2 : Hid (Bm w M Kb q r acc acc (.slice aa N cc) T w2) := HST.out.below hb2; obtain ⟨y0, y1, y2, y3⟩ := HCEL.out w2 HS2.out.bl; clear hb2 x0 x1 x2 x3))
        by_cases had : ad = 0
        · subst had
          rw [if_pos rfl] at HMT
          have HADD2 : Hid (Calls Tryz.prog 10 #[.pointer (some ⟨M, 0, none⟩), .agg #[.string yk, .int .u64 (s9 : Int), .bool yd, .string yv]] w2 fun e w' => e = .returned (.int .i64 0) ∧ ∃ T', Bm w M Kb q r (acc ++ [(yk, (s9 : Int), yd, yv)]) acc (.slice aa N cc) T' w') := (HADD.out w2 HB2.out).mono fun e w' h => by
            obtain ⟨T', h1, h2, h3⟩ := h
            rw [if_pos rfl] at h2
            exact ⟨h1, T', HS2.out.add (by rw [pushes_snoc]; exact h2) h3⟩
          clear HADD HADS
          have HAO : Hid (∀ e ∈ acc ++ [(yk, (s9 : Int), yd, yv)], Ok e ∧ 0 ≤ e.2.1) := by rw [← HMT.out]; exact HAK.out
          have HNB : Hid (N + 1 ≤ k + 1 ∧ k ≤ 200 ∧ (pushes (Rn r) st0 (acc ++ [(yk, (s9 : Int), yd, yv)])).b.length ≤ 200000 ∧ (pushes (Rn r) st0 (acc ++ [(yk, (s9 : Int), yd, yv)])).p.length ≤ 2000) := by
            have h1 := pushes_len (Rn r) (acc ++ [(yk, (s9 : Int), yd, yv)]) HAO.out
            have h2 := pushes_plen (Rn r) (acc ++ [(yk, (s9 : Int), yd, yv)]) st0
            have z1 : st0.p.length = 0 := rfl
            rw [List.length_append, List.length_singleton] at h1 h2
            have := HNA.out
            exact ⟨by omega, by omega, by omega, by omega⟩
          by_cases he1 : every < 1
          · have hd1 : decide (every < 1) = true := decide_eq_true he1
            refine HADD2.out.mono ?_
            rintro e w3 ⟨rfl, T3, h3⟩
            have HS3 : Hid (Bm w M Kb q r (acc ++ [(yk, (s9 : Int), yd, yv)]) acc (.slice aa N cc) T3 w3) := h3
            obtain ⟨u0, u1, u2, u3⟩ := HCEL.out w3 h3.bl
            clear h3 y0 y1 y2 y3
            dsimp only
            go_wp2_with (first
              | (go_at_call 9; go_loud (refine (num_any _ _).mono ?_; rintro e w9 ⟨rfl, hw⟩; have hw2 := hw.symm; clear hw; subst hw2))
              | (at_builtin; go_loud (refine Erw.wpList_appE _ (by rfl) (.tmp 51) (.tmp 56) 22 (by rfl) i0 Tryz.underlying22 hi0 hz0 hz1 hz2 9000020 T3 (.slice aa N cc) acc (by rfl) (HS3.out.ow.below ((Below.refl _ _).alloc (Nat.le_refl _) _)) (some ⟨w3.heap.size, 0, none⟩) 1 1 [(yk, (s9 : Int), yd, yv)] (by rfl) (by rfl) (by simp) isE_new10 (by have := HNA.out; simp; omega) ?_; intro a5 c5 T5 w5 hown5 hgo5 _; have hg5 : Goes (· = 9000020) T3 w3 T5 w5 := (Goes.below ((Below.refl _ _).alloc (Nat.le_refl _) _)).trans hgo5; have hown6 : Erw.OwnE 9000020 T5 w5 (.slice a5 (N + 1) c5) (acc ++ [(yk, (s9 : Int), yd, yv)]) := (by rw [HNA.out]; exact hown5); have HS5 : Hid (Bm w M Kb q r (acc ++ [(yk, (s9 : Int), yd, yv)]) (acc ++ [(yk, (s9 : Int), yd, yv)]) (.slice a5 (N + 1) c5) T5 w5) := HS3.out.app hown6 hg5; rw [← HNA.out]; simp only [List.length_cons, List.length_nil, Nat.zero_add]; clear hown5 hgo5 hg5 hown6)))
            have HW1 : Hid (Calls Tryz.prog 11 #[.slice a5 (N + 1) c5, .int .i64 r] w5 fun e w' => ∃ v, e = .returned v ∧ Byt.Own 5 w5.heap.size w' v (blk (pushes (Rn r) st0 (acc ++ [(yk, (s9 : Int), yd, yv)]))) ∧ Below w5.heap.size w5 w') := refBytes_any _ _ _ (acc ++ [(yk, (s9 : Int), yd, yv)]) w5 r (bm_isE HS5.out).1 (bm_isE HS5.out).2 (by have := HNB.out; omega) HAO.out HR.out.1
            go_wp2_with (go_at_call 11; fail)
            refine HW1.out.mono ?_
            rintro e w6 ⟨v6, rfl, hown6, hb6⟩
            obtain ⟨gW, cW, rfl, hgW, _, _, hiW⟩ := hown6.isB
            have HB6 : Hid (Bm w M Kb q r (acc ++ [(yk, (s9 : Int), yd, yv)]) (acc ++ [(yk, (s9 : Int), yd, yv)]) (.slice a5 (N + 1) c5) T5 w6) := HS5.out.below hb6
            have HIW : Hid (IsB w6 (some ⟨gW, 0, none⟩) (blk (pushes (Rn r) st0 (acc ++ [(yk, (s9 : Int), yd, yv)]))) ∧ T5 gW = 0) := ⟨hiW, HS5.out.kept.2 gW hgW⟩
            clear hown6 hb6 hgW hiW HW1
            have HBYT : Hid (∀ (W : World) (T : Nat → Nat) (q' : Nat), Bm w M Kb q' r (acc ++ [(yk, (s9 : Int), yd, yv)]) (acc ++ [(yk, (s9 : Int), yd, yv)]) (.slice a5 (N + 1) c5) T W → Calls Tryz.prog 12 #[.pointer (some ⟨M, 0, none⟩)] W fun e w' => ∃ v, e = .returned v ∧ Byt.Own 5 W.heap.size w' v (blk (pushes (Rn r) st0 (acc ++ [(yk, (s9 : Int), yd, yv)]))) ∧ Below W.heap.size W w') := fun W T q' h => bytes_any 9000010 T W M r _ h.ma (HT.out.below h.bl HT.out.lt) (by have := HNB.out; omega) (by have := HNB.out; omega)
            have HSIZ : Hid (∀ (W : World) (T : Nat → Nat), Bm w M Kb q r (acc ++ [(yk, (s9 : Int), yd, yv)]) (acc ++ [(yk, (s9 : Int), yd, yv)]) (.slice a5 (N + 1) c5) T W → Calls Tryz.prog 7 #[.pointer (some ⟨M, 0, none⟩)] W fun e w' => e = .returned (.int .i64 (((blk (pushes (Rn r) st0 (acc ++ [(yk, (s9 : Int), yd, yv)]))).length : Nat) : Int)) ∧ Below W.heap.size W w') := fun W T h => (size_any 9000010 T W M r _ h.ma (by have := HNB.out; omega) (by have := HNB.out; omega)).mono fun e w' ⟨h1, n, h2⟩ => ⟨by rw [blk_len]; exact h1, by rw [h2]; exact below_drewN (Below.refl _ _) _⟩
            obtain ⟨L, hL⟩ : ∃ L, L = (blk (pushes (Rn r) st0 (acc ++ [(yk, (s9 : Int), yd, yv)]))).length := ⟨_, rfl⟩
            have HLL : Hid (L = (blk (pushes (Rn r) st0 (acc ++ [(yk, (s9 : Int), yd, yv)]))).length) := hL
            have hLm : L ≤ 1000000 := by rw [hL, blk_len]; have := HNB.out; omega
            rw [← hL] at HSIZ ⊢
            clear hL
            dsimp only
            go_wp2_with (go_at_call 12; fail)
            refine (HBYT.out w6 T5 q HB6.out).mono ?_
            rintro e w7 ⟨v7, rfl, hown7, hb7⟩
            obtain ⟨g7, c7, T7, e7, hlc7, hbm7, hlv7, hkp7⟩ := HB6.out.make hb7 hown7
            subst e7
            have HB7 : Hid (Bm w M Kb q r (acc ++ [(yk, (s9 : Int), yd, yv)]) (acc ++ [(yk, (s9 : Int), yd, yv)]) (.slice a5 (N + 1) c5) T7 w7 ∧ BookB.Live 1 T7 w7 (some ⟨g7, 0, none⟩) c7 (blk (pushes (Rn r) st0 (acc ++ [(yk, (s9 : Int), yd, yv)])))) := ⟨hbm7, hlv7⟩
            have HIW7 : Hid (IsB w7 (some ⟨gW, 0, none⟩) (blk (pushes (Rn r) st0 (acc ++ [(yk, (s9 : Int), yd, yv)]))) ∧ T7 gW = 0) := by
              refine ⟨HIW.out.1.below hb7, ?_⟩
              obtain ⟨b0, o0, e0, hr0⟩ := HIW.out.1.1 (by intro e; have := HLL.out; rw [e] at this; have h8 := blk_len (pushes (Rn r) st0 (acc ++ [(yk, (s9 : Int), yd, yv)])); rw [e] at h8; simp at h8)
              cases e0
              exact (hkp7 _ hr0.1).trans HIW.out.2
            rw [← HLL.out]
            clear hown7 hb7 hlc7 hbm7 hlv7 hkp7 HB6 HIW
            dsimp only
            go_wp2_with (go_at_call 13; fail)
            refine (same_any (some ⟨g7, 0, none⟩) (some ⟨gW, 0, none⟩) c7 cW L L (blk (pushes (Rn r) st0 (acc ++ [(yk, (s9 : Int), yd, yv)]))) w7 HB7.out.2.isB HIW7.out.1 (by have := HLL.out; omega) HLL.out HLL.out).mono ?_
            rintro e w8' ⟨rfl, n8, hw8⟩
            have HBW8 : Hid (Below w7.heap.size w7 w8') := by rw [hw8]; exact below_drewN (Below.refl _ _) _
            clear hw8
            have HB8 : Hid (Bm w M Kb q r (acc ++ [(yk, (s9 : Int), yd, yv)]) (acc ++ [(yk, (s9 : Int), yd, yv)]) (.slice a5 (N + 1) c5) T7 w8' ∧ BookB.Live 1 T7 w8' (some ⟨g7, 0, none⟩) c7 (blk (pushes (Rn r) st0 (acc ++ [(yk, (s9 : Int), yd, yv)]))) ∧ IsB w8' (some ⟨gW, 0, none⟩) (blk (pushes (Rn r) st0 (acc ++ [(yk, (s9 : Int), yd, yv)])))) := ⟨HB7.out.1.below HBW8.out, HB7.out.2.below HBW8.out, HIW7.out.1.below HBW8.out⟩
            clear HBW8 HB7
            dsimp only
            go_wp2_with (go_at_call 7; fail)
            refine (HSIZ.out w8' T7 HB8.out.1).mono ?_
            rintro e w9 ⟨rfl, hb9⟩
            have HB9 : Hid (Bm w M Kb q r (acc ++ [(yk, (s9 : Int), yd, yv)]) (acc ++ [(yk, (s9 : Int), yd, yv)]) (.slice a5 (N + 1) c5) T7 w9 ∧ BookB.Live 1 T7 w9 (some ⟨g7, 0, none⟩) c7 (blk (pushes (Rn r) st0 (acc ++ [(yk, (s9 : Int), yd, yv)]))) ∧ IsB w9 (some ⟨gW, 0, none⟩) (blk (pushes (Rn r) st0 (acc ++ [(yk, (s9 : Int), yd, yv)])))) := ⟨HB8.out.1.below hb9, HB8.out.2.1.below hb9, HB8.out.2.2.below hb9⟩
            clear hb9 HB8
            dsimp only
            go_wp2_with (go_at_call 14; fail)
            refine (HB9.out.1.book (by omega) _ HB9.out.2.1 (by have := HLL.out; omega) HLL.out).mono ?_
            rintro e w10 ⟨rfl, T10, hbm10, hgo10⟩
            have HB10 : Hid (Bm w M Kb (q + 1) r (acc ++ [(yk, (s9 : Int), yd, yv)]) (acc ++ [(yk, (s9 : Int), yd, yv)]) (.slice a5 (N + 1) c5) T10 w10 ∧ IsB w10 (some ⟨gW, 0, none⟩) (blk (pushes (Rn r) st0 (acc ++ [(yk, (s9 : Int), yd, yv)])))) := ⟨hbm10, isB_book HB9.out.2.2 hgo10 (fun b off e => by cases e; exact HIW7.out.2)⟩
            clear hbm10 hgo10 HB9 HIW7
            dsimp only
            go_wp2_with (go_at_call 15; fail)
            refine HB10.out.1.kept.hold.mono ?_
            rintro e w11 ⟨rfl, hb11⟩
            have HB11 : Hid (Bm w M Kb (q + 1) r (acc ++ [(yk, (s9 : Int), yd, yv)]) (acc ++ [(yk, (s9 : Int), yd, yv)]) (.slice a5 (N + 1) c5) T10 w11 ∧ IsB w11 (some ⟨gW, 0, none⟩) (blk (pushes (Rn r) st0 (acc ++ [(yk, (s9 : Int), yd, yv)])))) := ⟨HB10.out.1.below hb11, HB10.out.2.below hb11⟩
            clear hb11 HB10
            dsimp only
            go_wp2_with (go_at_call 12; fail)
            refine (HBYT.out w11 T10 (q + 1) HB11.out.1).mono ?_
            rintro e w12 ⟨v12, rfl, hown12, hb12⟩
            obtain ⟨g12, c12, rfl, _, _, _, hi12⟩ := hown12.isB
            have HB12 : Hid (Bm w M Kb (q + 1) r (acc ++ [(yk, (s9 : Int), yd, yv)]) (acc ++ [(yk, (s9 : Int), yd, yv)]) (.slice a5 (N + 1) c5) T10 w12 ∧ IsB w12 (some ⟨gW, 0, none⟩) (blk (pushes (Rn r) st0 (acc ++ [(yk, (s9 : Int), yd, yv)]))) ∧ IsB w12 (some ⟨g12, 0, none⟩) (blk (pushes (Rn r) st0 (acc ++ [(yk, (s9 : Int), yd, yv)])))) := ⟨HB11.out.1.below hb12, HB11.out.2.below hb12, hi12⟩
            rw [← HLL.out]
            clear hown12 hb12 hi12 HB11
            dsimp only
            go_wp2_with (go_at_call 13; fail)
            refine (same_any (some ⟨g12, 0, none⟩) (some ⟨gW, 0, none⟩) c12 cW L L (blk (pushes (Rn r) st0 (acc ++ [(yk, (s9 : Int), yd, yv)]))) w12 HB12.out.2.2 HB12.out.2.1 (by have := HLL.out; omega) HLL.out HLL.out).mono ?_
            rintro e w13 ⟨rfl, n13, hw13⟩
            have HB13 : Hid (Bm w M Kb (q + 1) r (acc ++ [(yk, (s9 : Int), yd, yv)]) (acc ++ [(yk, (s9 : Int), yd, yv)]) (.slice a5 (N + 1) c5) T10 w13) := by
              have hbw : Below w12.heap.size w12 w13 := by rw [hw13]; exact below_drewN (Below.refl _ _) _
              exact HB12.out.1.below hbw
            clear hw13 HB12
            dsimp only
            go_wp2_with fail
            go_roundw
            case rel => exact ⟨k + 1, a5, (N + 1), c5, q + 1, by omega, by have := HNB.out; omega, by omega, rfl, by go_num, by rw [HMT.out]; exact (bm_isE HB13.out).2, T10, by rw [HMT.out]; exact HB13.out⟩
            case measure => simp [intOf]; omega
          · have hd1 : decide (every < 1) = false := decide_eq_false he1
            have hm0 : ¬ every = 0 := by omega
            by_cases he2 : (k : Int) % every = 0
            · have hd2 : ((k : Int) % every == 0) = true := by simpa using he2
              refine HADD2.out.mono ?_
              rintro e w3 ⟨rfl, T3, h3⟩
              have HS3 : Hid (Bm w M Kb q r (acc ++ [(yk, (s9 : Int), yd, yv)]) acc (.slice aa N cc) T3 w3) := h3
              obtain ⟨u0, u1, u2, u3⟩ := HCEL.out w3 h3.bl
              clear h3 y0 y1 y2 y3
              dsimp only
              go_wp2_with (first
                | (go_at_call 9; go_loud (refine (num_any _ _).mono ?_; rintro e w9 ⟨rfl, hw⟩; have hw2 := hw.symm; clear hw; subst hw2))
                | (at_builtin; go_loud (refine Erw.wpList_appE _ (by rfl) (.tmp 51) (.tmp 56) 22 (by rfl) i0 Tryz.underlying22 hi0 hz0 hz1 hz2 9000020 T3 (.slice aa N cc) acc (by rfl) (HS3.out.ow.below ((Below.refl _ _).alloc (Nat.le_refl _) _)) (some ⟨w3.heap.size, 0, none⟩) 1 1 [(yk, (s9 : Int), yd, yv)] (by rfl) (by rfl) (by simp) isE_new10 (by have := HNA.out; simp; omega) ?_; intro a5 c5 T5 w5 hown5 hgo5 _; have hg5 : Goes (· = 9000020) T3 w3 T5 w5 := (Goes.below ((Below.refl _ _).alloc (Nat.le_refl _) _)).trans hgo5; have hown6 : Erw.OwnE 9000020 T5 w5 (.slice a5 (N + 1) c5) (acc ++ [(yk, (s9 : Int), yd, yv)]) := (by rw [HNA.out]; exact hown5); have HS5 : Hid (Bm w M Kb q r (acc ++ [(yk, (s9 : Int), yd, yv)]) (acc ++ [(yk, (s9 : Int), yd, yv)]) (.slice a5 (N + 1) c5) T5 w5) := HS3.out.app hown6 hg5; rw [← HNA.out]; simp only [List.length_cons, List.length_nil, Nat.zero_add]; clear hown5 hgo5 hg5 hown6)))
              have HW1 : Hid (Calls Tryz.prog 11 #[.slice a5 (N + 1) c5, .int .i64 r] w5 fun e w' => ∃ v, e = .returned v ∧ Byt.Own 5 w5.heap.size w' v (blk (pushes (Rn r) st0 (acc ++ [(yk, (s9 : Int), yd, yv)]))) ∧ Below w5.heap.size w5 w') := refBytes_any _ _ _ (acc ++ [(yk, (s9 : Int), yd, yv)]) w5 r (bm_isE HS5.out).1 (bm_isE HS5.out).2 (by have := HNB.out; omega) HAO.out HR.out.1
              go_wp2_with (go_at_call 11; fail)
              refine HW1.out.mono ?_
              rintro e w6 ⟨v6, rfl, hown6, hb6⟩
              obtain ⟨gW, cW, rfl, hgW, _, _, hiW⟩ := hown6.isB
              have HB6 : Hid (Bm w M Kb q r (acc ++ [(yk, (s9 : Int), yd, yv)]) (acc ++ [(yk, (s9 : Int), yd, yv)]) (.slice a5 (N + 1) c5) T5 w6) := HS5.out.below hb6
              have HIW : Hid (IsB w6 (some ⟨gW, 0, none⟩) (blk (pushes (Rn r) st0 (acc ++ [(yk, (s9 : Int), yd, yv)]))) ∧ T5 gW = 0) := ⟨hiW, HS5.out.kept.2 gW hgW⟩
              clear hown6 hb6 hgW hiW HW1
              have HBYT : Hid (∀ (W : World) (T : Nat → Nat) (q' : Nat), Bm w M Kb q' r (acc ++ [(yk, (s9 : Int), yd, yv)]) (acc ++ [(yk, (s9 : Int), yd, yv)]) (.slice a5 (N + 1) c5) T W → Calls Tryz.prog 12 #[.pointer (some ⟨M, 0, none⟩)] W fun e w' => ∃ v, e = .returned v ∧ Byt.Own 5 W.heap.size w' v (blk (pushes (Rn r) st0 (acc ++ [(yk, (s9 : Int), yd, yv)]))) ∧ Below W.heap.size W w') := fun W T q' h => bytes_any 9000010 T W M r _ h.ma (HT.out.below h.bl HT.out.lt) (by have := HNB.out; omega) (by have := HNB.out; omega)
              have HSIZ : Hid (∀ (W : World) (T : Nat → Nat), Bm w M Kb q r (acc ++ [(yk, (s9 : Int), yd, yv)]) (acc ++ [(yk, (s9 : Int), yd, yv)]) (.slice a5 (N + 1) c5) T W → Calls Tryz.prog 7 #[.pointer (some ⟨M, 0, none⟩)] W fun e w' => e = .returned (.int .i64 (((blk (pushes (Rn r) st0 (acc ++ [(yk, (s9 : Int), yd, yv)]))).length : Nat) : Int)) ∧ Below W.heap.size W w') := fun W T h => (size_any 9000010 T W M r _ h.ma (by have := HNB.out; omega) (by have := HNB.out; omega)).mono fun e w' ⟨h1, n, h2⟩ => ⟨by rw [blk_len]; exact h1, by rw [h2]; exact below_drewN (Below.refl _ _) _⟩
              obtain ⟨L, hL⟩ : ∃ L, L = (blk (pushes (Rn r) st0 (acc ++ [(yk, (s9 : Int), yd, yv)]))).length := ⟨_, rfl⟩
              have HLL : Hid (L = (blk (pushes (Rn r) st0 (acc ++ [(yk, (s9 : Int), yd, yv)]))).length) := hL
              have hLm : L ≤ 1000000 := by rw [hL, blk_len]; have := HNB.out; omega
              rw [← hL] at HSIZ ⊢
              clear hL
              dsimp only
              go_wp2_with (go_at_call 12; fail)
              refine (HBYT.out w6 T5 q HB6.out).mono ?_
              rintro e w7 ⟨v7, rfl, hown7, hb7⟩
              obtain ⟨g7, c7, T7, e7, hlc7, hbm7, hlv7, hkp7⟩ := HB6.out.make hb7 hown7
              subst e7
              have HB7 : Hid (Bm w M Kb q r (acc ++ [(yk, (s9 : Int), yd, yv)]) (acc ++ [(yk, (s9 : Int), yd, yv)]) (.slice a5 (N + 1) c5) T7 w7 ∧ BookB.Live 1 T7 w7 (some ⟨g7, 0, none⟩) c7 (blk (pushes (Rn r) st0 (acc ++ [(yk, (s9 : Int), yd, yv)])))) := ⟨hbm7, hlv7⟩
              have HIW7 : Hid (IsB w7 (some ⟨gW, 0, none⟩) (blk (pushes (Rn r) st0 (acc ++ [(yk, (s9 : Int), yd, yv)]))) ∧ T7 gW = 0) := by
                refine ⟨HIW.out.1.below hb7, ?_⟩
                obtain ⟨b0, o0, e0, hr0⟩ := HIW.out.1.1 (by intro e; have := HLL.out; rw [e] at this; have h8 := blk_len (pushes (Rn r) st0 (acc ++ [(yk, (s9 : Int), yd, yv)])); rw [e] at h8; simp at h8)
                cases e0
                exact (hkp7 _ hr0.1).trans HIW.out.2
              rw [← HLL.out]
              clear hown7 hb7 hlc7 hbm7 hlv7 hkp7 HB6 HIW
              dsimp only
              go_wp2_with (go_at_call 13; fail)
              refine (same_any (some ⟨g7, 0, none⟩) (some ⟨gW, 0, none⟩) c7 cW L L (blk (pushes (Rn r) st0 (acc ++ [(yk, (s9 : Int), yd, yv)]))) w7 HB7.out.2.isB HIW7.out.1 (by have := HLL.out; omega) HLL.out HLL.out).mono ?_
              rintro e w8' ⟨rfl, n8, hw8⟩
              have HBW8 : Hid (Below w7.heap.size w7 w8') := by rw [hw8]; exact below_drewN (Below.refl _ _) _
              clear hw8
              have HB8 : Hid (Bm w M Kb q r (acc ++ [(yk, (s9 : Int), yd, yv)]) (acc ++ [(yk, (s9 : Int), yd, yv)]) (.slice a5 (N + 1) c5) T7 w8' ∧ BookB.Live 1 T7 w8' (some ⟨g7, 0, none⟩) c7 (blk (pushes (Rn r) st0 (acc ++ [(yk, (s9 : Int), yd, yv)]))) ∧ IsB w8' (some ⟨gW, 0, none⟩) (blk (pushes (Rn r) st0 (acc ++ [(yk, (s9 : Int), yd, yv)])))) := ⟨HB7.out.1.below HBW8.out, HB7.out.2.below HBW8.out, HIW7.out.1.below HBW8.out⟩
              clear HBW8 HB7
              dsimp only
              go_wp2_with (go_at_call 7; fail)
              refine (HSIZ.out w8' T7 HB8.out.1).mono ?_
              rintro e w9 ⟨rfl, hb9⟩
              have HB9 : Hid (Bm w M Kb q r (acc ++ [(yk, (s9 : Int), yd, yv)]) (acc ++ [(yk, (s9 : Int), yd, yv)]) (.slice a5 (N + 1) c5) T7 w9 ∧ BookB.Live 1 T7 w9 (some ⟨g7, 0, none⟩) c7 (blk (pushes (Rn r) st0 (acc ++ [(yk, (s9 : Int), yd, yv)]))) ∧ IsB w9 (some ⟨gW, 0, none⟩) (blk (pushes (Rn r) st0 (acc ++ [(yk, (s9 : Int), yd, yv)])))) := ⟨HB8.out.1.below hb9, HB8.out.2.1.below hb9, HB8.out.2.2.below hb9⟩
              clear hb9 HB8
              dsimp only
              go_wp2_with (go_at_call 14; fail)
              refine (HB9.out.1.book (by omega) _ HB9.out.2.1 (by have := HLL.out; omega) HLL.out).mono ?_
              rintro e w10 ⟨rfl, T10, hbm10, hgo10⟩
              have HB10 : Hid (Bm w M Kb (q + 1) r (acc ++ [(yk, (s9 : Int), yd, yv)]) (acc ++ [(yk, (s9 : Int), yd, yv)]) (.slice a5 (N + 1) c5) T10 w10 ∧ IsB w10 (some ⟨gW, 0, none⟩) (blk (pushes (Rn r) st0 (acc ++ [(yk, (s9 : Int), yd, yv)])))) := ⟨hbm10, isB_book HB9.out.2.2 hgo10 (fun b off e => by cases e; exact HIW7.out.2)⟩
              clear hbm10 hgo10 HB9 HIW7
              dsimp only
              go_wp2_with (go_at_call 15; fail)
              refine HB10.out.1.kept.hold.mono ?_
              rintro e w11 ⟨rfl, hb11⟩
              have HB11 : Hid (Bm w M Kb (q + 1) r (acc ++ [(yk, (s9 : Int), yd, yv)]) (acc ++ [(yk, (s9 : Int), yd, yv)]) (.slice a5 (N + 1) c5) T10 w11 ∧ IsB w11 (some ⟨gW, 0, none⟩) (blk (pushes (Rn r) st0 (acc ++ [(yk, (s9 : Int), yd, yv)])))) := ⟨HB10.out.1.below hb11, HB10.out.2.below hb11⟩
              clear hb11 HB10
              dsimp only
              go_wp2_with (go_at_call 12; fail)
              refine (HBYT.out w11 T10 (q + 1) HB11.out.1).mono ?_
              rintro e w12 ⟨v12, rfl, hown12, hb12⟩
              obtain ⟨g12, c12, rfl, _, _, _, hi12⟩ := hown12.isB
              have HB12 : Hid (Bm w M Kb (q + 1) r (acc ++ [(yk, (s9 : Int), yd, yv)]) (acc ++ [(yk, (s9 : Int), yd, yv)]) (.slice a5 (N + 1) c5) T10 w12 ∧ IsB w12 (some ⟨gW, 0, none⟩) (blk (pushes (Rn r) st0 (acc ++ [(yk, (s9 : Int), yd, yv)]))) ∧ IsB w12 (some ⟨g12, 0, none⟩) (blk (pushes (Rn r) st0 (acc ++ [(yk, (s9 : Int), yd, yv)])))) := ⟨HB11.out.1.below hb12, HB11.out.2.below hb12, hi12⟩
              rw [← HLL.out]
              clear hown12 hb12 hi12 HB11
              dsimp only
              go_wp2_with (go_at_call 13; fail)
              refine (same_any (some ⟨g12, 0, none⟩) (some ⟨gW, 0, none⟩) c12 cW L L (blk (pushes (Rn r) st0 (acc ++ [(yk, (s9 : Int), yd, yv)]))) w12 HB12.out.2.2 HB12.out.2.1 (by have := HLL.out; omega) HLL.out HLL.out).mono ?_
              rintro e w13 ⟨rfl, n13, hw13⟩
              have HB13 : Hid (Bm w M Kb (q + 1) r (acc ++ [(yk, (s9 : Int), yd, yv)]) (acc ++ [(yk, (s9 : Int), yd, yv)]) (.slice a5 (N + 1) c5) T10 w13) := by
                have hbw : Below w12.heap.size w12 w13 := by rw [hw13]; exact below_drewN (Below.refl _ _) _
                exact HB12.out.1.below hbw
              clear hw13 HB12
              dsimp only
              go_wp2_with fail
              go_roundw
              case rel => exact ⟨k + 1, a5, (N + 1), c5, q + 1, by omega, by have := HNB.out; omega, by omega, rfl, by go_num, by rw [HMT.out]; exact (bm_isE HB13.out).2, T10, by rw [HMT.out]; exact HB13.out⟩
              case measure => simp [intOf]; omega
            · have hd2 : ((k : Int) % every == 0) = false := by simpa using he2
              by_cases he3 : (k : Int) + 1 = (n : Int)
              · have hd3 : ((k : Int) + 1 == (n : Int)) = true := by simpa using he3
                refine HADD2.out.mono ?_
                rintro e w3 ⟨rfl, T3, h3⟩
                have HS3 : Hid (Bm w M Kb q r (acc ++ [(yk, (s9 : Int), yd, yv)]) acc (.slice aa N cc) T3 w3) := h3
                obtain ⟨u0, u1, u2, u3⟩ := HCEL.out w3 h3.bl
                clear h3 y0 y1 y2 y3
                dsimp only
                go_wp2_with (first
                  | (go_at_call 9; go_loud (refine (num_any _ _).mono ?_; rintro e w9 ⟨rfl, hw⟩; have hw2 := hw.symm; clear hw; subst hw2))
                  | (at_builtin; go_loud (refine Erw.wpList_appE _ (by rfl) (.tmp 51) (.tmp 56) 22 (by rfl) i0 Tryz.underlying22 hi0 hz0 hz1 hz2 9000020 T3 (.slice aa N cc) acc (by rfl) (HS3.out.ow.below ((Below.refl _ _).alloc (Nat.le_refl _) _)) (some ⟨w3.heap.size, 0, none⟩) 1 1 [(yk, (s9 : Int), yd, yv)] (by rfl) (by rfl) (by simp) isE_new10 (by have := HNA.out; simp; omega) ?_; intro a5 c5 T5 w5 hown5 hgo5 _; have hg5 : Goes (· = 9000020) T3 w3 T5 w5 := (Goes.below ((Below.refl _ _).alloc (Nat.le_refl _) _)).trans hgo5; have hown6 : Erw.OwnE 9000020 T5 w5 (.slice a5 (N + 1) c5) (acc ++ [(yk, (s9 : Int), yd, yv)]) := (by rw [HNA.out]; exact hown5); have HS5 : Hid (Bm w M Kb q r (acc ++ [(yk, (s9 : Int), yd, yv)]) (acc ++ [(yk, (s9 : Int), yd, yv)]) (.slice a5 (N + 1) c5) T5 w5) := HS3.out.app hown6 hg5; rw [← HNA.out]; simp only [List.length_cons, List.length_nil, Nat.zero_add]; clear hown5 hgo5 hg5 hown6)))
                have HW1 : Hid (Calls Tryz.prog 11 #[.slice a5 (N + 1) c5, .int .i64 r] w5 fun e w' => ∃ v, e = .returned v ∧ Byt.Own 5 w5.heap.size w' v (blk (pushes (Rn r) st0 (acc ++ [(yk, (s9 : Int), yd, yv)]))) ∧ Below w5.heap.size w5 w') := refBytes_any _ _ _ (acc ++ [(yk, (s9 : Int), yd, yv)]) w5 r (bm_isE HS5.out).1 (bm_isE HS5.out).2 (by have := HNB.out; omega) HAO.out HR.out.1
                go_wp2_with (go_at_call 11; fail)
                refine HW1.out.mono ?_
                rintro e w6 ⟨v6, rfl, hown6, hb6⟩
                obtain ⟨gW, cW, rfl, hgW, _, _, hiW⟩ := hown6.isB
                have HB6 : Hid (Bm w M Kb q r (acc ++ [(yk, (s9 : Int), yd, yv)]) (acc ++ [(yk, (s9 : Int), yd, yv)]) (.slice a5 (N + 1) c5) T5 w6) := HS5.out.below hb6
                have HIW : Hid (IsB w6 (some ⟨gW, 0, none⟩) (blk (pushes (Rn r) st0 (acc ++ [(yk, (s9 : Int), yd, yv)]))) ∧ T5 gW = 0) := ⟨hiW, HS5.out.kept.2 gW hgW⟩
                clear hown6 hb6 hgW hiW HW1
                have HBYT : Hid (∀ (W : World) (T : Nat → Nat) (q' : Nat), Bm w M Kb q' r (acc ++ [(yk, (s9 : Int), yd, yv)]) (acc ++ [(yk, (s9 : Int), yd, yv)]) (.slice a5 (N + 1) c5) T W → Calls Tryz.prog 12 #[.pointer (some ⟨M, 0, none⟩)] W fun e w' => ∃ v, e = .returned v ∧ Byt.Own 5 W.heap.size w' v (blk (pushes (Rn r) st0 (acc ++ [(yk, (s9 : Int), yd, yv)]))) ∧ Below W.heap.size W w') := fun W T q' h => bytes_any 9000010 T W M r _ h.ma (HT.out.below h.bl HT.out.lt) (by have := HNB.out; omega) (by have := HNB.out; omega)
                have HSIZ : Hid (∀ (W : World) (T : Nat → Nat), Bm w M Kb q r (acc ++ [(yk, (s9 : Int), yd, yv)]) (acc ++ [(yk, (s9 : Int), yd, yv)]) (.slice a5 (N + 1) c5) T W → Calls Tryz.prog 7 #[.pointer (some ⟨M, 0, none⟩)] W fun e w' => e = .returned (.int .i64 (((blk (pushes (Rn r) st0 (acc ++ [(yk, (s9 : Int), yd, yv)]))).length : Nat) : Int)) ∧ Below W.heap.size W w') := fun W T h => (size_any 9000010 T W M r _ h.ma (by have := HNB.out; omega) (by have := HNB.out; omega)).mono fun e w' ⟨h1, n, h2⟩ => ⟨by rw [blk_len]; exact h1, by rw [h2]; exact below_drewN (Below.refl _ _) _⟩
                obtain ⟨L, hL⟩ : ∃ L, L = (blk (pushes (Rn r) st0 (acc ++ [(yk, (s9 : Int), yd, yv)]))).length := ⟨_, rfl⟩
                have HLL : Hid (L = (blk (pushes (Rn r) st0 (acc ++ [(yk, (s9 : Int), yd, yv)]))).length) := hL
                have hLm : L ≤ 1000000 := by rw [hL, blk_len]; have := HNB.out; omega
                rw [← hL] at HSIZ ⊢
                clear hL
                dsimp only
                go_wp2_with (go_at_call 12; fail)
                refine (HBYT.out w6 T5 q HB6.out).mono ?_
                rintro e w7 ⟨v7, rfl, hown7, hb7⟩
                obtain ⟨g7, c7, T7, e7, hlc7, hbm7, hlv7, hkp7⟩ := HB6.out.make hb7 hown7
                subst e7
                have HB7 : Hid (Bm w M Kb q r (acc ++ [(yk, (s9 : Int), yd, yv)]) (acc ++ [(yk, (s9 : Int), yd, yv)]) (.slice a5 (N + 1) c5) T7 w7 ∧ BookB.Live 1 T7 w7 (some ⟨g7, 0, none⟩) c7 (blk (pushes (Rn r) st0 (acc ++ [(yk, (s9 : Int), yd, yv)])))) := ⟨hbm7, hlv7⟩
                have HIW7 : Hid (IsB w7 (some ⟨gW, 0, none⟩) (blk (pushes (Rn r) st0 (acc ++ [(yk, (s9 : Int), yd, yv)]))) ∧ T7 gW = 0) := by
                  refine ⟨HIW.out.1.below hb7, ?_⟩
                  obtain ⟨b0, o0, e0, hr0⟩ := HIW.out.1.1 (by intro e; have := HLL.out; rw [e] at this; have h8 := blk_len (pushes (Rn r) st0 (acc ++ [(yk, (s9 : Int), yd, yv)])); rw [e] at h8; simp at h8)
                  cases e0
                  exact (hkp7 _ hr0.1).trans HIW.out.2
                rw [← HLL.out]
                clear hown7 hb7 hlc7 hbm7 hlv7 hkp7 HB6 HIW
                dsimp only
                go_wp2_with (go_at_call 13; fail)
                refine (same_any (some ⟨g7, 0, none⟩) (some ⟨gW, 0, none⟩) c7 cW L L (blk (pushes (Rn r) st0 (acc ++ [(yk, (s9 : Int), yd, yv)]))) w7 HB7.out.2.isB HIW7.out.1 (by have := HLL.out; omega) HLL.out HLL.out).mono ?_
                rintro e w8' ⟨rfl, n8, hw8⟩
                have HBW8 : Hid (Below w7.heap.size w7 w8') := by rw [hw8]; exact below_drewN (Below.refl _ _) _
                clear hw8
                have HB8 : Hid (Bm w M Kb q r (acc ++ [(yk, (s9 : Int), yd, yv)]) (acc ++ [(yk, (s9 : Int), yd, yv)]) (.slice a5 (N + 1) c5) T7 w8' ∧ BookB.Live 1 T7 w8' (some ⟨g7, 0, none⟩) c7 (blk (pushes (Rn r) st0 (acc ++ [(yk, (s9 : Int), yd, yv)]))) ∧ IsB w8' (some ⟨gW, 0, none⟩) (blk (pushes (Rn r) st0 (acc ++ [(yk, (s9 : Int), yd, yv)])))) := ⟨HB7.out.1.below HBW8.out, HB7.out.2.below HBW8.out, HIW7.out.1.below HBW8.out⟩
                clear HBW8 HB7
                dsimp only
                go_wp2_with (go_at_call 7; fail)
                refine (HSIZ.out w8' T7 HB8.out.1).mono ?_
                rintro e w9 ⟨rfl, hb9⟩
                have HB9 : Hid (Bm w M Kb q r (acc ++ [(yk, (s9 : Int), yd, yv)]) (acc ++ [(yk, (s9 : Int), yd, yv)]) (.slice a5 (N + 1) c5) T7 w9 ∧ BookB.Live 1 T7 w9 (some ⟨g7, 0, none⟩) c7 (blk (pushes (Rn r) st0 (acc ++ [(yk, (s9 : Int), yd, yv)]))) ∧ IsB w9 (some ⟨gW, 0, none⟩) (blk (pushes (Rn r) st0 (acc ++ [(yk, (s9 : Int), yd, yv)])))) := ⟨HB8.out.1.below hb9, HB8.out.2.1.below hb9, HB8.out.2.2.below hb9⟩
                clear hb9 HB8
                dsimp only
                go_wp2_with (go_at_call 14; fail)
                refine (HB9.out.1.book (by omega) _ HB9.out.2.1 (by have := HLL.out; omega) HLL.out).mono ?_
                rintro e w10 ⟨rfl, T10, hbm10, hgo10⟩
                have HB10 : Hid (Bm w M Kb (q + 1) r (acc ++ [(yk, (s9 : Int), yd, yv)]) (acc ++ [(yk, (s9 : Int), yd, yv)]) (.slice a5 (N + 1) c5) T10 w10 ∧ IsB w10 (some ⟨gW, 0, none⟩) (blk (pushes (Rn r) st0 (acc ++ [(yk, (s9 : Int), yd, yv)])))) := ⟨hbm10, isB_book HB9.out.2.2 hgo10 (fun b off e => by cases e; exact HIW7.out.2)⟩
                clear hbm10 hgo10 HB9 HIW7
                dsimp only
                go_wp2_with (go_at_call 15; fail)
                refine HB10.out.1.kept.hold.mono ?_
                rintro e w11 ⟨rfl, hb11⟩
                have HB11 : Hid (Bm w M Kb (q + 1) r (acc ++ [(yk, (s9 : Int), yd, yv)]) (acc ++ [(yk, (s9 : Int), yd, yv)]) (.slice a5 (N + 1) c5) T10 w11 ∧ IsB w11 (some ⟨gW, 0, none⟩) (blk (pushes (Rn r) st0 (acc ++ [(yk, (s9 : Int), yd, yv)])))) := ⟨HB10.out.1.below hb11, HB10.out.2.below hb11⟩
                clear hb11 HB10
                dsimp only
                go_wp2_with (go_at_call 12; fail)
                refine (HBYT.out w11 T10 (q + 1) HB11.out.1).mono ?_
                rintro e w12 ⟨v12, rfl, hown12, hb12⟩
                obtain ⟨g12, c12, rfl, _, _, _, hi12⟩ := hown12.isB
                have HB12 : Hid (Bm w M Kb (q + 1) r (acc ++ [(yk, (s9 : Int), yd, yv)]) (acc ++ [(yk, (s9 : Int), yd, yv)]) (.slice a5 (N + 1) c5) T10 w12 ∧ IsB w12 (some ⟨gW, 0, none⟩) (blk (pushes (Rn r) st0 (acc ++ [(yk, (s9 : Int), yd, yv)]))) ∧ IsB w12 (some ⟨g12, 0, none⟩) (blk (pushes (Rn r) st0 (acc ++ [(yk, (s9 : Int), yd, yv)])))) := ⟨HB11.out.1.below hb12, HB11.out.2.below hb12, hi12⟩
                rw [← HLL.out]
                clear hown12 hb12 hi12 HB11
                dsimp only
                go_wp2_with (go_at_call 13; fail)
                refine (same_any (some ⟨g12, 0, none⟩) (some ⟨gW, 0, none⟩) c12 cW L L (blk (pushes (Rn r) st0 (acc ++ [(yk, (s9 : Int), yd, yv)]))) w12 HB12.out.2.2 HB12.out.2.1 (by have := HLL.out; omega) HLL.out HLL.out).mono ?_
                rintro e w13 ⟨rfl, n13, hw13⟩
                have HB13 : Hid (Bm w M Kb (q + 1) r (acc ++ [(yk, (s9 : Int), yd, yv)]) (acc ++ [(yk, (s9 : Int), yd, yv)]) (.slice a5 (N + 1) c5) T10 w13) := by
                  have hbw : Below w12.heap.size w12 w13 := by rw [hw13]; exact below_drewN (Below.refl _ _) _
                  exact HB12.out.1.below hbw
                clear hw13 HB12
                dsimp only
                go_wp2_with fail
                go_roundw
                case rel => exact ⟨k + 1, a5, (N + 1), c5, q + 1, by omega, by have := HNB.out; omega, by omega, rfl, by go_num, by rw [HMT.out]; exact (bm_isE HB13.out).2, T10, by rw [HMT.out]; exact HB13.out⟩
                case measure => simp [intOf]; omega
              · have hd3 : ((k : Int) + 1 == (n : Int)) = false := by simpa using he3
                refine HADD2.out.mono ?_
                rintro e w3 ⟨rfl, T3, h3⟩
                have HS3 : Hid (Bm w M Kb q r (acc ++ [(yk, (s9 : Int), yd, yv)]) acc (.slice aa N cc) T3 w3) := h3
                obtain ⟨u0, u1, u2, u3⟩ := HCEL.out w3 h3.bl
                clear h3 y0 y1 y2 y3
                dsimp only
                go_wp2_with (first
                  | (go_at_call 9; go_loud (refine (num_any _ _).mono ?_; rintro e w9 ⟨rfl, hw⟩; have hw2 := hw.symm; clear hw; subst hw2))
                  | (at_builtin; go_loud (refine Erw.wpList_appE _ (by rfl) (.tmp 51) (.tmp 56) 22 (by rfl) i0 Tryz.underlying22 hi0 hz0 hz1 hz2 9000020 T3 (.slice aa N cc) acc (by rfl) (HS3.out.ow.below ((Below.refl _ _).alloc (Nat.le_refl _) _)) (some ⟨w3.heap.size, 0, none⟩) 1 1 [(yk, (s9 : Int), yd, yv)] (by rfl) (by rfl) (by simp) isE_new10 (by have := HNA.out; simp; omega) ?_; intro a5 c5 T5 w5 hown5 hgo5 _; have hg5 : Goes (· = 9000020) T3 w3 T5 w5 := (Goes.below ((Below.refl _ _).alloc (Nat.le_refl _) _)).trans hgo5; have hown6 : Erw.OwnE 9000020 T5 w5 (.slice a5 (N + 1) c5) (acc ++ [(yk, (s9 : Int), yd, yv)]) := (by rw [HNA.out]; exact hown5); have HS5 : Hid (Bm w M Kb q r (acc ++ [(yk, (s9 : Int), yd, yv)]) (acc ++ [(yk, (s9 : Int), yd, yv)]) (.slice a5 (N + 1) c5) T5 w5) := HS3.out.app hown6 hg5; rw [← HNA.out]; simp only [List.length_cons, List.length_nil, Nat.zero_add]; clear hown5 hgo5 hg5 hown6)))
                go_wp2_with fail
                go_roundw
                case rel => exact ⟨k + 1, a5, (N + 1), c5, q, by omega, by have := HNB.out; omega, by omega, rfl, by go_num, by rw [HMT.out]; exact (bm_isE HS5.out).2, T5, by rw [HMT.out]; exact HS5.out⟩
                case measure => simp [intOf]; omega
        · rw [if_neg had] at HMT
          have HADD2 : Hid (Calls Tryz.prog 10 #[.pointer (some ⟨M, 0, none⟩), .agg #[.string yk, .int .u64 (s9 : Int), .bool yd, .string yv]] w2 fun e w' => e = .returned (.int .i64 ad) ∧ ∃ T', Bm w M Kb q r acc acc (.slice aa N cc) T' w') := (HADD.out w2 HB2.out).mono fun e w' h => by
            obtain ⟨T', h1, h2, h3⟩ := h
            rw [if_neg had] at h2
            exact ⟨h1, T', HS2.out.add h2 h3⟩
          have had2 : (ad == 0) = false := by simpa using had
          clear HADD HADS
          have HAO : Hid (∀ e ∈ acc, Ok e ∧ 0 ≤ e.2.1) := by rw [← HMT.out]; exact HAK.out
          have HNB : Hid (N ≤ k + 1 ∧ k ≤ 200 ∧ (pushes (Rn r) st0 acc).b.length ≤ 200000 ∧ (pushes (Rn r) st0 acc).p.length ≤ 2000) := by
            have h1 := pushes_len (Rn r) acc HAO.out
            have h2 := pushes_plen (Rn r) acc st0
            have z1 : st0.p.length = 0 := rfl
            have := HNA.out
            exact ⟨by omega, by omega, by omega, by omega⟩
          by_cases he1 : every < 1
          · have hd1 : decide (every < 1) = true := decide_eq_true he1
            refine HADD2.out.mono ?_
            rintro e w5 ⟨rfl, T5, h5⟩
            have HS5 : Hid (Bm w M Kb q r acc acc (.slice aa N cc) T5 w5) := h5
            clear h5 y0 y1 y2 y3
            dsimp only
            go_wp2_with (go_at_call 9; go_loud (refine (num_any _ _).mono ?_; rintro e w9 ⟨rfl, hw⟩; have hw2 := hw.symm; clear hw; subst hw2))
            have HW1 : Hid (Calls Tryz.prog 11 #[.slice aa N cc, .int .i64 r] w5 fun e w' => ∃ v, e = .returned v ∧ Byt.Own 5 w5.heap.size w' v (blk (pushes (Rn r) st0 acc)) ∧ Below w5.heap.size w5 w') := refBytes_any _ _ _ acc w5 r (bm_isE HS5.out).1 (bm_isE HS5.out).2 (by have := HNB.out; omega) HAO.out HR.out.1
            go_wp2_with (go_at_call 11; fail)
            refine HW1.out.mono ?_
            rintro e w6 ⟨v6, rfl, hown6, hb6⟩
            obtain ⟨gW, cW, rfl, hgW, _, _, hiW⟩ := hown6.isB
            have HB6 : Hid (Bm w M Kb q r acc acc (.slice aa N cc) T5 w6) := HS5.out.below hb6
            have HIW : Hid (IsB w6 (some ⟨gW, 0, none⟩) (blk (pushes (Rn r) st0 acc)) ∧ T5 gW = 0) := ⟨hiW, HS5.out.kept.2 gW hgW⟩
            clear hown6 hb6 hgW hiW HW1
            have HBYT : Hid (∀ (W : World) (T : Nat → Nat) (q' : Nat), Bm w M Kb q' r acc acc (.slice aa N cc) T W → Calls Tryz.prog 12 #[.pointer (some ⟨M, 0, none⟩)] W fun e w' => ∃ v, e = .returned v ∧ Byt.Own 5 W.heap.size w' v (blk (pushes (Rn r) st0 acc)) ∧ Below W.heap.size W w') := fun W T q' h => bytes_any 9000010 T W M r _ h.ma (HT.out.below h.bl HT.out.lt) (by have := HNB.out; omega) (by have := HNB.out; omega)
            have HSIZ : Hid (∀ (W : World) (T : Nat → Nat), Bm w M Kb q r acc acc (.slice aa N cc) T W → Calls Tryz.prog 7 #[.pointer (some ⟨M, 0, none⟩)] W fun e w' => e = .returned (.int .i64 (((blk (pushes (Rn r) st0 acc)).length : Nat) : Int)) ∧ Below W.heap.size W w') := fun W T h => (size_any 9000010 T W M r _ h.ma (by have := HNB.out; omega) (by have := HNB.out; omega)).mono fun e w' ⟨h1, n, h2⟩ => ⟨by rw [blk_len]; exact h1, by rw [h2]; exact below_drewN (Below.refl _ _) _⟩
            obtain ⟨L, hL⟩ : ∃ L, L = (blk (pushes (Rn r) st0 acc)).length := ⟨_, rfl⟩
            have HLL : Hid (L = (blk (pushes (Rn r) st0 acc)).length) := hL
            have hLm : L ≤ 1000000 := by rw [hL, blk_len]; have := HNB.out; omega
            rw [← hL] at HSIZ ⊢
            clear hL
            dsimp only
            go_wp2_with (go_at_call 12; fail)
            refine (HBYT.out w6 T5 q HB6.out).mono ?_
            rintro e w7 ⟨v7, rfl, hown7, hb7⟩
            obtain ⟨g7, c7, T7, e7, hlc7, hbm7, hlv7, hkp7⟩ := HB6.out.make hb7 hown7
            subst e7
            have HB7 : Hid (Bm w M Kb q r acc acc (.slice aa N cc) T7 w7 ∧ BookB.Live 1 T7 w7 (some ⟨g7, 0, none⟩) c7 (blk (pushes (Rn r) st0 acc))) := ⟨hbm7, hlv7⟩
            have HIW7 : Hid (IsB w7 (some ⟨gW, 0, none⟩) (blk (pushes (Rn r) st0 acc)) ∧ T7 gW = 0) := by
              refine ⟨HIW.out.1.below hb7, ?_⟩
              obtain ⟨b0, o0, e0, hr0⟩ := HIW.out.1.1 (by intro e; have := HLL.out; rw [e] at this; have h8 := blk_len (pushes (Rn r) st0 acc); rw [e] at h8; simp at h8)
              cases e0
              exact (hkp7 _ hr0.1).trans HIW.out.2
            rw [← HLL.out]
            clear hown7 hb7 hlc7 hbm7 hlv7 hkp7 HB6 HIW
            dsimp only
            go_wp2_with (go_at_call 13; fail)
            refine (same_any (some ⟨g7, 0, none⟩) (some ⟨gW, 0, none⟩) c7 cW L L (blk (pushes (Rn r) st0 acc)) w7 HB7.out.2.isB HIW7.out.1 (by have := HLL.out; omega) HLL.out HLL.out).mono ?_
            rintro e w8' ⟨rfl, n8, hw8⟩
            have HBW8 : Hid (Below w7.heap.size w7 w8') := by rw [hw8]; exact below_drewN (Below.refl _ _) _
            clear hw8
            have HB8 : Hid (Bm w M Kb q r acc acc (.slice aa N cc) T7 w8' ∧ BookB.Live 1 T7 w8' (some ⟨g7, 0, none⟩) c7 (blk (pushes (Rn r) st0 acc)) ∧ IsB w8' (some ⟨gW, 0, none⟩) (blk (pushes (Rn r) st0 acc))) := ⟨HB7.out.1.below HBW8.out, HB7.out.2.below HBW8.out, HIW7.out.1.below HBW8.out⟩
            clear HBW8 HB7
            dsimp only
            go_wp2_with (go_at_call 7; fail)
            refine (HSIZ.out w8' T7 HB8.out.1).mono ?_
            rintro e w9 ⟨rfl, hb9⟩
            have HB9 : Hid (Bm w M Kb q r acc acc (.slice aa N cc) T7 w9 ∧ BookB.Live 1 T7 w9 (some ⟨g7, 0, none⟩) c7 (blk (pushes (Rn r) st0 acc)) ∧ IsB w9 (some ⟨gW, 0, none⟩) (blk (pushes (Rn r) st0 acc))) := ⟨HB8.out.1.below hb9, HB8.out.2.1.below hb9, HB8.out.2.2.below hb9⟩
            clear hb9 HB8
            dsimp only
            go_wp2_with (go_at_call 14; fail)
            refine (HB9.out.1.book (by omega) _ HB9.out.2.1 (by have := HLL.out; omega) HLL.out).mono ?_
            rintro e w10 ⟨rfl, T10, hbm10, hgo10⟩
            have HB10 : Hid (Bm w M Kb (q + 1) r acc acc (.slice aa N cc) T10 w10 ∧ IsB w10 (some ⟨gW, 0, none⟩) (blk (pushes (Rn r) st0 acc))) := ⟨hbm10, isB_book HB9.out.2.2 hgo10 (fun b off e => by cases e; exact HIW7.out.2)⟩
            clear hbm10 hgo10 HB9 HIW7
            dsimp only
            go_wp2_with (go_at_call 15; fail)
            refine HB10.out.1.kept.hold.mono ?_
            rintro e w11 ⟨rfl, hb11⟩
            have HB11 : Hid (Bm w M Kb (q + 1) r acc acc (.slice aa N cc) T10 w11 ∧ IsB w11 (some ⟨gW, 0, none⟩) (blk (pushes (Rn r) st0 acc))) := ⟨HB10.out.1.below hb11, HB10.out.2.below hb11⟩
            clear hb11 HB10
            dsimp only
            go_wp2_with (go_at_call 12; fail)
            refine (HBYT.out w11 T10 (q + 1) HB11.out.1).mono ?_
            rintro e w12 ⟨v12, rfl, hown12, hb12⟩
            obtain ⟨g12, c12, rfl, _, _, _, hi12⟩ := hown12.isB
            have HB12 : Hid (Bm w M Kb (q + 1) r acc acc (.slice aa N cc) T10 w12 ∧ IsB w12 (some ⟨gW, 0, none⟩) (blk (pushes (Rn r) st0 acc)) ∧ IsB w12 (some ⟨g12, 0, none⟩) (blk (pushes (Rn r) st0 acc))) := ⟨HB11.out.1.below hb12, HB11.out.2.below hb12, hi12⟩
            rw [← HLL.out]
            clear hown12 hb12 hi12 HB11
            dsimp only
            go_wp2_with (go_at_call 13; fail)
            refine (same_any (some ⟨g12, 0, none⟩) (some ⟨gW, 0, none⟩) c12 cW L L (blk (pushes (Rn r) st0 acc)) w12 HB12.out.2.2 HB12.out.2.1 (by have := HLL.out; omega) HLL.out HLL.out).mono ?_
            rintro e w13 ⟨rfl, n13, hw13⟩
            have HB13 : Hid (Bm w M Kb (q + 1) r acc acc (.slice aa N cc) T10 w13) := by
              have hbw : Below w12.heap.size w12 w13 := by rw [hw13]; exact below_drewN (Below.refl _ _) _
              exact HB12.out.1.below hbw
            clear hw13 HB12
            dsimp only
            go_wp2_with fail
            go_roundw
            case rel => exact ⟨k + 1, aa, N, cc, q + 1, by omega, by have := HNB.out; omega, by omega, rfl, by go_num, by rw [HMT.out]; exact (bm_isE HB13.out).2, T10, by rw [HMT.out]; exact HB13.out⟩
            case measure => simp [intOf]; omega
          · have hd1 : decide (every < 1) = false := decide_eq_false he1
            have hm0 : ¬ every = 0 := by omega
            by_cases he2 : (k : Int) % every = 0
            · have hd2 : ((k : Int) % every == 0) = true := by simpa using he2
              refine HADD2.out.mono ?_
              rintro e w5 ⟨rfl, T5, h5⟩
              have HS5 : Hid (Bm w M Kb q r acc acc (.slice aa N cc) T5 w5) := h5
              clear h5 y0 y1 y2 y3
              dsimp only
              go_wp2_with (go_at_call 9; go_loud (refine (num_any _ _).mono ?_; rintro e w9 ⟨rfl, hw⟩; have hw2 := hw.symm; clear hw; subst hw2))
              have HW1 : Hid (Calls Tryz.prog 11 #[.slice aa N cc, .int .i64 r] w5 fun e w' => ∃ v, e = .returned v ∧ Byt.Own 5 w5.heap.size w' v (blk (pushes (Rn r) st0 acc)) ∧ Below w5.heap.size w5 w') := refBytes_any _ _ _ acc w5 r (bm_isE HS5.out).1 (bm_isE HS5.out).2 (by have := HNB.out; omega) HAO.out HR.out.1
              go_wp2_with (go_at_call 11; fail)
              refine HW1.out.mono ?_
              rintro e w6 ⟨v6, rfl, hown6, hb6⟩
              obtain ⟨gW, cW, rfl, hgW, _, _, hiW⟩ := hown6.isB
              have HB6 : Hid (Bm w M Kb q r acc acc (.slice aa N cc) T5 w6) := HS5.out.below hb6
              have HIW : Hid (IsB w6 (some ⟨gW, 0, none⟩) (blk (pushes (Rn r) st0 acc)) ∧ T5 gW = 0) := ⟨hiW, HS5.out.kept.2 gW hgW⟩
              clear hown6 hb6 hgW hiW HW1
              have HBYT : Hid (∀ (W : World) (T : Nat → Nat) (q' : Nat), Bm w M Kb q' r acc acc (.slice aa N cc) T W → Calls Tryz.prog 12 #[.pointer (some ⟨M, 0, none⟩)] W fun e w' => ∃ v, e = .returned v ∧ Byt.Own 5 W.heap.size w' v (blk (pushes (Rn r) st0 acc)) ∧ Below W.heap.size W w') := fun W T q' h => bytes_any 9000010 T W M r _ h.ma (HT.out.below h.bl HT.out.lt) (by have := HNB.out; omega) (by have := HNB.out; omega)
              have HSIZ : Hid (∀ (W : World) (T : Nat → Nat), Bm w M Kb q r acc acc (.slice aa N cc) T W → Calls Tryz.prog 7 #[.pointer (some ⟨M, 0, none⟩)] W fun e w' => e = .returned (.int .i64 (((blk (pushes (Rn r) st0 acc)).length : Nat) : Int)) ∧ Below W.heap.size W w') := fun W T h => (size_any 9000010 T W M r _ h.ma (by have := HNB.out; omega) (by have := HNB.out; omega)).mono fun e w' ⟨h1, n, h2⟩ => ⟨by rw [blk_len]; exact h1, by rw [h2]; exact below_drewN (Below.refl _ _) _⟩
              obtain ⟨L, hL⟩ : ∃ L, L = (blk (pushes (Rn r) st0 acc)).length := ⟨_, rfl⟩
              have HLL : Hid (L = (blk (pushes (Rn r) st0 acc)).length) := hL
              have hLm : L ≤ 1000000 := by rw [hL, blk_len]; have := HNB.out; omega
              rw [← hL] at HSIZ ⊢
              clear hL
              dsimp only
              go_wp2_with (go_at_call 12; fail)
              refine (HBYT.out w6 T5 q HB6.out).mono ?_
              rintro e w7 ⟨v7, rfl, hown7, hb7⟩
              obtain ⟨g7, c7, T7, e7, hlc7, hbm7, hlv7, hkp7⟩ := HB6.out.make hb7 hown7
              subst e7
              have HB7 : Hid (Bm w M Kb q r acc acc (.slice aa N cc) T7 w7 ∧ BookB.Live 1 T7 w7 (some ⟨g7, 0, none⟩) c7 (blk (pushes (Rn r) st0 acc))) := ⟨hbm7, hlv7⟩
              have HIW7 : Hid (IsB w7 (some ⟨gW, 0, none⟩) (blk (pushes (Rn r) st0 acc)) ∧ T7 gW = 0) := by
                refine ⟨HIW.out.1.below hb7, ?_⟩
                obtain ⟨b0, o0, e0, hr0⟩ := HIW.out.1.1 (by intro e; have := HLL.out; rw [e] at this; have h8 := blk_len (pushes (Rn r) st0 acc); rw [e] at h8; simp at h8)
                cases e0
                exact (hkp7 _ hr0.1).trans HIW.out.2
              rw [← HLL.out]
              clear hown7 hb7 hlc7 hbm7 hlv7 hkp7 HB6 HIW
              dsimp only
              go_wp2_with (go_at_call 13; fail)
              refine (same_any (some ⟨g7, 0, none⟩) (some ⟨gW, 0, none⟩) c7 cW L L (blk (pushes (Rn r) st0 acc)) w7 HB7.out.2.isB HIW7.out.1 (by have := HLL.out; omega) HLL.out HLL.out).mono ?_
              rintro e w8' ⟨rfl, n8, hw8⟩
              have HBW8 : Hid (Below w7.heap.size w7 w8') := by rw [hw8]; exact below_drewN (Below.refl _ _) _
              clear hw8
              have HB8 : Hid (Bm w M Kb q r acc acc (.slice aa N cc) T7 w8' ∧ BookB.Live 1 T7 w8' (some ⟨g7, 0, none⟩) c7 (blk (pushes (Rn r) st0 acc)) ∧ IsB w8' (some ⟨gW, 0, none⟩) (blk (pushes (Rn r) st0 acc))) := ⟨HB7.out.1.below HBW8.out, HB7.out.2.below HBW8.out, HIW7.out.1.below HBW8.out⟩
              clear HBW8 HB7
              dsimp only
              go_wp2_with (go_at_call 7; fail)
              refine (HSIZ.out w8' T7 HB8.out.1).mono ?_
              rintro e w9 ⟨rfl, hb9⟩
              have HB9 : Hid (Bm w M Kb q r acc acc (.slice aa N cc) T7 w9 ∧ BookB.Live 1 T7 w9 (some ⟨g7, 0, none⟩) c7 (blk (pushes (Rn r) st0 acc)) ∧ IsB w9 (some ⟨gW, 0, none⟩) (blk (pushes (Rn r) st0 acc))) := ⟨HB8.out.1.below hb9, HB8.out.2.1.below hb9, HB8.out.2.2.below hb9⟩
              clear hb9 HB8
              dsimp only
              go_wp2_with (go_at_call 14; fail)
              refine (HB9.out.1.book (by omega) _ HB9.out.2.1 (by have := HLL.out; omega) HLL.out).mono ?_
              rintro e w10 ⟨rfl, T10, hbm10, hgo10⟩
              have HB10 : Hid (Bm w M Kb (q + 1) r acc acc (.slice aa N cc) T10 w10 ∧ IsB w10 (some ⟨gW, 0, none⟩) (blk (pushes (Rn r) st0 acc))) := ⟨hbm10, isB_book HB9.out.2.2 hgo10 (fun b off e => by cases e; exact HIW7.out.2)⟩
              clear hbm10 hgo10 HB9 HIW7
              dsimp only
              go_wp2_with (go_at_call 15; fail)
              refine HB10.out.1.kept.hold.mono ?_
              rintro e w11 ⟨rfl, hb11⟩
              have HB11 : Hid (Bm w M Kb (q + 1) r acc acc (.slice aa N cc) T10 w11 ∧ IsB w11 (some ⟨gW, 0, none⟩) (blk (pushes (Rn r) st0 acc))) := ⟨HB10.out.1.below hb11, HB10.out.2.below hb11⟩
              clear hb11 HB10
              dsimp only
              go_wp2_with (go_at_call 12; fail)
              refine (HBYT.out w11 T10 (q + 1) HB11.out.1).mono ?_
              rintro e w12 ⟨v12, rfl, hown12, hb12⟩
              obtain ⟨g12, c12, rfl, _, _, _, hi12⟩ := hown12.isB
              have HB12 : Hid (Bm w M Kb (q + 1) r acc acc (.slice aa N cc) T10 w12 ∧ IsB w12 (some ⟨gW, 0, none⟩) (blk (pushes (Rn r) st0 acc)) ∧ IsB w12 (some ⟨g12, 0, none⟩) (blk (pushes (Rn r) st0 acc))) := ⟨HB11.out.1.below hb12, HB11.out.2.below hb12, hi12⟩
              rw [← HLL.out]
              clear hown12 hb12 hi12 HB11
              dsimp only
              go_wp2_with (go_at_call 13; fail)
              refine (same_any (some ⟨g12, 0, none⟩) (some ⟨gW, 0, none⟩) c12 cW L L (blk (pushes (Rn r) st0 acc)) w12 HB12.out.2.2 HB12.out.2.1 (by have := HLL.out; omega) HLL.out HLL.out).mono ?_
              rintro e w13 ⟨rfl, n13, hw13⟩
              have HB13 : Hid (Bm w M Kb (q + 1) r acc acc (.slice aa N cc) T10 w13) := by
                have hbw : Below w12.heap.size w12 w13 := by rw [hw13]; exact below_drewN (Below.refl _ _) _
                exact HB12.out.1.below hbw
              clear hw13 HB12
              dsimp only
              go_wp2_with fail
              go_roundw
              case rel => exact ⟨k + 1, aa, N, cc, q + 1, by omega, by have := HNB.out; omega, by omega, rfl, by go_num, by rw [HMT.out]; exact (bm_isE HB13.out).2, T10, by rw [HMT.out]; exact HB13.out⟩
              case measure => simp [intOf]; omega
            · have hd2 : ((k : Int) % every == 0) = false := by simpa using he2
              by_cases he3 : (k : Int) + 1 = (n : Int)
              · have hd3 : ((k : Int) + 1 == (n : Int)) = true := by simpa using he3
                refine HADD2.out.mono ?_
                rintro e w5 ⟨rfl, T5, h5⟩
                have HS5 : Hid (Bm w M Kb q r acc acc (.slice aa N cc) T5 w5) := h5
                clear h5 y0 y1 y2 y3
                dsimp only
                go_wp2_with (go_at_call 9; go_loud (refine (num_any _ _).mono ?_; rintro e w9 ⟨rfl, hw⟩; have hw2 := hw.symm; clear hw; subst hw2))
                have HW1 : Hid (Calls Tryz.prog 11 #[.slice aa N cc, .int .i64 r] w5 fun e w' => ∃ v, e = .returned v ∧ Byt.Own 5 w5.heap.size w' v (blk (pushes (Rn r) st0 acc)) ∧ Below w5.heap.size w5 w') := refBytes_any _ _ _ acc w5 r (bm_isE HS5.out).1 (bm_isE HS5.out).2 (by have := HNB.out; omega) HAO.out HR.out.1
                go_wp2_with (go_at_call 11; fail)
                refine HW1.out.mono ?_
                rintro e w6 ⟨v6, rfl, hown6, hb6⟩
                obtain ⟨gW, cW, rfl, hgW, _, _, hiW⟩ := hown6.isB
                have HB6 : Hid (Bm w M Kb q r acc acc (.slice aa N cc) T5 w6) := HS5.out.below hb6
                have HIW : Hid (IsB w6 (some ⟨gW, 0, none⟩) (blk (pushes (Rn r) st0 acc)) ∧ T5 gW = 0) := ⟨hiW, HS5.out.kept.2 gW hgW⟩
                clear hown6 hb6 hgW hiW HW1
                have HBYT : Hid (∀ (W : World) (T : Nat → Nat) (q' : Nat), Bm w M Kb q' r acc acc (.slice aa N cc) T W → Calls Tryz.prog 12 #[.pointer (some ⟨M, 0, none⟩)] W fun e w' => ∃ v, e = .returned v ∧ Byt.Own 5 W.heap.size w' v (blk (pushes (Rn r) st0 acc)) ∧ Below W.heap.size W w') := fun W T q' h => bytes_any 9000010 T W M r _ h.ma (HT.out.below h.bl HT.out.lt) (by have := HNB.out; omega) (by have := HNB.out; omega)
                have HSIZ : Hid (∀ (W : World) (T : Nat → Nat), Bm w M Kb q r acc acc (.slice aa N cc) T W → Calls Tryz.prog 7 #[.pointer (some ⟨M, 0, none⟩)] W fun e w' => e = .returned (.int .i64 (((blk (pushes (Rn r) st0 acc)).length : Nat) : Int)) ∧ Below W.heap.size W w') := fun W T h => (size_any 9000010 T W M r _ h.ma (by have := HNB.out; omega) (by have := HNB.out; omega)).mono fun e w' ⟨h1, n, h2⟩ => ⟨by rw [blk_len]; exact h1, by rw [h2]; exact below_drewN (Below.refl _ _) _⟩
                obtain ⟨L, hL⟩ : ∃ L, L = (blk (pushes (Rn r) st0 acc)).length := ⟨_, rfl⟩
                have HLL : Hid (L = (blk (pushes (Rn r) st0 acc)).length) := hL
                have hLm : L ≤ 1000000 := by rw [hL, blk_len]; have := HNB.out; omega
                rw [← hL] at HSIZ ⊢
                clear hL
                dsimp only
                go_wp2_with (go_at_call 12; fail)
                refine (HBYT.out w6 T5 q HB6.out).mono ?_
                rintro e w7 ⟨v7, rfl, hown7, hb7⟩
                obtain ⟨g7, c7, T7, e7, hlc7, hbm7, hlv7, hkp7⟩ := HB6.out.make hb7 hown7
                subst e7
                have HB7 : Hid (Bm w M Kb q r acc acc (.slice aa N cc) T7 w7 ∧ BookB.Live 1 T7 w7 (some ⟨g7, 0, none⟩) c7 (blk (pushes (Rn r) st0 acc))) := ⟨hbm7, hlv7⟩
                have HIW7 : Hid (IsB w7 (some ⟨gW, 0, none⟩) (blk (pushes (Rn r) st0 acc)) ∧ T7 gW = 0) := by
                  refine ⟨HIW.out.1.below hb7, ?_⟩
                  obtain ⟨b0, o0, e0, hr0⟩ := HIW.out.1.1 (by intro e; have := HLL.out; rw [e] at this; have h8 := blk_len (pushes (Rn r) st0 acc); rw [e] at h8; simp at h8)
                  cases e0
                  exact (hkp7 _ hr0.1).trans HIW.out.2
                rw [← HLL.out]
                clear hown7 hb7 hlc7 hbm7 hlv7 hkp7 HB6 HIW
                dsimp only
                go_wp2_with (go_at_call 13; fail)
                refine (same_any (some ⟨g7, 0, none⟩) (some ⟨gW, 0, none⟩) c7 cW L L (blk (pushes (Rn r) st0 acc)) w7 HB7.out.2.isB HIW7.out.1 (by have := HLL.out; omega) HLL.out HLL.out).mono ?_
                rintro e w8' ⟨rfl, n8, hw8⟩
                have HBW8 : Hid (Below w7.heap.size w7 w8') := by rw [hw8]; exact below_drewN (Below.refl _ _) _
                clear hw8
                have HB8 : Hid (Bm w M Kb q r acc acc (.slice aa N cc) T7 w8' ∧ BookB.Live 1 T7 w8' (some ⟨g7, 0, none⟩) c7 (blk (pushes (Rn r) st0 acc)) ∧ IsB w8' (some ⟨gW, 0, none⟩) (blk (pushes (Rn r) st0 acc))) := ⟨HB7.out.1.below HBW8.out, HB7.out.2.below HBW8.out, HIW7.out.1.below HBW8.out⟩
                clear HBW8 HB7
                dsimp only
                go_wp2_with (go_at_call 7; fail)
                refine (HSIZ.out w8' T7 HB8.out.1).mono ?_
                rintro e w9 ⟨rfl, hb9⟩
                have HB9 : Hid (Bm w M Kb q r acc acc (.slice aa N cc) T7 w9 ∧ BookB.Live 1 T7 w9 (some ⟨g7, 0, none⟩) c7 (blk (pushes (Rn r) st0 acc)) ∧ IsB w9 (some ⟨gW, 0, none⟩) (blk (pushes (Rn r) st0 acc))) := ⟨HB8.out.1.below hb9, HB8.out.2.1.below hb9, HB8.out.2.2.below hb9⟩
                clear hb9 HB8
                dsimp only
                go_wp2_with (go_at_call 14; fail)
                refine (HB9.out.1.book (by omega) _ HB9.out.2.1 (by have := HLL.out; omega) HLL.out).mono ?_
                rintro e w10 ⟨rfl, T10, hbm10, hgo10⟩
                have HB10 : Hid (Bm w M Kb (q + 1) r acc acc (.slice aa N cc) T10 w10 ∧ IsB w10 (some ⟨gW, 0, none⟩) (blk (pushes (Rn r) st0 acc))) := ⟨hbm10, isB_book HB9.out.2.2 hgo10 (fun b off e => by cases e; exact HIW7.out.2)⟩
                clear hbm10 hgo10 HB9 HIW7
                dsimp only
                go_wp2_with (go_at_call 15; fail)
                refine HB10.out.1.kept.hold.mono ?_
                rintro e w11 ⟨rfl, hb11⟩
                have HB11 : Hid (Bm w M Kb (q + 1) r acc acc (.slice aa N cc) T10 w11 ∧ IsB w11 (some ⟨gW, 0, none⟩) (blk (pushes (Rn r) st0 acc))) := ⟨HB10.out.1.below hb11, HB10.out.2.below hb11⟩
                clear hb11 HB10
                dsimp only
                go_wp2_with (go_at_call 12; fail)
                refine (HBYT.out w11 T10 (q + 1) HB11.out.1).mono ?_
                rintro e w12 ⟨v12, rfl, hown12, hb12⟩
                obtain ⟨g12, c12, rfl, _, _, _, hi12⟩ := hown12.isB
                have HB12 : Hid (Bm w M Kb (q + 1) r acc acc (.slice aa N cc) T10 w12 ∧ IsB w12 (some ⟨gW, 0, none⟩) (blk (pushes (Rn r) st0 acc)) ∧ IsB w12 (some ⟨g12, 0, none⟩) (blk (pushes (Rn r) st0 acc))) := ⟨HB11.out.1.below hb12, HB11.out.2.below hb12, hi12⟩
                rw [← HLL.out]
                clear hown12 hb12 hi12 HB11
                dsimp only
                go_wp2_with (go_at_call 13; fail)
                refine (same_any (some ⟨g12, 0, none⟩) (some ⟨gW, 0, none⟩) c12 cW L L (blk (pushes (Rn r) st0 acc)) w12 HB12.out.2.2 HB12.out.2.1 (by have := HLL.out; omega) HLL.out HLL.out).mono ?_
                rintro e w13 ⟨rfl, n13, hw13⟩
                have HB13 : Hid (Bm w M Kb (q + 1) r acc acc (.slice aa N cc) T10 w13) := by
                  have hbw : Below w12.heap.size w12 w13 := by rw [hw13]; exact below_drewN (Below.refl _ _) _
                  exact HB12.out.1.below hbw
                clear hw13 HB12
                dsimp only
                go_wp2_with fail
                go_roundw
                case rel => exact ⟨k + 1, aa, N, cc, q + 1, by omega, by have := HNB.out; omega, by omega, rfl, by go_num, by rw [HMT.out]; exact (bm_isE HB13.out).2, T10, by rw [HMT.out]; exact HB13.out⟩
                case measure => simp [intOf]; omega
              · have hd3 : ((k : Int) + 1 == (n : Int)) = false := by simpa using he3
                refine HADD2.out.mono ?_
                rintro e w5 ⟨rfl, T5, h5⟩
                have HS5 : Hid (Bm w M Kb q r acc acc (.slice aa N cc) T5 w5) := h5
                clear h5 y0 y1 y2 y3
                dsimp only
                go_wp2_with (go_at_call 9; go_loud (refine (num_any _ _).mono ?_; rintro e w9 ⟨rfl, hw⟩; have hw2 := hw.symm; clear hw; subst hw2))
                go_wp2_with fail
                go_roundw
                case rel => exact ⟨k + 1, aa, N, cc, q, by omega, by have := HNB.out; omega, by omega, rfl, by go_num, by rw [HMT.out]; exact (bm_isE HS5.out).2, T5, by rw [HMT.out]; exact HS5.out⟩
                case measure => simp [intOf]; omega
      · obtain rfl : k = n := by omega
        obtain ⟨hN, T, hst⟩ := HK.out
        have HST : Hid (Bm w M Kb q r (mds (l.take k)) (mds (l.take k)) (.slice aa N cc) T wr) := hst
        clear hst hN HK
        go_wp2_with (go_at_call 15; go_loud (refine HST.out.kept.hold.mono ?_; rintro e w6 ⟨rfl, hb6⟩; have HB6 : Hid (Below w.heap.size w w6) := HST.out.bl.trans (hb6.mono HST.out.bl.size); clear hb6))
        go_ret
        exact ⟨rfl, HB1.out.trans (HB6.out.mono HB1.out.size)⟩
end BlockMakes
end Go.Proofs.YtnoipjeoclkeoaaGreatDoor
