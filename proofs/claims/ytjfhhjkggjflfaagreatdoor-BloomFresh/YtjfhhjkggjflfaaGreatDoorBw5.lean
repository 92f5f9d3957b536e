import Derived.Test.YtjfhhjkggjflfaaGreatDoorBk1
import Derived.Test.YtjfhhjkggjflfaaGreatDoorNS
namespace Go.Proofs.YtjfhhjkggjflfaaGreatDoor
namespace BookB
open Go.RowKit CMath Byt Cod Laws
set_option linter.unusedVariables false

/-- A list that is to be kept, if it isn't nil. -/
def one (k : Nat) (a : Option Addr) (c : Nat) (l : List Nat) : List (Nat × Option Addr × Nat × List Nat) := match a with
  | none => []
  | some _ => [(k, a, c, l)]
theorem one_key {k : Nat} {a : Option Addr} {c : Nat} {l : List Nat} : ∀ r ∈ one k a c l, r.1 = k := fun r hr => by
  cases a with
  | none => simp [one] at hr
  | some ad => simp [one] at hr; rw [hr]
theorem St.sub {w0 : World} {T : Nat → Nat} {w : World} {K N : Nat} {rows : List (Option Addr × List Nat)} {lives lives' : List (Nat × Option Addr × Nat × List Nat)} (h : St w0 T w K N rows lives) (hs : ∀ r ∈ lives', r ∈ lives) : St w0 T w K N rows lives' :=
  { h with live := fun r hr => h.live r (hs r hr) }
theorem St.makeO {w0 : World} {T : Nat → Nat} {w w' : World} {K N : Nat} {rows : List (Option Addr × List Nat)} {lives : List (Nat × Option Addr × Nat × List Nat)} (h : St w0 T w K N rows lives) (hb : Below w.heap.size w w') (k : Nat) {a : Option Addr} {c : Nat} {l : List Nat} (hn : New 5 w.heap.size w' a c l) :
    ∃ T', St w0 T' w' K N rows (one k a c l ++ lives) := by
  cases a with
  | none => exact ⟨T, h.below hb⟩
  | some ad => exact h.make hb k hn (by simp)
theorem St.bytesO {w0 : World} {T : Nat → Nat} {w : World} {K N : Nat} {rows : List (Option Addr × List Nat)} {lives : List (Nat × Option Addr × Nat × List Nat)} (h : St w0 T w K N rows lives) (hN : N + 1 ≤ 1000) (k : Nat) {a : Option Addr} {c n : Nat} {l : List Nat} (mark : Int) (ha : ∀ r ∈ one k a c l, r ∈ lives) (hnil : a = none → c = 0 ∧ l = []) (hl : l.length ≤ 1000000000000) (hn : n = l.length) (lives' : List (Nat × Option Addr × Nat × List Nat)) (hs : ∀ r ∈ lives', r ∈ lives ∧ r.1 ≠ k) :
    Calls Tryz.prog 8 #[.pointer (some ⟨K, 0, none⟩), .slice a n c, .int .i64 mark] w fun e w' => e = .returned (.tuple #[]) ∧ ∃ T', St w0 T' w' K (N + 1) rows lives' := by
  cases a with
  | none =>
    obtain ⟨rfl, rfl⟩ := hnil rfl
    subst hn
    exact (h.sub (fun r hr => (hs r hr).1)).bytes_nil hN mark k (fun r hr => (hs r hr).2)
  | some ad => exact h.bytes hN k mark (ha _ (by simp [one])) hl hn lives' hs
theorem St.isBO {w0 : World} {T : Nat → Nat} {w : World} {K N : Nat} {rows : List (Option Addr × List Nat)} {lives : List (Nat × Option Addr × Nat × List Nat)} (h : St w0 T w K N rows lives) (k : Nat) {a : Option Addr} {c : Nat} {l : List Nat} (ha : ∀ r ∈ one k a c l, r ∈ lives) (hnil : a = none → c = 0 ∧ l = []) : IsB w a l := by
  cases a with
  | none => rw [(hnil rfl).2]; exact IsB.nil _ _
  | some ad => exact (h.live (k, some ad, c, l) (ha _ (by simp [one]))).isB
end BookB
namespace BloomFresh
open Go.RowKit CMath Byt Cod Laws Tsr BMath Blo Blk BookB
set_option linter.unusedVariables false
set_option maxRecDepth 20000

theorem new_nil0 {T base : Nat} {w : World} {a : Option Addr} {c : Nat} {l : List Nat} (h : New T base w a c l) : a = none → c = 0 ∧ l = [] := fun e => by
  subst e
  refine ⟨h.cap rfl, ?_⟩
  rcases h.row.2 with ⟨_, h2⟩ | ⟨g, cap, cur, h1, _⟩
  · exact List.eq_nil_of_length_eq_zero h2
  · cases h1

set_option maxHeartbeats 4000000 in
theorem walk (a : Option Addr) (cap : Nat) (ks : List ByteArray) (b : Int) (w : World) (h : IsT w a ks) (hc : a = none → cap = 0) (hcap : ks.length ≤ cap) (hmx : cap ≤ 9223372036854775807) (hsz : ∀ s ∈ ks, s.size ≤ 9223372036854775807) (hb : -9223372036854775808 ≤ b ∧ b ≤ 9223372036854775807) (ht : Tab w) :
    Calls Tryz.prog 3 #[.slice a ks.length cap, .int .i64 b] w fun e w' => e = .returned (.bool true) ∧ Below w.heap.size w w' := by
  obtain ⟨ts, hts⟩ : ∃ ts, ks.take 4000 = ts := ⟨_, rfl⟩
  have hlen : min ks.length 4000 = ts.length := by rw [← hts, List.length_take]; omega
  have HI : Hid (IsT w a ts) := by rw [← hts]; exact h.take 4000
  have HS : Hid (∀ s ∈ ts, s.size ≤ 9223372036854775807) := fun s hs => hsz s (by rw [← hts] at hs; exact List.mem_of_mem_take hs)
  have HT : Hid (Tab w) := ht
  have HC : Hid (a = none → cap = 0) := hc
  have hl4 : ts.length ≤ 4000 := by omega
  obtain ⟨iS, hiS, hz0, hz1, hz2⟩ := info_parts infoS
  obtain ⟨i8, hi8, hy0, hy1, hy2⟩ := info_parts info8
  clear h ht hsz hc
  go_enter Tryz.func3, Tryz.ntmps3
  go_wp2_with fail
  refine (known_any w HT.out).mono ?_
  rintro e w1 ⟨rfl, hb1⟩
  have HB1 : Hid (Below w.heap.size w w1) := hb1
  clear hb1
  go_wp2_with fail
  refine (some_any a cap ks.length w1 HC.out hcap hmx).mono ?_
  rintro e w' ⟨rfl, rfl⟩
  rw [hlen]
  have hbs1 := HB1.out.size
  go_wp2_with (at_builtin; go_loud (refine wpList_appT (by rfl) (.const (.slice none 0 0)) (.tmp 15) 22 (by rfl) w'.heap.size 9 iS Tryz.underlying22 hiS hz0 hz1 hz2 (.slice none 0 0) [] 0 (by rfl) (World.ownsRow_nil _ _ _ _) a ts.length cap ts (by rfl) rfl HC.out (HI.out.below HB1.out) (by omega) (Nat.le_refl _) ?_; intro v1 w2 hown1 hgr1 hnn1; have HG1 : Hid (w'.grownBy w2 none) := hgr1; have HO1 : Hid (w2.ownsRow w'.heap.size 9 1 v1 (0 + ts.length) (cellsT ts)) := hown1; clear hgr1 hown1 hnn1; obtain ⟨t1, a1, c1, hv1, hT1, t2, t3, t4, t5⟩ := isT_of_own HO1.out; clear t1 t2 t3 t4 t5; subst hv1; have HT1 : Hid (IsT w2 a1 ts) := hT1; have HB2' : Hid (Below w'.heap.size w' w2) := below_of (Below.refl _ _) HG1.out (Nat.le_refl _) (by simp); clear hT1 HO1 HG1))
  have HB2 : Hid (Below w.heap.size w w2) := HB1.out.trans (HB2'.out.mono hbs1)
  refine (make_any a cap ts.length ts b w2 (HI.out.below HB2.out) (HT.out.below HB2.out HT.out.lt) hb (by omega) HS.out rfl).mono ?_
  rintro e w3 ⟨a3, c3, rfl, hn3, hb3⟩
  have HN3 : Hid (New 5 w2.heap.size w3 a3 c3 (mk (ts.map strB) b)) := hn3
  have HB3 : Hid (Below w.heap.size w w3) := HB2.out.trans (hb3.mono HB2.out.size)
  have HT3 : Hid (IsT w3 a1 ts) := HT1.out.below hb3
  have hml := mk_length_le (ts.map strB) b
  clear hn3 hb3
  obtain ⟨F, hF⟩ : ∃ F, mk (ts.map strB) b = F := ⟨_, rfl⟩
  rw [hF] at HN3 hml ⊢
  have HF : Hid (mk (ts.map strB) b = F) := hF
  clear hF
  go_wp2_with (first | (at_builtin; go_loud (refine wpList_appB (by rfl) (.const (.slice none 0 0)) (.tmp 19) 25 (by rfl) w3.heap.size 5 i8 Tryz.underlying25 hi8 hy0 hy1 hy2 (.slice none 0 0) [] 0 (by rfl) (World.ownsRow_nil _ _ _ _) a3 F.length c3 F (by rfl) rfl HN3.out.cap HN3.out.isB (by omega) (Nat.le_refl _) ?_; intro v1 w4 hown1 hgr1 hnn1; have HG1 : Hid (w3.grownBy w4 none) := hgr1; have HO1 : Hid (w4.ownsRow w3.heap.size 5 1 v1 (0 + F.length) (cellsB F)) := hown1; clear hgr1 hown1 hnn1; obtain ⟨a4, c4, hv1, hnew1⟩ := New.of HO1.out HN3.out.byte; subst hv1; have HN4 : Hid (New 5 w3.heap.size w4 a4 c4 F) := hnew1; have HB4' : Hid (Below w3.heap.size w3 w4) := below_of (Below.refl _ _) HG1.out (Nat.le_refl _) (by simp); clear hnew1 HO1 HG1)) | (refine wpList_book (by rfl) (by rfl) ?_))
  have HB4 : Hid (Below w.heap.size w w4) := HB3.out.trans (HB4'.out.mono HB3.out.size)
  have HT4 : Hid (IsT w4 a1 ts) := HT3.out.below HB4'.out
  have HW4 : Hid (IsB w4 a4 F) := HN4.out.isB
  have HST : Hid (∃ T, St w4 T (w4.alloc (.cells bookZ 49)) w4.heap.size 0 [] []) := ⟨_, St.first (Below.refl _ _) [] (by simp)⟩
  have HAL : Hid (∀ W, Below w4.heap.size w4 W → IsT W a ts ∧ IsT W a1 ts ∧ IsB W a4 F ∧ Tab W ∧ Below w.heap.size w W) := fun W hW => by
    have h1 := HB4.out.trans (hW.mono HB4.out.size)
    exact ⟨HI.out.below h1, HT4.out.below hW, HW4.out.below hW, HT.out.below h1 HT.out.lt, h1⟩
  clear HN4 HN3 HT1 HT3 HB4' HB2' HB3 HB2 HB1 hbs1
  go_loopw [8] (fun i wr => ∃ (k : Nat), k ≤ 4 ∧ i = .int .i64 (k : Int) ∧ ∃ T, St w4 T wr w4.heap.size (2 * k) [] []) (fun i _ => 4 - (intOf i).toNat)
  case atStart => exact ⟨0, Nat.zero_le _, rfl, HST.out⟩
  case round =>
    clear HST
    rename World => wp
    obtain ⟨k, hk, rfl, T0, hst⟩ := hrel
    have H0 : Hid (St w4 T0 wp w4.heap.size (2 * k) [] []) := hst
    clear hst
    by_cases hk4 : k < 4
    · have q3 : (k : Int) < 4 := by omega
      go_wp2_with fail
      refine (make_any a cap ts.length ts b wp (HAL.out _ H0.out.base).1 (HAL.out _ H0.out.base).2.2.2.1 hb (by omega) HS.out rfl).mono ?_
      rintro e w5 ⟨ax, cx, rfl, hnx, hb5⟩
      rw [HF.out] at hnx ⊢
      obtain ⟨T5, h5⟩ := H0.out.makeO hb5 1 hnx
      have H5 : Hid (St w4 T5 w5 w4.heap.size (2 * k) [] (one 1 ax cx F ++ [])) := h5
      have HX : Hid (ax = none → cx = 0 ∧ F = []) := new_nil0 hnx
      clear h5 hnx hb5 H0
      go_wp2_with fail
      refine (make_any a cap ts.length ts b w5 (HAL.out _ H5.out.base).1 (HAL.out _ H5.out.base).2.2.2.1 hb (by omega) HS.out rfl).mono ?_
      rintro e w6 ⟨ay, cy, rfl, hny, hb6⟩
      rw [HF.out] at hny ⊢
      obtain ⟨T6, h6⟩ := H5.out.makeO hb6 2 hny
      have H6 : Hid (St w4 T6 w6 w4.heap.size (2 * k) [] (one 2 ay cy F ++ (one 1 ax cx F ++ []))) := h6
      have HY : Hid (ay = none → cy = 0 ∧ F = []) := new_nil0 hny
      clear h6 hny hb6 H5
      have M1 : Hid (∀ r ∈ one 1 ax cx F, r ∈ one 2 ay cy F ++ (one 1 ax cx F ++ [])) := fun r hr => by simp [hr]
      have M2 : Hid (∀ r ∈ one 2 ay cy F, r ∈ one 2 ay cy F ++ (one 1 ax cx F ++ [])) := fun r hr => by simp [hr]
      go_wp2_with fail
      refine (same_any ax a4 cx c4 _ _ F w6 (H6.out.isBO 1 M1.out HX.out) (HAL.out _ H6.out.base).2.2.1 (by omega) rfl rfl).mono ?_
      rintro e w'' ⟨rfl, d7, rfl⟩
      have H7 : Hid (St w4 T6 (w6.drewN d7) w4.heap.size (2 * k) [] (one 2 ay cy F ++ (one 1 ax cx F ++ []))) := H6.out.below (below_drewN (Below.refl _ _) _)
      generalize w6.drewN d7 = w7 at *
      clear H6
      go_wp2_with fail
      refine (same_any ay a4 cy c4 _ _ F w7 (H7.out.isBO 2 M2.out HY.out) (HAL.out _ H7.out.base).2.2.1 (by omega) rfl rfl).mono ?_
      rintro e w'' ⟨rfl, d8, rfl⟩
      have H8 : Hid (St w4 T6 (w7.drewN d8) w4.heap.size (2 * k) [] (one 2 ay cy F ++ (one 1 ax cx F ++ []))) := H7.out.below (below_drewN (Below.refl _ _) _)
      generalize w7.drewN d8 = w8 at *
      clear H7
      go_wp2_with fail
      refine (H8.out.bytesO (by omega) 1 _ M1.out HX.out (by omega) rfl (one 2 ay cy F) (fun r hr => ⟨M2.out r hr, by rw [one_key r hr]; omega⟩)).mono ?_
      rintro e w9 ⟨rfl, T9, h9⟩
      have H9 : Hid (St w4 T9 w9 w4.heap.size (2 * k + 1) [] (one 2 ay cy F)) := h9
      clear h9 H8
      go_wp2_with fail
      refine (same_any ay a4 cy c4 _ _ F w9 (H9.out.isBO 2 (fun r hr => hr) HY.out) (HAL.out _ H9.out.base).2.2.1 (by omega) rfl rfl).mono ?_
      rintro e w'' ⟨rfl, d10, rfl⟩
      have H10 : Hid (St w4 T9 (w9.drewN d10) w4.heap.size (2 * k + 1) [] (one 2 ay cy F)) := H9.out.below (below_drewN (Below.refl _ _) _)
      generalize w9.drewN d10 = w10 at *
      clear H9
      go_wp2_with fail
      refine (H10.out.kept.hold).mono ?_
      rintro e w11 ⟨rfl, hb11⟩
      have H11 : Hid (St w4 T9 w11 w4.heap.size (2 * k + 1) [] (one 2 ay cy F)) := H10.out.below hb11
      clear hb11 H10
      go_wp2_with fail
      refine (H11.out.bytesO (by omega) 2 _ (fun r hr => hr) HY.out (by omega) rfl [] (by simp)).mono ?_
      rintro e w12 ⟨rfl, T12, h12⟩
      have H12 : Hid (St w4 T12 w12 w4.heap.size (2 * k + 1 + 1) [] []) := h12
      clear h12 H11
      go_wp2_with fail
      refine (sameTexts_any a a1 cap c1 _ _ ts w12 (HAL.out _ H12.out.base).1 (HAL.out _ H12.out.base).2.1 (by omega) rfl rfl).mono ?_
      rintro e w'' ⟨rfl, d13, rfl⟩
      have H13 : Hid (St w4 T12 (w12.drewN d13) w4.heap.size (2 * k + 1 + 1) [] []) := H12.out.below (below_drewN (Below.refl _ _) _)
      generalize w12.drewN d13 = w13 at *
      clear H12
      go_wp2_with fail
      refine (H13.out.kept.hold).mono ?_
      rintro e w14 ⟨rfl, hb14⟩
      have H14 : Hid (St w4 T12 w14 w4.heap.size (2 * (k + 1)) [] []) := H13.out.below hb14
      clear hb14 H13
      go_wp2_with fail
      go_roundw
      case rel => exact ⟨k + 1, by omega, by go_num, T12, H14.out⟩
      case measure => simp [intOf]; omega
    · have q3 : ¬ (k : Int) < 4 := by omega
      go_wp2_with fail
      refine (make_any a cap ts.length ts b wp (HAL.out _ H0.out.base).1 (HAL.out _ H0.out.base).2.2.2.1 hb (by omega) HS.out rfl).mono ?_
      rintro e w5 ⟨ax, cx, rfl, hnx, hb5⟩
      rw [HF.out] at hnx ⊢
      have HB5 : Hid (Below w4.heap.size w4 w5) := H0.out.base.trans (hb5.mono H0.out.base.size)
      have HX : Hid (IsB w5 ax F) := hnx.isB
      clear hnx hb5
      go_wp2_with fail
      refine (same_any ax a4 cx c4 _ _ F w5 HX.out (HAL.out _ HB5.out).2.2.1 (by omega) rfl rfl).mono ?_
      rintro e w'' ⟨rfl, d7, rfl⟩
      have HB7 : Hid (Below w.heap.size w (w5.drewN d7)) := below_drewN (HAL.out _ HB5.out).2.2.2.2 _
      go_wp2_with fail
      go_ret
      exact ⟨rfl, HB7.out⟩
end BloomFresh
end Go.Proofs.YtjfhhjkggjflfaaGreatDoor
