import Derived.Test.YtbloifnibgdeoaaDKnM
import Derived.WalkKit
import Derived.Lib.SlBytesConst
import Derived.Lib.SmallJoins
import Derived.WalkSpells
import Derived.WalkLawsBesides
namespace Go.Proofs.Ytbloifnibgdeoaa
namespace Dsk
open Go.RowKit Go.Maps Go.Sort Byt Laws
set_option linter.unusedVariables false
set_option maxRecDepth 100000

/-- A disk in a walk: what lay before the walk is as it was. -/
structure Kn (w0 : World) (T : Nat → Nat) (w : World) (d mb : Nat) (fb : Nat → Nat) (m : Dm) : Prop where
  pd : Pd T w d mb fb m
  low : ∀ b, b < w0.heap.size → T b = 0
  below : Below w0.heap.size w0 w
theorem Kn.goes {w0 : World} {T T' : Nat → Nat} {w w' : World} {d mb : Nat} {fb fb' : Nat → Nat} {m m' : Dm} (h : Kn w0 T w d mb fb m) (g : Goes T T' w w') (hp : Pd T' w' d mb fb' m') : Kn w0 T' w' d mb fb' m' :=
  ⟨hp, fun b hb => (g.block b (Nat.lt_of_lt_of_le hb h.below.size) (h.low b hb)).2, h.below.trans ⟨g.os, g.tape, g.output, g.size, fun b hb => (g.block b (Nat.lt_of_lt_of_le hb h.below.size) (h.low b hb)).1⟩⟩
theorem Kn.still {w0 : World} {T : Nat → Nat} {w w' : World} {d mb : Nat} {fb : Nat → Nat} {m : Dm} (h : Kn w0 T w d mb fb m) (hb : Below w.heap.size w w') : Kn w0 T w' d mb fb m := by
  obtain ⟨cv, D, hp⟩ := h.pd
  exact ⟨⟨cv, D, hp.below hb⟩, h.low, h.below.trans (hb.mono h.below.size)⟩
theorem Kn.fresh {w0 : World} {T : Nat → Nat} {w : World} {d mb : Nat} {fb : Nat → Nat} {m : Dm} (h : Kn w0 T w d mb fb m) {b : Nat} (hb : w.heap.size ≤ b) : T b = 0 := by
  obtain ⟨cv, D, hp⟩ := h.pd
  exact hp.fresh b hb
theorem new_kn {w0 w w' : World} {R : Nat} {fs : List Fj} {e : Ending} (hb0 : Below w0.heap.size w0 w) (hb : Below w.heap.size w w') (h : NewAns w R fs e w') (hok : okNew R fs = true) :
    ∃ d mb T fb, e = .returned (.tuple #[.pointer (some ⟨d, 0, none⟩), .int .i64 0]) ∧ Kn w0 T w' d mb fb (newM R fs) := by
  rcases h with ⟨h1, _⟩ | ⟨_, d, mb, T, fb, h1, rfl, h2, h3⟩
  · rw [hok] at h1; cases h1
  · exact ⟨d, mb, T, fb, rfl, h2, fun b hb' => h3 b (Nat.lt_of_lt_of_le hb' hb0.size), hb0.trans (hb.mono hb0.size)⟩
theorem fj_nil (w : World) : FjAt w none [] [] := ⟨rfl, fun j f x hf => by simp at hf⟩
theorem isB_lit (w : World) (t : TypeId) (fr : Nat × Nat) (cs : Array Value) (l : List Nat) (hl : ∀ x ∈ l, x < 256) (hc : ∀ (i x : Nat), l[i]? = some x → cs[i]? = some (.int .u8 (x : Int))) : IsB (w.alloc (.cells cs t fr)) (some ⟨w.heap.size, 0, none⟩) l := by
  refine IsB.some ⟨by simp, fun i x hx => ?_⟩ hl
  rw [Go.Joins.cell_alloc_mark_at w cs t fr _ _ rfl, Nat.zero_add]
  exact hc i x hx
theorem lit3 (a b c : Nat) : ∀ (i x : Nat), [a, b, c][i]? = some x → (#[.int .u8 (a : Int), .int .u8 (b : Int), .int .u8 (c : Int)] : Array Value)[i]? = some (.int .u8 (x : Int))
  | 0, x, h => by simp at h; subst h; rfl
  | 1, x, h => by simp at h; subst h; rfl
  | 2, x, h => by simp at h; subst h; rfl
  | n + 3, x, h => by simp at h
theorem lit2 (a b : Nat) : ∀ (i x : Nat), [a, b][i]? = some x → (#[.int .u8 (a : Int), .int .u8 (b : Int)] : Array Value)[i]? = some (.int .u8 (x : Int))
  | 0, x, h => by simp at h; subst h; rfl
  | 1, x, h => by simp at h; subst h; rfl
  | n + 2, x, h => by simp at h
theorem lit5 (a b c d e : Nat) : ∀ (i x : Nat), [a, b, c, d, e][i]? = some x → (#[.int .u8 (a : Int), .int .u8 (b : Int), .int .u8 (c : Int), .int .u8 (d : Int), .int .u8 (e : Int)] : Array Value)[i]? = some (.int .u8 (x : Int))
  | 0, x, h => by simp at h; subst h; rfl
  | 1, x, h => by simp at h; subst h; rfl
  | 2, x, h => by simp at h; subst h; rfl
  | 3, x, h => by simp at h; subst h; rfl
  | 4, x, h => by simp at h; subst h; rfl
  | n + 5, x, h => by simp at h

set_option maxHeartbeats 4000000 in
theorem known_any (w : World) : Calls Try.prog 8 #[] w fun e w' => e = .returned (.bool true) ∧ Below w.heap.size w w' := by
  have okN0 : okNew ((0 : Nat) : Int) [] = true := by kernel_rfl
  have HNW : Hid (okNew ((0 : Nat) : Int) [] = true) := okN0
  clear okN0
  have hcv := fun (w : World) (C : Array Value) (n c : Nat) => Lib.run_convert_bytes_const (P := Try.prog) w 30 5 C n c Try.underlying30 Try.underlying5
  go_enter Try.func8, Try.ntmps8
  go_wp2_with fail
  refine (new_any 0 (by omega) none 0 [] [] w (fj_nil w) (Nat.le_refl _) (by omega) (by simp)).mono ?_
  rintro e w1 ⟨hb1, hna⟩
  obtain ⟨d, mb, T1, fb1, rfl, hk1⟩ := new_kn (Below.refl _ _) hb1 hna HNW.out
  have K : Hid (Kn w T1 w1 d mb fb1 (newM 0 [])) := hk1
  clear hb1 hna hk1
  go_wp2_with (first | (go_at_call 15; refine (down_any K.out.pd).mono ?_; rintro e w9 ⟨rfl, hw9⟩; have hw8 := hw9.symm; clear hw9; subst hw8; rw [show (newM 0 []).down = false from rfl]))
  refine (create_any K.out.pd nA (by decide) (by decide)).mono ?_
  rintro e w2 ⟨rfl, T2, fb2, hp2, hg2⟩
  rw [kn1_e] at hp2 ⊢
  have K' : Hid (Kn w T2 w2 d mb fb2 (kn1)) := K.out.goes hg2 hp2
  clear K
  have K := K'
  clear K'
  clear hp2 hg2
  go_wp2_with fail
  have hb3 : Below w2.heap.size w2 (w2.alloc (.cells #[.int .u8 120, .int .u8 121, .int .u8 122] 5 (3, 4))) := (Below.refl _ _).alloc (Nat.le_refl _) _
  refine (append_any (K.out.still hb3).pd nA (by decide) (some ⟨w2.heap.size, 0, none⟩) 3 [120, 121, 122] (isB_lit w2 _ _ _ _ (by decide) (lit3 120 121 122)) (by simp) (by decide) (by decide) (fun ad e => by cases e; exact K.out.fresh (Nat.le_refl _)) (by decide)).mono ?_
  rintro e w3 ⟨rfl, T3, hp3, hg3⟩
  rw [kn2_e] at hp3 ⊢
  have K' : Hid (Kn w T3 w3 d mb fb2 (kn2)) := (K.out.still hb3).goes hg3 hp3
  clear K
  have K := K'
  clear K'
  clear hp3 hg3 hb3
  go_wp2_with fail
  refine (sync_any K.out.pd nA (by decide)).mono ?_
  rintro e w4 ⟨rfl, hp4, hg4⟩
  rw [kn3_e] at hp4 ⊢
  have K' : Hid (Kn w T3 w4 d mb fb2 (kn3)) := K.out.goes hg4 hp4
  clear K
  have K := K'
  clear K'
  clear hp4 hg4
  go_wp2_with fail
  have hb5 : Below w4.heap.size w4 (w4.alloc (.cells #[.int .u8 117, .int .u8 118] 5 (2, 3))) := (Below.refl _ _).alloc (Nat.le_refl _) _
  refine (append_any (K.out.still hb5).pd nA (by decide) (some ⟨w4.heap.size, 0, none⟩) 2 [117, 118] (isB_lit w4 _ _ _ _ (by decide) (lit2 117 118)) (by simp) (by decide) (by decide) (fun ad e => by cases e; exact K.out.fresh (Nat.le_refl _)) (by decide)).mono ?_
  rintro e w5 ⟨rfl, T5, hp5, hg5⟩
  rw [kn4_e] at hp5 ⊢
  have K' : Hid (Kn w T5 w5 d mb fb2 (kn4)) := (K.out.still hb5).goes hg5 hp5
  clear K
  have K := K'
  clear K'
  clear hp5 hg5 hb5
  go_wp2_with fail
  refine (files_any K.out.pd).mono ?_
  rintro e w6 ⟨v6, ds6, rfl, hf6, hb6⟩
  rw [kn5_e] at hf6
  have K' : Hid (Kn w T5 w6 d mb fb2 kn4) := K.out.still hb6
  clear K
  have K := K'
  clear K'
  obtain ⟨x6, hx6⟩ : ∃ x, ds6[0]? = some x := ⟨_, List.getElem?_eq_getElem (by rw [hf6.len]; decide)⟩
  obtain ⟨g6, cap6, rfl, q1, q2, c0, c1, c2⟩ := hf6.cells (j := 0) rfl hx6
  have hcv6 := conv_any w6 x6.1 x6.2 _ _ (hf6.data 0 _ x6 rfl hx6).1.isB rfl (hf6.data 0 _ x6 rfl hx6).1.cap
  rw [show ofB [120, 121, 122, 117, 118] = (⟨#[120, 121, 122, 117, 118]⟩ : ByteArray) from rfl] at hcv6
  simp only [nA, List.length_cons, List.length_nil] at c0 c1 c2 q1 hcv6 ⊢
  clear hf6 hx6 hb6
  go_wp2_with fail
  refine (image_any K.out.pd 0 none 0 [] (fun j x h => by simp at h) (Nat.le_refl _) (by omega) (by simp) (by decide) (by decide)).mono ?_
  rintro e w7 ⟨v7, ds7, rfl, hf7, hb7⟩
  rw [kn6_e] at hf7
  have K' : Hid (Kn w T5 w7 d mb fb2 kn4) := K.out.still hb7
  clear K
  have K := K'
  clear K'
  obtain ⟨a7, c7, rfl⟩ := own_slice hf7.row
  simp only [List.length_nil]
  clear hf7 hb7 c0 c1 c2 q1 q2 hcv6
  go_wp2_with fail
  have hb8 : Below w7.heap.size w7 (w7.alloc (.cells #[.int .i64 1] 3)) := (Below.refl _ _).alloc (Nat.le_refl _) _
  refine (image_any (K.out.still hb8).pd 1 (some ⟨w7.heap.size, 0, none⟩) 1 [1] (fun j x h => by
    cases j with
    | zero => simp at h; subst h; exact ⟨w7.heap.size, 0, rfl, by rw [World.cell?_alloc_at _ _ _ _ rfl]; rfl⟩
    | succ j => simp at h) (Nat.le_refl _) (by omega) (by simp) (by decide) (by decide)).mono ?_
  rintro e w9 ⟨v9, ds9, rfl, hf9, hb9⟩
  rw [kn7_e] at hf9
  have K' : Hid (Kn w T5 w9 d mb fb2 kn4) := (K.out.still hb8).still hb9
  clear K
  have K := K'
  clear K'
  obtain ⟨x9, hx9⟩ : ∃ x, ds9[0]? = some x := ⟨_, List.getElem?_eq_getElem (by rw [hf9.len]; decide)⟩
  obtain ⟨g9, cap9, rfl, q1, q2, c0, c1, c2⟩ := hf9.cells (j := 0) rfl hx9
  have hcv9 := conv_any w9 x9.1 x9.2 _ _ (hf9.data 0 _ x9 rfl hx9).1.isB rfl (hf9.data 0 _ x9 rfl hx9).1.cap
  rw [show ofB [120, 121, 122, 117] = (⟨#[120, 121, 122, 117]⟩ : ByteArray) from rfl] at hcv9
  simp only [nA, List.length_cons, List.length_nil] at c0 c1 c2 q1 hcv9 ⊢
  have BK : Hid (Below w.heap.size w w9) := K.out.below
  clear hf9 hx9 hb9 hb8 K
  go_wp2_with fail
  refine (new_any 0 (by omega) none 0 [] [] w9 (fj_nil w9) (Nat.le_refl _) (by omega) (by simp)).mono ?_
  rintro e w10 ⟨hb10, hna⟩
  obtain ⟨d2, mb2, U1, gb1, rfl, hk10⟩ := new_kn BK.out hb10 hna HNW.out
  have K : Hid (Kn w U1 w10 d2 mb2 gb1 (newM 0 [])) := hk10
  clear hb10 hna hk10 c0 c1 c2 q1 q2 hcv9
  go_wp2_with fail
  refine (fail_any K.out.pd 1 2 2 (by omega) (by omega) (by omega)).mono ?_
  rintro e w11 ⟨rfl, hp11, hg11⟩
  have K' : Hid (Kn w U1 w11 d2 mb2 gb1 kq0) := K.out.goes hg11 hp11
  clear K
  have K := K'
  clear K' hp11 hg11
  go_wp2_with fail
  refine (create_any K.out.pd nX (by decide) (by decide)).mono ?_
  rintro e w12 ⟨rfl, U2, gb2, hp12, hg12⟩
  rw [kq1_e] at hp12 ⊢
  have K' : Hid (Kn w U2 w12 d2 mb2 gb2 kq1) := K.out.goes hg12 hp12
  clear K
  have K := K'
  clear K' hp12 hg12
  go_wp2_with fail
  have hb13 : Below w12.heap.size w12 (w12.alloc (.cells #[.int .u8 49, .int .u8 50, .int .u8 51, .int .u8 52, .int .u8 53] 5 (5, 6))) := (Below.refl _ _).alloc (Nat.le_refl _) _
  refine (append_any (K.out.still hb13).pd nX (by decide) (some ⟨w12.heap.size, 0, none⟩) 5 [49, 50, 51, 52, 53] (isB_lit w12 _ _ _ _ (by decide) (lit5 49 50 51 52 53)) (by simp) (by decide) (by decide) (fun ad e => by cases e; exact K.out.fresh (Nat.le_refl _)) (by decide)).mono ?_
  rintro e w13 ⟨rfl, U3, hp13, hg13⟩
  rw [kq2_e] at hp13 ⊢
  have K' : Hid (Kn w U3 w13 d2 mb2 gb2 kq2) := (K.out.still hb13).goes hg13 hp13
  clear K
  have K := K'
  clear K' hp13 hg13 hb13
  go_wp2_with fail
  refine (delete_any K.out.pd nY (by decide) (by decide) (by decide)).mono ?_
  rintro e w14 ⟨rfl, U4, hp14, hg14⟩
  rw [kq3_e] at hp14 ⊢
  have K' : Hid (Kn w U4 w14 d2 mb2 gb2 kq3) := K.out.goes hg14 hp14
  clear K
  have K := K'
  clear K' hp14 hg14
  go_wp2_with fail
  refine (delete_any K.out.pd nY (by decide) (by decide) (by decide)).mono ?_
  rintro e w15 ⟨rfl, U5, hp15, hg15⟩
  rw [kq4_e] at hp15 ⊢
  have K' : Hid (Kn w U5 w15 d2 mb2 gb2 kq4) := K.out.goes hg15 hp15
  clear K
  have K := K'
  clear K' hp15 hg15
  go_wp2_with fail
  refine (read_any K.out.pd nX (by decide)).mono ?_
  rintro e w16 ⟨a16, c16, rfl, hn16, hb16⟩
  rw [kq5_e] at hn16 ⊢
  have hcv16 := conv_any w16 a16 c16 _ _ hn16.isB rfl hn16.cap
  rw [show ofB [49, 50] = (⟨#[49, 50]⟩ : ByteArray) from rfl] at hcv16
  simp only [List.length_cons, List.length_nil] at hcv16 ⊢
  have BF : Hid (Below w.heap.size w w16) := K.out.below.trans (hb16.mono K.out.below.size)
  clear hn16 hb16
  go_wp2
  go_ret
  exact ⟨rfl, BF.out⟩
end Dsk
end Go.Proofs.Ytbloifnibgdeoaa
