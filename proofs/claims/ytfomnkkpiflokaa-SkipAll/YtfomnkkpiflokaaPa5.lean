import Derived.Test.YtfomnkkpiflokaaPa4
import Derived.Deep.RegionLaw
namespace Go.Proofs.Ytfomnkkpiflokaa
namespace Sk
open Go.RowKit Laws Irw Erw KMath Skm Byt
set_option linter.unusedVariables false
set_option maxRecDepth 100000
set_option linter.unusedSimpArgs false

/-- a kept iterator gone through to its end, in any later world -/
theorem taken_at {t u : Nat} {T : Nat → Nat} {w : World} {L R : Nat} {ds : List Nat} {ns : List Nd} {bs : List Nat} (h : Pr t u T w L R ds ns bs) (hlen : ns.length ≤ 2932031007402) {Bl Bk Bs : Nat} {k : ByteArray} {s : Int}
    (h1 : w.cell? ⟨Bl, 0, none⟩ = some (.pointer (some ⟨L, 0, none⟩))) (h2 : w.cell? ⟨Bk, 0, none⟩ = some (.string k)) (h3 : w.cell? ⟨Bs, 0, none⟩ = some (.int .u64 s)) {al : List En} {K : Nat} (hal : (esN ns).drop (plc k s (esN ns)) = al) (hK : al.length = K) :
    Calls Try.prog 18 #[.func (.func 46) #[] #[.pointer (some ⟨Bl, 0, none⟩), .pointer (some ⟨Bk, 0, none⟩), .pointer (some ⟨Bs, 0, none⟩)], .int .i64 (-1)] w fun e w' => ∃ a c, e = .returned (.tuple #[.slice a K c, .bool true]) ∧ IsE w' a al ∧ Below w.heap.size w w' := by
  obtain ⟨pre, post, hwk⟩ := Wk.of h.sl k s
  have hpo : post.map Nd.e = al := by rw [post_of hwk, ← hal, drop_from]
  have := taken_all Bl Bk Bs L k s ns pre post w hwk h1 h2 h3 hlen
  have hpl : post.length = K := by rw [← hK, ← hpo, List.length_map]
  rw [hpo, hpl] at this
  exact this.mono fun e w' ⟨a, c, h1, h2, _, h4⟩ => ⟨a, c, h1, h2, h4⟩
theorem refFrom_at {t u : Nat} {T : Nat → Nat} {w : World} {L R : Nat} {ds : List Nat} {ns : List Nd} {bs : List Nat} (h : Pr t u T w L R ds ns bs) (hlen : ns.length ≤ 2932031007402) {k : ByteArray} {s : Int} {al : List En} {K : Nat} (hal : (esN ns).drop (plc k s (esN ns)) = al) (hK : al.length = K) :
    Calls Try.prog 49 #[.pointer (some ⟨R, 0, none⟩), .string k, .int .u64 s] w fun e w' => ∃ a c, e = .returned (.slice a K c) ∧ IsE w' a al ∧ Below w.heap.size w w' := by
  have := refFrom_any w R ds (esN ns) (hsN ns) bs h.rl (by rw [esN_len]; exact hlen) k s
  have e1 : (esN ns).length - plc k s (esN ns) = K := by rw [← hK, ← hal, List.length_drop]
  rw [hal, e1] at this
  exact this.mono fun e w' ⟨a, c, h1, h2, _, _, h4⟩ => ⟨a, c, h1, h2, h4⟩
theorem drop_le {ns : List Nd} {k : ByteArray} {s : Int} {al : List En} {K : Nat} (hal : (esN ns).drop (plc k s (esN ns)) = al) (hK : al.length = K) (hlen : ns.length ≤ 2932031007401) : K ≤ 2932031007401 := by
  have h1 : al.length ≤ (esN ns).length := by rw [← hal, List.length_drop]; omega
  rw [esN_len] at h1
  omega

set_option maxHeartbeats 4000000 in
theorem now_any (t u : Nat) (T : Nat → Nat) (w : World) (L R : Nat) (ds : List Nat) (ns : List Nd) (bs : List Nat) (h : Pr t u T w L R ds ns bs) (hlen : ns.length ≤ 2932031007401) (Bl Bk Bs : Nat) (x : En)
    (h1 : w.cell? ⟨Bl, 0, none⟩ = some (.pointer (some ⟨L, 0, none⟩))) (h2 : w.cell? ⟨Bk, 0, none⟩ = some (.string x.1)) (h3 : w.cell? ⟨Bs, 0, none⟩ = some (.int .u64 x.2.1)) :
    Calls Try.prog 14 #[.agg #[.func (.func 46) #[] #[.pointer (some ⟨Bl, 0, none⟩), .pointer (some ⟨Bk, 0, none⟩), .pointer (some ⟨Bs, 0, none⟩)], .pointer (some ⟨L, 0, none⟩), .pointer (some ⟨R, 0, none⟩), .string x.1, .int .u64 x.2.1, .bool x.2.2.1, .string x.2.2.2]] w fun e w' => e = .returned (.bool true) ∧ Below w.heap.size w w' := by
  obtain ⟨xk, xs, xd, xv⟩ := x
  dsimp only at h2 h3 ⊢
  have HP : Hid (Pr t u T w L R ds ns bs ∧ ns.length ≤ 2932031007401) := ⟨h, hlen⟩
  have HC : Hid (w.cell? ⟨Bl, 0, none⟩ = some (.pointer (some ⟨L, 0, none⟩)) ∧ w.cell? ⟨Bk, 0, none⟩ = some (.string xk) ∧ w.cell? ⟨Bs, 0, none⟩ = some (.int .u64 xs)) := ⟨h1, h2, h3⟩
  obtain ⟨al, hal⟩ : ∃ al, (esN ns).drop (plc xk xs (esN ns)) = al := ⟨_, rfl⟩
  obtain ⟨K, hK⟩ : ∃ K, al.length = K := ⟨_, rfl⟩
  have HAL : Hid ((esN ns).drop (plc xk xs (esN ns)) = al ∧ al.length = K ∧ K ≤ 2932031007402) := ⟨hal, hK, by have := drop_le hal hK hlen; omega⟩
  clear h h1 h2 h3 hlen hal hK
  generalize hfv : (Value.func (.func 46) #[] #[.pointer (some ⟨Bl, 0, none⟩), .pointer (some ⟨Bk, 0, none⟩), .pointer (some ⟨Bs, 0, none⟩)]) = fv
  have HFV : Hid ((Value.func (.func 46) #[] #[.pointer (some ⟨Bl, 0, none⟩), .pointer (some ⟨Bk, 0, none⟩), .pointer (some ⟨Bs, 0, none⟩)]) = fv) := hfv
  clear hfv
  have hb1 : Below w.heap.size w (w.alloc (.cells #[fv, .pointer (some ⟨L, 0, none⟩), .pointer (some ⟨R, 0, none⟩), .string xk, .int .u64 xs, .bool xd, .string xv] 61)) := (Below.refl _ _).alloc (Nat.le_refl _) _
  have g1 : (w.alloc (.cells #[fv, .pointer (some ⟨L, 0, none⟩), .pointer (some ⟨R, 0, none⟩), .string xk, .int .u64 xs, .bool xd, .string xv] 61)).heap[w.heap.size]? = some (.cells #[fv, .pointer (some ⟨L, 0, none⟩), .pointer (some ⟨R, 0, none⟩), .string xk, .int .u64 xs, .bool xd, .string xv] 61) := World.alloc_heap_new _ _
  go_enter Try.func14, Try.ntmps14
  go_upto_region 1 with (fail)
  generalize w.alloc (.cells #[fv, .pointer (some ⟨L, 0, none⟩), .pointer (some ⟨R, 0, none⟩), .string xk, .int .u64 xs, .bool xd, .string xv] 61) = W1 at *
  have HB1 : Hid (Below w.heap.size w W1) := hb1
  have HBX : Hid (∀ W, Below W1.heap.size W1 W → W.cell? ⟨w.heap.size, 2, none⟩ = some (.pointer (some ⟨R, 0, none⟩)) ∧ W.cell? ⟨w.heap.size, 3, none⟩ = some (.string xk) ∧ W.cell? ⟨w.heap.size, 4, none⟩ = some (.int .u64 xs)) := fun W hW => by
    have k1 := (hW.block _ (Array.getElem?_eq_some_iff.1 g1).1).trans g1
    exact ⟨by rw [cell_of_obj k1]; rfl, by rw [cell_of_obj k1]; rfl, by rw [cell_of_obj k1]; rfl⟩
  have c0 : W1.cell? ⟨w.heap.size, 0, none⟩ = some fv := by rw [cell_of_obj g1]; rfl
  have HTA : Hid (Calls Try.prog 18 #[fv, .int .i64 (-1)] W1 fun e w' => ∃ a c, e = .returned (.tuple #[.slice a K c, .bool true]) ∧ IsE w' a al ∧ Below W1.heap.size W1 w') := by
    rw [← HFV.out]
    exact taken_at (HP.out.1.below hb1) (by have := HP.out.2; omega) (Und.cell HC.out.1 ⟨W1, hb1⟩) (Und.cell HC.out.2.1 ⟨W1, hb1⟩) (Und.cell HC.out.2.2 ⟨W1, hb1⟩) HAL.out.1 HAL.out.2.1
  clear hb1 g1
  generalize hBE : w.heap.size = B at *
  have HBE : Hid (w.heap.size = B) := hBE
  clear hBE
  go_wp2_with fail
  refine Calls.mono HTA.out ?_
  rintro e w2 ⟨a2, c2, rfl, hi2, hb2⟩
  have HI2 : Hid (IsE w2 a2 al) := hi2
  have HB2 : Hid (Below W1.heap.size W1 w2) := hb2
  clear hi2 hb2 c0 HTA
  obtain ⟨p2, p3, p4⟩ := HBX.out w2 HB2.out
  have HRF : Hid (Calls Try.prog 49 #[.pointer (some ⟨R, 0, none⟩), .string xk, .int .u64 xs] w2 fun e w' => ∃ a c, e = .returned (.slice a K c) ∧ IsE w' a al ∧ Below w2.heap.size w2 w') := refFrom_at ((HP.out.1.below (by rw [HBE.out]; exact HB1.out)).below HB2.out) (by have := HP.out.2; omega) HAL.out.1 HAL.out.2.1
  go_wp2_with fail
  refine Calls.mono HRF.out ?_
  rintro e w3 ⟨a3, c3, rfl, hi3, hb3⟩
  have HSE : Hid (Calls Try.prog 23 #[.slice a2 K c2, .slice a3 K c3] w3 fun e w' => e = .returned (.bool true) ∧ ∃ n, w' = w3.drewN n) := sameEntries_true a2 a3 c2 c3 K al w3 (HI2.out.below hb3) hi3 HAL.out.2.1 HAL.out.2.2
  have HB3 : Hid (Below B w w3) := HB1.out.trans ((keepB hb3 HB2.out).mono (by rw [← HBE.out]; exact HB1.out.size))
  clear hi3 hb3 HRF p2 p3 p4
  go_wp2_with fail
  refine HSE.out.mono ?_
  rintro e w4 ⟨rfl, n4, hw4⟩
  have HB4 : Hid (Below w.heap.size w w4) := by rw [hw4, HBE.out]; exact below_drewN HB3.out _
  clear hw4
  go_wp2
  go_ret
  exact ⟨rfl, HB4.out⟩

set_option maxHeartbeats 4000000 in
theorem holds_any (t u : Nat) (T : Nat → Nat) (w : World) (L R : Nat) (ds : List Nat) (ns : List Nd) (bs : List Nat) (h : Pr t u T w L R ds ns bs) (hlen : ns.length ≤ 2932031007401) :
    Calls Try.prog 15 #[.agg #[.pointer (some ⟨L, 0, none⟩), .pointer (some ⟨R, 0, none⟩)]] w fun e w' => e = .returned (.bool true) ∧ Below w.heap.size w w' := by
  have HP : Hid (Pr t u T w L R ds ns bs ∧ ns.length ≤ 2932031007401) := ⟨h, hlen⟩
  obtain ⟨al, hal⟩ : ∃ al, (esN ns).drop (plc ⟨#[]⟩ 18446744073709551615 (esN ns)) = al := ⟨_, rfl⟩
  obtain ⟨K, hK⟩ : ∃ K, al.length = K := ⟨_, rfl⟩
  have HAL : Hid ((esN ns).drop (plc ⟨#[]⟩ 18446744073709551615 (esN ns)) = al ∧ al.length = K ∧ K ≤ 2932031007402) := ⟨hal, hK, by have := drop_le hal hK hlen; omega⟩
  obtain ⟨NL, hNL⟩ : ∃ NL, ns.length = NL := ⟨_, rfl⟩
  have HNL : Hid (ns.length = NL ∧ (hsN ns).length = NL ∧ NL ≤ 1000000000000000) := ⟨hNL, by rw [hsN_len]; exact hNL, by omega⟩
  have hb1 : Below w.heap.size w (w.alloc (.cells #[.pointer (some ⟨L, 0, none⟩), .pointer (some ⟨R, 0, none⟩)] 48)) := (Below.refl _ _).alloc (Nat.le_refl _) _
  have g1 : (w.alloc (.cells #[.pointer (some ⟨L, 0, none⟩), .pointer (some ⟨R, 0, none⟩)] 48)).heap[w.heap.size]? = some (.cells #[.pointer (some ⟨L, 0, none⟩), .pointer (some ⟨R, 0, none⟩)] 48) := World.alloc_heap_new _ _
  have HL1 : Hid (∀ W, Below w.heap.size w W → Calls Try.prog 19 #[.pointer (some ⟨L, 0, none⟩)] W fun e w' => e = .returned (.int .i64 (NL : Int)) ∧ w' = W) := fun W hW => by
    have := len_any t T W L ds ns (HP.out.1.below hW).sl
    rw [hNL] at this
    exact this
  have HL2 : Hid (∀ W, Below w.heap.size w W → Calls Try.prog 43 #[.pointer (some ⟨R, 0, none⟩)] W fun e w' => e = .returned (.int .i64 (NL : Int)) ∧ w' = W) := fun W hW => by
    have := refLen_any W R ds (esN ns) (hsN ns) bs (HP.out.1.below hW).rl
    rw [esN_len, hNL] at this
    exact this
  have HT1 : Hid (∀ W, Below w.heap.size w W → Calls Try.prog 22 #[.pointer (some ⟨L, 0, none⟩)] W fun e w' => ∃ g, e = .returned (.slice (some ⟨g, 0, none⟩) NL NL) ∧ Below W.heap.size W w' ∧ IRow w' g 0 (hsN ns)) := fun W hW => towers_any (HP.out.1.below hW).sl hNL (by omega)
  have HT2 : Hid (∀ W, Below w.heap.size w W → Calls Try.prog 45 #[.pointer (some ⟨R, 0, none⟩)] W fun e w' => ∃ a c, e = .returned (.slice a NL c) ∧ IsI w' a (hsN ns) ∧ Below W.heap.size W w') := fun W hW => by
    have := refTowers_any W R ds (esN ns) (hsN ns) bs (HP.out.1.below hW).rl (by rw [esN_len]; omega)
    rw [HNL.out.2.1] at this
    exact this
  clear h hlen hal hK hNL
  go_enter Try.func15, Try.ntmps15
  go_upto_region 1 with (fail)
  generalize w.alloc (.cells #[.pointer (some ⟨L, 0, none⟩), .pointer (some ⟨R, 0, none⟩)] 48) = W1 at *
  have HB1 : Hid (Below w.heap.size w W1) := hb1
  have HBX : Hid (∀ W, Below W1.heap.size W1 W → W.cell? ⟨w.heap.size, 0, none⟩ = some (.pointer (some ⟨L, 0, none⟩)) ∧ W.cell? ⟨w.heap.size, 1, none⟩ = some (.pointer (some ⟨R, 0, none⟩))) := fun W hW => by
    have k1 := (hW.block _ (Array.getElem?_eq_some_iff.1 g1).1).trans g1
    exact ⟨by rw [cell_of_obj k1]; rfl, by rw [cell_of_obj k1]; rfl⟩
  clear hb1 g1
  obtain ⟨p0, p1⟩ := HBX.out W1 (Below.refl _ _)
  go_wp2_with fail
  refine (from_any L ⟨#[]⟩ 18446744073709551615 W1).mono ?_
  rintro e w2 ⟨rfl, hw2⟩
  have hb2 : Below W1.heap.size W1 w2 := by rw [hw2]; exact (((Below.refl _ _).alloc (Nat.le_refl _) _).alloc (by simp) _).alloc (by simp; omega) _
  have k1 : w2.cell? ⟨W1.heap.size, 0, none⟩ = some (.pointer (some ⟨L, 0, none⟩)) := by
    rw [hw2, World.cell?_of_block (Below.heap_alloc _ _ _ (by simp <;> omega)), World.cell?_of_block (Below.heap_alloc _ _ _ (by simp <;> omega)), World.cell?_alloc_at _ _ _ _ rfl]; rfl
  have k2 : w2.cell? ⟨W1.heap.size + 1, 0, none⟩ = some (.string ⟨#[]⟩) := by
    rw [hw2, World.cell?_of_block (Below.heap_alloc _ _ _ (by simp <;> omega)), World.cell?_alloc_at _ _ _ _ (by simp)]; rfl
  have k3 : w2.cell? ⟨W1.heap.size + 2, 0, none⟩ = some (.int .u64 18446744073709551615) := by
    rw [hw2, World.cell?_alloc_at _ _ _ _ (by simp)]; rfl
  have HTA : Hid _ := taken_at ((HP.out.1.below HB1.out).below hb2) (by have := HP.out.2; omega) k1 k2 k3 HAL.out.1 HAL.out.2.1
  have HB2 : Hid (Below W1.heap.size W1 w2) := hb2
  clear hw2 hb2 k1 k2 k3 p0 p1
  go_wp2_with fail
  refine Calls.mono HTA.out ?_
  rintro e w3 ⟨a3, c3, rfl, hi3, hb3⟩
  have HI3 : Hid (IsE w3 a3 al) := hi3
  have HB3 : Hid (Below W1.heap.size W1 w3) := keepB hb3 HB2.out
  have HW3 : Hid (Below w.heap.size w w3) := keepB HB3.out HB1.out
  have HRF : Hid (∀ W, Below w3.heap.size w3 W → Calls Try.prog 49 #[.pointer (some ⟨R, 0, none⟩), .string ⟨#[]⟩, .int .u64 18446744073709551615] W fun e w' => ∃ a c, e = .returned (.slice a K c) ∧ IsE w' a al ∧ Below W.heap.size W w') := fun W hW => refFrom_at ((HP.out.1.below HW3.out).below hW) (by have := HP.out.2; omega) HAL.out.1 HAL.out.2.1
  clear hi3 hb3 HTA HB2
  obtain ⟨p0, p1⟩ := HBX.out w3 HB3.out
  go_wp2
  go_region_law (first
    | (go_simp; go_at_call 49; go_loud (refine (HRF.out _ (Below.refl _ _).drew).mono ?_; rintro e w4 ⟨a4, c4, rfl, hi4, hb4⟩; have HI4 := HID5 hi4; have HB4 := HID5 ((Below.refl w3.heap.size w3).drew.trans hb4); clear hi4 hb4))
    | (go_simp; go_at_call 23; go_loud (refine (sameEntries_true a3 a4 c3 c4 K al w4 (HI3.out.below HB4.out) HI4.out HAL.out.2.1 HAL.out.2.2).mono ?_; rintro e w5 ⟨rfl, n5, hw5⟩; have HB5 : Hid (Below w3.heap.size w3 w5) := (by rw [hw5]; exact below_drewN HB4.out _); obtain ⟨q0, q1⟩ := HBX.out w5 (keepB HB5.out HB3.out); clear hw5))
    | (go_simp; go_at_call 19; go_loud (refine (HL1.out w5 (keepB HB5.out HW3.out)).mono ?_; rintro e w6 ⟨rfl, hw6⟩; have hw7 := hw6.symm; clear hw6; subst hw7))
    | (go_simp; go_at_call 43; go_loud (refine (HL2.out w5 (keepB HB5.out HW3.out)).mono ?_; rintro e w6 ⟨rfl, hw6⟩; have hw7 := hw6.symm; clear hw6; subst hw7))
    | (go_simp; go_at_call 22; go_loud (refine (HT1.out w5 (keepB HB5.out HW3.out)).mono ?_; rintro e w6 ⟨g6, rfl, hb6, hg6⟩; have HG6 := HID5 hg6; have HB6 := HID5 (keepB hb6 HB5.out); obtain ⟨r0, r1⟩ := HBX.out w6 (keepB HB6.out HB3.out); clear hg6 hb6))
    | (go_simp; go_at_call 45; go_loud (refine (HT2.out w6 (keepB HB6.out HW3.out)).mono ?_; rintro e w7 ⟨a7, c7, rfl, hi7, hb7⟩; have HI7 := HID5 hi7; have HB7 := HID5 hb7; clear hi7 hb7))
    | (go_simp; go_at_call 44; go_loud (refine (sameInts_true2 _ a7 NL c7 NL (hsN ns) w7 ((IsI.of HG6.out).below HB7.out) HI7.out HNL.out.2.1 HNL.out.2.2).mono ?_; rintro e w8 ⟨rfl, n8, hw8⟩; have HB8 : Hid (Below w.heap.size w w8) := (by rw [hw8]; exact below_drewN (keepB HB7.out (keepB HB6.out HW3.out)) _); clear hw8)))
  all_goals (
    go_wp2
    go_ret
    exact ⟨rfl, HB8.out⟩)
end Sk
end Go.Proofs.Ytfomnkkpiflokaa
