import Derived.Test.YtecgecolghgjoaaUs9
import Derived.Sort.LotD1
import Derived.Sort.LotD5
import Derived.Laws.Bits64
import Derived.Laws.Bits64b
import Derived.Shelf.Lay
import Derived.Shelf.Small.Bits
import Derived.Ground.NamesProg
namespace Go.Proofs.Ytecgecolghgjoaa
namespace Us
open Go.Shelf Go.RowKit Go.Sort
set_option linter.unusedVariables false
set_option linter.unusedSimpArgs false
set_option maxRecDepth 100000
shelf_lay Lays.n125 Nm 125 at Try as lenU
theorem len_is (x : Nat) (h : x < 2 ^ 64) : Lib.bitLen x = bitsLen x := by
  induction x using Nat.strongRecOn with
  | _ x ih =>
    by_cases h0 : x = 0
    · rw [h0]; rfl
    · have hh := ih (x / 2) (by omega) (by omega)
      rw [Lib.bitLen_half x h0 h, hh]
      unfold bitsLen
      by_cases h2 : 2 ≤ x
      · rw [if_neg h0, if_neg (show ¬ x / 2 = 0 by omega), Nat.log2_def x, if_pos h2]
        omega
      · have e1 : x = 1 := by omega
        rw [e1]; decide
theorem len_any (n : Nat) (hn : n < 4611686018427387904) (w : World) : Calls Try.prog 55 #[.int .u64 (n : Int)] w fun e w' => e = .returned (.int .i64 (bitsLen n : Nat)) ∧ w' = w := by
  have h := Any.bits_Len lenU (n : Int) w (by omega) (by omega)
  rw [Int.toNat_natCast, len_is n (by omega)] at h
  exact h
theorem pow_wrap (k : Nat) (hk : k ≤ 62) : IntKind.u64.wrap ((2 : Int) ^ k) = ((1 <<< k : Nat) : Int) := by
  have h : (2 : Nat) ^ k ≤ 2 ^ 62 := Nat.pow_le_pow_right (by decide) hk
  rw [IntKind.wrap_u64, Nat.one_shiftLeft, show ((2 : Int) ^ k) = ((2 ^ k : Nat) : Int) by push_cast; rfl]
  generalize (2 : Nat) ^ k = p at h
  omega
theorem power_any (n : Nat) (hn : n < 4611686018427387904) (w : World) :
    Calls Try.prog 82 #[.int .i64 n] w fun e w' => e = .returned (.int .u64 ((1 <<< bitsLen n : Nat) : Int)) ∧ w' = w := by
  have hk : bitsLen n ≤ 62 := (bitsLen_le_iff n 62).2 (by omega)
  have hp := pow_wrap (bitsLen n) hk
  have HL := fun w => len_any n hn w
  go_enter Try.func82, Try.ntmps82
  go_wp2_with (go_at_call 55; refine (HL _).mono ?_; rintro e w' ⟨rfl, hw⟩; have hw2 := hw.symm; clear hw; subst hw2)
  go_ret
  exact ⟨rfl, rfl⟩
theorem set_set (w : World) (blk off : Nat) (v v' : Value) : (w.setCell ⟨blk, off, none⟩ v).setCell ⟨blk, off, none⟩ v' = w.setCell ⟨blk, off, none⟩ v' := by
  rw [setCell_eq, setCell_eq, mapBlock_mapBlock, setCell_eq]
  congr 1
  funext c
  simp
set_option maxHeartbeats 1000000 in
theorem next_any (rb ro X : Nat) (hX : X < 18446744073709551616) (w : World) (hc : w.cell? ⟨rb, ro, none⟩ = some (.int .u64 X)) (hf : w.frozen? ⟨rb, ro, none⟩ = false) :
    Calls Try.prog 83 #[.pointer (some ⟨rb, ro, none⟩)] w fun e w' => e = .returned (.int .u64 (xorNextN X : Nat)) ∧ w' = (w.setCell ⟨rb, ro, none⟩ (.int .u64 (xorNextN X : Nat))).drewN 3 := by
  obtain ⟨A, hA⟩ : ∃ A : Nat, A = X ^^^ (X * 8192 % 18446744073709551616) := ⟨_, rfl⟩
  obtain ⟨B, hB⟩ : ∃ B : Nat, B = A ^^^ (A / 128) := ⟨_, rfl⟩
  obtain ⟨C, hC⟩ : ∃ C : Nat, C = B ^^^ (B * 131072 % 18446744073709551616) := ⟨_, rfl⟩
  have lA : A < 18446744073709551616 := by rw [hA]; exact Nat.xor_lt_two_pow (n := 64) (by omega) (by omega)
  have lB : B < 18446744073709551616 := by rw [hB]; exact Nat.xor_lt_two_pow (n := 64) (by omega) (by omega)
  have e1 : bits .xor .u64 (X : Int) (IntKind.u64.wrap ((X : Int) * 8192)) = (A : Int) := by
    rw [IntKind.wrap_u64, show ((X : Int) * 8192 % 18446744073709551616) = ((X * 8192 % 18446744073709551616 : Nat) : Int) by omega, bits_xor_u64_nat _ _ hX (by omega), hA]
  have e2 : bits .xor .u64 (A : Int) ((A : Int) / 128) = (B : Int) := by
    rw [show ((A : Int) / 128) = ((A / 128 : Nat) : Int) by omega, bits_xor_u64_nat _ _ lA (by omega), hB]
  have e3 : bits .xor .u64 (B : Int) (IntKind.u64.wrap ((B : Int) * 131072)) = (C : Int) := by
    rw [IntKind.wrap_u64, show ((B : Int) * 131072 % 18446744073709551616) = ((B * 131072 % 18446744073709551616 : Nat) : Int) by omega, bits_xor_u64_nat _ _ lB (by omega), hC]
  have hv : xorNextN X = C := by unfold xorNextN; simp only []; rw [← hA, ← hB, ← hC]
  rw [hv]
  clear hA hB hC hv
  have hss : ∀ v v', (w.setCell ⟨rb, ro, none⟩ v).setCell ⟨rb, ro, none⟩ v' = w.setCell ⟨rb, ro, none⟩ v' := set_set w rb ro
  go_enter Try.func83, Try.ntmps83
  go_wp2
  go_region
  all_goals go_wp2
  all_goals go_region
  all_goals go_wp2
  all_goals go_region
  all_goals go_wp2
  go_ret
  exact ⟨rfl, rfl⟩
/-- so many rounds are left; t have been made -/
def brest (a L M i0 : Nat) : Nat → Nat → UInt64 × Array Int → Array Int
  | 0, _, st => st.2
  | k + 1, t, st => brest a L M i0 k (t + 1) (breakStep a L M st (i0 + t))
theorem break_is (d : Array Int) (a L : Nat) (h8 : 8 ≤ L) : breakPatterns d a (a + L) = brest a L (1 <<< bitsLen L) (a + L / 4 * 2 - 1) 3 0 (UInt64.ofNat L, d) := by
  unfold breakPatterns
  simp only [Nat.add_sub_cancel_left]
  rw [if_pos h8]
  rfl
theorem brest_step (a L M i0 t : Nat) (r : UInt64) (d : Array Int) (o : Nat) (ht : t < 3) (ho : (if (xorNext r).toNat &&& (M - 1) ≥ L then ((xorNext r).toNat &&& (M - 1)) - L else (xorNext r).toNat &&& (M - 1)) = o) :
    brest a L M i0 (3 - t) t (r, d) = brest a L M i0 (3 - (t + 1)) (t + 1) (xorNext r, swp d (i0 + t) (a + o)) := by
  rw [show 3 - t = (3 - (t + 1)) + 1 by omega, brest]
  unfold breakStep
  simp only [ho]
/-- the generator's cell lies in a block of its own -/
structure Rg (w : World) (blk off : Nat) (d : Array Int) (rb : Nat) (r : UInt64) (W : World) : Prop where
  at_ : At w blk off d W
  cell : W.cell? ⟨rb, 0, none⟩ = some (.int .u64 (r.toNat : Int))
  froz : W.frozen? ⟨rb, 0, none⟩ = false
theorem Rg.first {w : World} {blk off : Nat} {d : Array Int} (h : Row w blk off d) (t : TypeId) (L : Nat) (hL : L < 18446744073709551616) : Rg w blk off d w.heap.size (UInt64.ofNat L) (w.alloc (Obj.cells #[.int .u64 (L : Int)] t)) := by
  have e : (w.alloc (Obj.cells #[.int .u64 (L : Int)] t)).heap[w.heap.size]? = some (Obj.cells #[.int .u64 (L : Int)] t) := by
    show (w.heap.push (Obj.cells #[.int .u64 (L : Int)] t))[w.heap.size]? = _
    exact Array.getElem?_push_size
  refine ⟨(At.start h).alloc _, ?_, ?_⟩
  · unfold World.cell?; rw [e, show (UInt64.ofNat L).toNat = L from by simp; omega]; rfl
  · unfold World.frozen?; rw [e]; rfl
theorem Rg.step {w W : World} {blk off : Nat} {d : Array Int} {r r' : UInt64} {rb : Nat} (h : Rg w blk off d rb r W) (h0 : blk < w.heap.size) (hrb : w.heap.size ≤ rb) (q i j : Nat) (hi : i < d.size) (hj : j < d.size) :
    Rg w blk off (swp d i j) rb r' ((((W.setCell ⟨rb, 0, none⟩ (.int .u64 (r'.toNat : Int))).drewN q).setCell ⟨blk, off + i, none⟩ (.int .u64 d[j]!)).setCell ⟨blk, off + j, none⟩ (.int .u64 d[i]!)) := by
  refine ⟨((h.at_.new rb 0 _ hrb).drewN q).swap h0 i j hi hj, ?_, ?_⟩
  · have hne : ∀ k (v : Value) (X : World), (X.setCell ⟨blk, off + k, none⟩ v).cell? ⟨rb, 0, none⟩ = X.cell? ⟨rb, 0, none⟩ := fun k v X =>
      World.cell?_setCell_other _ _ _ _ (fun e => by have := congrArg Addr.block e; simp only at this; omega)
    rw [hne, hne]
    show (W.setCell ⟨rb, 0, none⟩ (.int .u64 (r'.toNat : Int))).cell? ⟨rb, 0, none⟩ = _
    obtain ⟨c, e, fr, hb, hc⟩ := cells_of_cell? h.cell
    rw [setCell_eq, cell?_mapBlock _ _ _ _ hb]
    have : 0 < c.size := (Array.getElem?_eq_some_iff.1 hc).1
    simp [Array.getElem?_setIfInBounds, this]
  · rw [setCell_eq, frozen?_mapBlock, setCell_eq, frozen?_mapBlock]
    show (W.setCell ⟨rb, 0, none⟩ (.int .u64 (r'.toNat : Int))).frozen? ⟨rb, 0, none⟩ = false
    rw [setCell_eq, frozen?_mapBlock]; exact h.froz
set_option maxHeartbeats 4000000 in
theorem break_go (blk off n cap a L : Nat) (d : Array Int) (w : World) (h : Row w blk off d) (hn : d.size = n) (hb : a + L ≤ n) (h8 : 8 ≤ L) :
    Calls Try.prog 62 #[.slice (some ⟨blk, off, none⟩) n cap, .int .i64 a, .int .i64 ((a + L : Nat) : Int)] w fun e w' => e = .returned (.tuple #[]) ∧ At w blk off (breakPatterns d a (a + L)) w' := by
  have hsm := h.small
  rw [hn] at hsm
  rw [break_is d a L h8]
  obtain ⟨M, hM⟩ : ∃ M : Nat, M = 1 <<< bitsLen L := ⟨_, rfl⟩
  have hM1 : 1 ≤ M := by rw [hM, Nat.one_shiftLeft]; exact Nat.two_pow_pos _
  have hM2 : M ≤ 2 * L := by rw [hM, Nat.one_shiftLeft]; exact two_pow_bitsLen_le (by omega)
  have hNP : ∀ w, Calls Try.prog 82 #[.int .i64 (L : Int)] w fun e w' => e = .returned (.int .u64 (M : Int)) ∧ w' = w := by rw [hM]; exact fun w => power_any L (by omega) w
  rw [← hM]
  clear hM
  obtain ⟨Z, hZ⟩ : ∃ Z, brest a L M (a + L / 4 * 2 - 1) 3 0 (UInt64.ofNat L, d) = Z := ⟨_, rfl⟩
  rw [hZ]
  obtain ⟨i0, hi0⟩ : ∃ i : Nat, i = a + L / 4 * 2 - 1 := ⟨_, rfl⟩
  rw [← hi0] at hZ
  have H0 : Hid (Row w blk off d ∧ d.size = n) := ⟨h, hn⟩
  have HR : Hid (Rg w blk off d w.heap.size (UInt64.ofNat L) (w.alloc (Obj.cells #[.int .u64 (L : Int)] 129))) := Rg.first h _ L (by omega)
  have HZ : Hid (brest a L M i0 3 0 (UInt64.ofNat L, d) = Z) := hZ
  clear h hn hZ
  have hi1 : a + 3 ≤ i0 ∧ i0 + 4 ≤ a + L := by omega
  have hi2 : (a : Int) + (L : Int) / 4 * 2 - 1 = (i0 : Int) := by omega
  have hi3 : (a : Int) + (L : Int) / 4 * 2 + 1 = (i0 : Int) + 2 := by omega
  have HI : Hid ((a : Int) + (L : Int) / 4 * 2 - 1 = (i0 : Int) ∧ (a : Int) + (L : Int) / 4 * 2 + 1 = (i0 : Int) + 2) := ⟨hi2, hi3⟩
  have hL4 : 0 ≤ (L : Int) / 4 ∧ (L : Int) / 4 ≤ (L : Int) := by omega
  obtain ⟨hi1, hi1'⟩ := hi1
  clear hi0 hi2 hi3
  go_enter Try.func62, Try.ntmps62
  go_upto_region 3 with fail
  rw [show ((a : Int) + (L : Int) - (a : Int)) = (L : Int) by omega]
  generalize hW0 : w.alloc (Obj.cells #[.int .u64 (L : Int)] 129) = W0 at HR ⊢
  generalize hrb : w.heap.size = rb at HR ⊢
  have HRB : Hid (w.heap.size ≤ rb) := Nat.le_of_eq hrb
  clear hW0 hrb
  go_upto_block 0 with (go_at_call 82; go_loud ((try rw [show ((a : Int) + (L : Int) - (a : Int)) = (L : Int) by omega]); refine (hNP _).mono ?_; rintro e w' ⟨rfl, hw⟩; have hw2 := hw.symm; clear hw; subst hw2))
  (try rw [show ((a : Int) + (L : Int) - (a : Int)) = (L : Int) by omega])
  rw [HI.out.1]
  go_wp2_with fail
  go_loopw [9] (fun vi wr => ∃ (t : Nat) (r : UInt64) (x : Array Int), vi = .int .i64 ((i0 + t : Nat) : Int) ∧ t ≤ 3 ∧ Hid (x.size = n ∧ Rg w blk off x rb r wr ∧ brest a L M i0 (3 - t) t (r, x) = Z)) (fun vi _ => i0 + 3 - (iOf vi).toNat)
  case atStart => exact ⟨0, UInt64.ofNat L, d, rfl, by omega, H0.out.2, HR.out, HZ.out⟩
  case round =>
    clear HR HZ
    obtain ⟨t, r, x, rfl, ht, HX⟩ := hrel
    rename World => wq
    have hi3 := HI.out.2
    by_cases ht3 : t < 3
    · have q1 : (((i0 + t : Nat) : Int)) ≤ (i0 : Int) + 2 := by omega
      obtain ⟨R, hR⟩ : ∃ R : Nat, R = r.toNat := ⟨_, rfl⟩
      have lR : R < 18446744073709551616 := by rw [hR]; exact r.toNat_lt
      obtain ⟨R', hR'⟩ : ∃ R' : Nat, R' = xorNextN R := ⟨_, rfl⟩
      have lR' : R' < 18446744073709551616 := by rw [hR']; exact xorNextN_lt R lR
      obtain ⟨O, hO⟩ : ∃ O : Nat, O = R' &&& (M - 1) := ⟨_, rfl⟩
      have lO : O ≤ M - 1 := by rw [hO]; exact Nat.and_le_right
      have eAnd : bits .and .u64 (R' : Int) ((M : Int) - 1) = (O : Int) := by
        rw [show ((M : Int) - 1) = ((M - 1 : Nat) : Int) by omega, bits_and_u64_nat _ _ lR' (by omega), hO]
      have hcB : wq.cell? ⟨rb, 0, none⟩ = some (.int .u64 (R : Int)) := by rw [hR]; exact HX.out.2.1.cell
      have hNext : Calls Try.prog 83 #[.pointer (some ⟨rb, 0, none⟩)] wq fun e w' => e = .returned (.int .u64 (R' : Int)) ∧ w' = (wq.setCell ⟨rb, 0, none⟩ (.int .u64 (R' : Int))).drewN 3 := by
        rw [hR']; exact next_any _ _ R lR wq hcB HX.out.2.1.froz
      have eR : R' = (xorNext r).toNat := by rw [hR', hR, xorNext_toNat]
      have HN : Hid (R' = (xorNext r).toNat ∧ O = (xorNext r).toNat &&& (M - 1)) := ⟨eR, by rw [hO, eR]⟩
      have HNX : Hid (Calls Try.prog 83 #[.pointer (some ⟨rb, 0, none⟩)] wq fun e w' => e = .returned (.int .u64 (R' : Int)) ∧ w' = (wq.setCell ⟨rb, 0, none⟩ (.int .u64 (R' : Int))).drewN 3) := hNext
      clear hR hR' hO hNext eR hcB
      obtain ⟨m, hm⟩ : ∃ m : Nat, m = i0 + t := ⟨_, rfl⟩
      rw [← hm] at q1 ⊢
      have hmb : a + 3 ≤ m ∧ m + 2 ≤ a + L := by omega
      have HM : Hid (m = i0 + t) := hm
      clear hm
      obtain ⟨G, hG, hcw, hfw⟩ := HX.out.2.1.at_.fam (n := n) H0.out.1 (HX.out.1.trans H0.out.2.symm) H0.out.2.symm
      have HG : Hid (∀ u, G u = x[u]!) := hG
      clear hG
      have hbr : ¬ blk = rb := by have := HRB.out; have := H0.out.1.lt; omega
      have hcw2 : ∀ u, u < n → ((wq.setCell ⟨rb, 0, none⟩ (.int .u64 (R' : Int))).drewN 3).cell? ⟨blk, off + u, none⟩ = some (.int .u64 (G u)) := fun u hu => by
        rw [← hcw u hu]
        exact World.cell?_setCell_other _ _ _ _ (fun e => hbr (by have := congrArg Addr.block e; simpa using this.symm))
      have hfw2 : ∀ u, u < n → ((wq.setCell ⟨rb, 0, none⟩ (.int .u64 (R' : Int))).drewN 3).frozen? ⟨blk, off + u, none⟩ = false := fun u hu => by
        rw [← hfw u hu]
        show (wq.setCell ⟨rb, 0, none⟩ (.int .u64 (R' : Int))).frozen? _ = _
        rw [setCell_eq, frozen?_mapBlock]
      have HCF : Hid ((∀ u, u < n → ((wq.setCell ⟨rb, 0, none⟩ (.int .u64 (R' : Int))).drewN 3).cell? ⟨blk, off + u, none⟩ = some (.int .u64 (G u))) ∧ ∀ u, u < n → ((wq.setCell ⟨rb, 0, none⟩ (.int .u64 (R' : Int))).drewN 3).frozen? ⟨blk, off + u, none⟩ = false) := ⟨hcw2, hfw2⟩
      clear hcw hfw hcw2 hfw2
      have FIN : Hid (∀ (o : Nat) (W : World), (if O ≥ L then O - L else O) = o → a + o < n → ((((wq.setCell ⟨rb, 0, none⟩ (.int .u64 (R' : Int))).drewN 3).drew.setCell ⟨blk, off + m, none⟩ (.int .u64 (G (a + o)))).setCell ⟨blk, off + (a + o), none⟩ (.int .u64 (G m))) = W → ∃ (t' : Nat) (r' : UInt64) (x' : Array Int), Value.int .i64 ((m : Int) + 1) = .int .i64 ((i0 + t' : Nat) : Int) ∧ t' ≤ 3 ∧ Hid (x'.size = n ∧ Rg w blk off x' rb r' W ∧ brest a L M i0 (3 - t') t' (r', x') = Z)) := by
        rintro o W ho hao rfl
        refine ⟨t + 1, xorNext r, swp x m (a + o), by congr 1; have := HM.out; omega, by omega, (size_swp _ _ _).trans HX.out.1, ?_, ?_⟩
        · have e := HX.out.2.1.step (r' := xorNext r) H0.out.1.lt HRB.out 4 m (a + o) (by rw [HX.out.1]; omega) (by rw [HX.out.1]; omega)
          rw [← HG.out, ← HG.out, ← HN.out.1] at e
          exact e
        · rw [← HX.out.2.2, brest_step a L M i0 t r x o ht3 (by rw [← HN.out.2]; exact ho), ← HM.out]
      go_upto_region 8 with (go_at_call 83; go_loud (refine HNX.out.mono ?_; rintro e w' ⟨rfl, hw'⟩; have HW' : Hid (w' = (wq.setCell ⟨rb, 0, none⟩ (.int .u64 (R' : Int))).drewN 3) := hw'; clear hw'))
      have hw' := HW'.out
      have hcw := HCF.out.1
      have hfw := HCF.out.2
      rw [← hw'] at hcw hfw
      have FIN2 : Hid (∀ (o : Nat) (W : World), (if O ≥ L then O - L else O) = o → a + o < n → ((w'.drew.setCell ⟨blk, off + m, none⟩ (.int .u64 (G (a + o)))).setCell ⟨blk, off + (a + o), none⟩ (.int .u64 (G m))) = W → ∃ (t' : Nat) (r' : UInt64) (x' : Array Int), Value.int .i64 ((m : Int) + 1) = .int .i64 ((i0 + t' : Nat) : Int) ∧ t' ≤ 3 ∧ Hid (x'.size = n ∧ Rg w blk off x' rb r' W ∧ brest a L M i0 (3 - t') t' (r', x') = Z)) := by rw [hw']; exact FIN.out
      have MS : Hid (i0 + 3 - (m + 1) < i0 + 3 - m) := by have := HM.out; show _ < _; omega
      clear hw' HW' FIN HCF HNX HX HN HG q1
      by_cases hLO : L ≤ O
      · have q2 : (L : Int) ≤ (O : Int) := by omega
        obtain ⟨o, ho⟩ : ∃ o : Nat, o = O - L := ⟨_, rfl⟩
        have hon : a + o < n := by omega
        have q3 : (O : Int) - (L : Int) = (o : Int) := by omega
        have HO : Hid ((if O ≥ L then O - L else O) = o) := by rw [if_pos hLO]; exact ho.symm
        clear ho
        go_upto_region 10 with fail
        (try rw [q3])
        clear q3 q2 lO hLO eAnd
        by_cases hEq : m = a + o
        · subst hEq
          go_region
          all_goals go_wp2
          go_roundw
          case rel => exact FIN2.out o _ HO.out hon rfl
          case measure => simp [iOf]; first | exact MS.out | (have := MS.out; omega)
        · have hne : ¬ off + (a + o) = off + m := by omega
          go_region
          all_goals go_wp2
          go_roundw
          case rel => exact FIN2.out o _ HO.out hon rfl
          case measure => simp [iOf]; first | exact MS.out | (have := MS.out; omega)
      · have q2 : ¬ (L : Int) ≤ (O : Int) := by omega
        have hon : a + O < n := by omega
        have HO : Hid ((if O ≥ L then O - L else O) = O) := by rw [if_neg hLO]; rfl
        go_upto_region 10 with fail
        clear q2 lO hLO eAnd
        by_cases hEq : m = a + O
        · subst hEq
          go_region
          all_goals go_wp2
          go_roundw
          case rel => exact FIN2.out O _ HO.out hon rfl
          case measure => simp [iOf]; first | exact MS.out | (have := MS.out; omega)
        · have hne : ¬ off + (a + O) = off + m := by omega
          go_region
          all_goals go_wp2
          go_roundw
          case rel => exact FIN2.out O _ HO.out hon rfl
          case measure => simp [iOf]; first | exact MS.out | (have := MS.out; omega)
    · obtain rfl : t = 3 := by omega
      have q1 : ¬ (((i0 + 3 : Nat) : Int)) ≤ (i0 : Int) + 2 := by omega
      go_wp2
      go_end0
      have e := HX.out.2.2
      rw [show 3 - 3 = 0 from rfl] at e
      exact ⟨rfl, (show x = Z from e) ▸ HX.out.2.1.at_⟩
theorem break_any (blk off n cap a b : Nat) (d : Array Int) (w : World) (h : Row w blk off d) (hn : d.size = n) (hab : a + 8 ≤ b) (hb : b ≤ n) :
    Calls Try.prog 62 #[.slice (some ⟨blk, off, none⟩) n cap, .int .i64 a, .int .i64 b] w fun e w' => e = .returned (.tuple #[]) ∧ At w blk off (breakPatterns d a b) w' := by
  obtain ⟨L, rfl⟩ : ∃ L, b = a + L := ⟨b - a, by omega⟩
  exact break_go blk off n cap a L d w h hn hb (by omega)
end Us
end Go.Proofs.Ytecgecolghgjoaa
