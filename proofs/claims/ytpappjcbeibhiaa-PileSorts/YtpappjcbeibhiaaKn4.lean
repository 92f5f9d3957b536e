import Derived.Test.YtpappjcbeibhiaaBg1
namespace Go.Proofs.Ytpappjcbeibhiaa
namespace Hp
open Go.RowKit Laws Irw
set_option linter.unusedVariables false
set_option maxRecDepth 100000
set_option linter.unusedSimpArgs false

theorem first_is {l m : List Int} {a : Int} (hh : Heapy (aheadF 0) 0 l) (hp : l.Perm m) (ha : a ∈ m) (hm : ∀ y ∈ m, a ≤ y) : l.getD 0 0 = a := by
  have hl : a ∈ l := hp.mem_iff.2 ha
  have h0 : 0 < l.length := List.length_pos_of_mem hl
  have hx : l.getD 0 0 ∈ l := by
    have e : l.getD 0 0 = l[0] := by simp [h0]
    rw [e]; exact List.getElem_mem h0
  have h1 := hm _ (hp.mem_iff.1 hx)
  have h2 := hh.least (ord_aheadF 0) a hl
  simp [aheadF] at h2
  have h2' : l.getD 0 0 ≤ a := by simpa using h2
  exact Int.le_antisymm h2' h1

/-- a heap in a walk: what lies, and what lay before it -/
structure KH (w0 : World) (t : Nat) (T : Nat → Nat) (w : World) (h g B : Nat) (o : Int) (f : Int → Int → Bool) (l m : List Int) : Prop where
  heap : HeapAt t T w h g B o l
  old : Old w0 T w
  perm : l.Perm m
  heapy : Ord f → Heapy f 0 l
theorem KH.below {w0 : World} {t : Nat} {T : Nat → Nat} {w w' : World} {h g B : Nat} {o : Int} {f : Int → Int → Bool} {l m : List Int} (k : KH w0 t T w h g B o f l m) (hb : Below w.heap.size w w') : KH w0 t T w' h g B o f l m :=
  ⟨k.heap.below hb, k.old.goes (Goes.below (t := fun _ => False) hb) (fun z => z), k.perm, k.heapy⟩

theorem isI_lit4 {w : World} {a b c d : Int} {u : TypeId} : IRow (w.alloc (.cells #[.int .i64 a, .int .i64 b, .int .i64 c, .int .i64 d] u)) w.heap.size 0 [a, b, c, d] := by
  refine ⟨by simp, fun i z hz => ?_⟩
  rw [World.cell?_alloc_at _ _ _ _ rfl]
  match i, hz with
  | 0, hz => simp at hz; subst hz; rfl
  | 1, hz => simp at hz; subst hz; rfl
  | 2, hz => simp at hz; subst hz; rfl
  | 3, hz => simp at hz; subst hz; rfl
  | i + 4, hz => simp at hz

set_option maxHeartbeats 4000000 in
theorem known_any (w : World) : Calls Try.prog 4 #[] w fun e w' => e = .returned (.bool true) ∧ Below w.heap.size w w' := by
  go_enter Try.func4, Try.ntmps4
  go_wp2_with fail
  refine (heap_any (fun _ => 0) w 0 1).mono ?_
  rintro e w1 ⟨rfl, hh, hb⟩
  have HK : Hid (KH w 1 (upd (upd (fun _ => 0) w.heap.size 3) (w.heap.size + 1) 1) w1 (w.heap.size + 1) 21 w.heap.size 0 (aheadF 0) [] []) := ⟨hh, ⟨hb, fun b hb => by have := hh.dirs.lth; rw [upd_other _ _ (by omega), upd_other _ _ (by omega)]⟩, List.Perm.refl _, fun _ i _ hi => by simp at hi⟩
  generalize upd (upd (fun _ => 0) w.heap.size 3) (w.heap.size + 1) 1 = T0 at *
  clear hh hb
  generalize w.heap.size + 1 = h at *
  generalize hB : w.heap.size = B at HK
  clear hB
  go_wp2
  have HK2 := HK.out.below ((Below.refl _ _).alloc (Nat.le_refl _) (.cells #[.int .i64 5, .int .i64 2, .int .i64 9, .int .i64 2] 3))
  have HI2 : Hid (IRow (w1.alloc (.cells #[.int .i64 5, .int .i64 2, .int .i64 9, .int .i64 2] 3)) w1.heap.size 0 [5, 2, 9, 2]) := isI_lit4
  have HT2 : Hid (T0 w1.heap.size = 0) := HK.out.old.zero _ (.inr (Nat.le_refl _))
  have HK3 : Hid _ := HK2
  clear HK2 HK
  go_loopw [17] (fun i wr => ∃ (k : Nat) (T : Nat → Nat) (l : List Int), k ≤ 4 ∧ i = .int .i64 (k : Int) ∧ Hid (KH w 1 T wr h 21 B 0 (aheadF 0) l ([5, 2, 9, 2].take k)) ∧ Hid (IRow wr w1.heap.size 0 [5, 2, 9, 2]) ∧ Hid (T w1.heap.size = 0)) (fun i _ => 4 - (intOf i).toNat)
  case atStart => exact ⟨0, T0, [], by omega, rfl, HK3, HI2, HT2⟩
  case round =>
    clear HK3 HI2 HT2
    obtain ⟨k, T, l, hk, rfl, HK, HI, HT⟩ := hrel
    by_cases hlt : k < 4
    · have ck : wr.cell? ⟨w1.heap.size, k, none⟩ = some (.int .i64 ([5, 2, 9, 2].getD k 0)) := by have := HI.out.cell (i := k) (by simpa using hlt); simpa using this
      have d1 : (k : Int) < 4 := by omega
      have HPU : Hid (Calls Try.prog 12 #[.pointer (some ⟨h, 0, none⟩), .int .i64 ([5, 2, 9, 2].getD k 0)] wr fun e w' => e = .returned (.tuple #[]) ∧ PushIs (aheadF 0) 1 T wr h 21 B 0 l ([5, 2, 9, 2].getD k 0) w') := push_any 1 T wr h 21 B 0 l ([5, 2, 9, 2].getD k 0) less_heap HK.out.heap (by have := HK.out.perm.length_eq; simp at this; omega)
      have HTK : Hid ([5, 2, 9, 2].take k ++ [([5, 2, 9, 2] : List Int).getD k 0] = [5, 2, 9, 2].take (k + 1)) := by
        match k, hlt with
        | 0, _ => rfl
        | 1, _ => rfl
        | 2, _ => rfl
        | 3, _ => rfl
      generalize ([5, 2, 9, 2] : List Int).getD k 0 = x at *
      go_wp2_with fail
      refine HPU.out.mono ?_
      rintro e w3 ⟨rfl, T3, l3, k1, k2, k3, k4⟩
      have HK' : Hid (KH w 1 T3 w3 h 21 B 0 (aheadF 0) l3 ([5, 2, 9, 2].take (k + 1)) ∧ IRow w3 w1.heap.size 0 [5, 2, 9, 2] ∧ T3 w1.heap.size = 0) := ⟨⟨k1, HK.out.old.goes k2 (by omega), by rw [← HTK.out]; exact k3.trans (HK.out.perm.append_right _), fun ho => k4 ho (HK.out.heapy ho)⟩, HI.out.keep (k2.block _ HI.out.1 (by rw [HT.out]; omega)) k2.size, (k2.tag _ HI.out.1 (by rw [HT.out]; omega)).trans HT.out⟩
      clear k1 k2 k3 k4 HPU
      go_wp2
      go_roundw
      case rel => exact ⟨k + 1, T3, l3, by omega, by go_num, HK'.out.1, HK'.out.2.1, HK'.out.2.2⟩
      case measure => simp [intOf]; omega
    · obtain rfl : k = 4 := by omega
      have HKa : Hid (KH w 1 T wr h 21 B 0 (aheadF 0) l [2, 2, 5, 9]) := ⟨HK.out.heap, HK.out.old, HK.out.perm.trans (by decide), HK.out.heapy⟩
      have hll : l.length = 4 := by have := HKa.out.perm.length_eq; simpa using this
      have HTop : Hid (Calls Try.prog 13 #[.pointer (some ⟨h, 0, none⟩)] wr fun e w' => e = .returned (.tuple #[.int .i64 2, .bool true]) ∧ w' = wr) := by
        have := top_any 1 T wr h 21 B 0 l HKa.out.heap (by omega)
        rw [first_is (HKa.out.heapy (ord_aheadF 0)) HKa.out.perm (a := 2) (by simp) (by simp), decide_eq_true (by omega)] at this
        exact this
      have HLen : Hid (Calls Try.prog 14 #[.pointer (some ⟨h, 0, none⟩)] wr fun e w' => e = .returned (.int .i64 4) ∧ w' = wr) := by
        have := len_any 1 T wr h 21 B 0 l HKa.out.heap
        rw [hll] at this
        exact this
      clear HK HI HT hll
      go_wp2_with (first
        | (go_at_call 13; refine HTop.out.mono ?_; rintro e w9 ⟨rfl, hw9⟩; have hw8 := hw9.symm; clear hw9; subst hw8)
        | (go_at_call 14; refine HLen.out.mono ?_; rintro e w9 ⟨rfl, hw9⟩; have hw8 := hw9.symm; clear hw9; subst hw8))
      have HK3 : Hid _ := HKa.out.below ((Below.refl _ _).alloc (Nat.le_refl _) (.cells #[.int .i64 2, .int .i64 2, .int .i64 5, .int .i64 9] 3))
      have HI2 : Hid (IRow (wr.alloc (.cells #[.int .i64 2, .int .i64 2, .int .i64 5, .int .i64 9] 3)) wr.heap.size 0 [2, 2, 5, 9]) := isI_lit4
      have HT2 : Hid (T wr.heap.size = 0) := HKa.out.old.zero _ (.inr (Nat.le_refl _))
      clear HKa HTop HLen
      generalize hLB : wr.heap.size = LB at *
      go_loopw [43] (fun i wr2 => ∃ (k : Nat) (T : Nat → Nat) (l : List Int), k ≤ 4 ∧ i = .int .i64 (k : Int) ∧ Hid (KH w 1 T wr2 h 21 B 0 (aheadF 0) l ([2, 2, 5, 9].drop k)) ∧ Hid (IRow wr2 LB 0 [2, 2, 5, 9]) ∧ Hid (T LB = 0)) (fun i _ => 4 - (intOf i).toNat)
      case atStart => exact ⟨0, T, l, by omega, rfl, HK3, HI2, HT2⟩
      case round =>
        clear HK3 HI2 HT2 hLB
        obtain ⟨k, T, l, hk, rfl, HK, HI, HT⟩ := hrel
        rename World => wq
        by_cases hlt : k < 4
        · have hd : ([2, 2, 5, 9] : List Int).drop k = ([2, 2, 5, 9] : List Int).getD k 0 :: ([2, 2, 5, 9] : List Int).drop (k + 1) ∧ ∀ y ∈ ([2, 2, 5, 9] : List Int).drop k, ([2, 2, 5, 9] : List Int).getD k 0 ≤ y := by
            match k, hlt with
            | 0, _ => exact ⟨rfl, by simp⟩
            | 1, _ => exact ⟨rfl, by simp⟩
            | 2, _ => exact ⟨rfl, by simp⟩
            | 3, _ => exact ⟨rfl, by simp⟩
          have hl0 : 0 < l.length := by have := HK.out.perm.length_eq; simp at this; omega
          have hl4 : l.length ≤ 4 := by have := HK.out.perm.length_eq; simp at this; omega
          have HFI : Hid (l.getD 0 0 = ([2, 2, 5, 9] : List Int).getD k 0) := first_is (HK.out.heapy (ord_aheadF 0)) HK.out.perm (by rw [hd.1]; simp) hd.2
          have HD : Hid (([2, 2, 5, 9] : List Int).drop k = ([2, 2, 5, 9] : List Int).getD k 0 :: ([2, 2, 5, 9] : List Int).drop (k + 1)) := hd.1
          have ck : wq.cell? ⟨LB, k, none⟩ = some (.int .i64 (([2, 2, 5, 9] : List Int).getD k 0)) := by have := HI.out.cell (i := k) (by simpa using hlt); simpa using this
          have d1 : (k : Int) < 4 := by omega
          have HPO : Hid (Calls Try.prog 15 #[.pointer (some ⟨h, 0, none⟩)] wq fun e w' => e = .returned (.tuple #[.int .i64 (([2, 2, 5, 9] : List Int).getD k 0), .bool true]) ∧ PopIs (aheadF 0) 1 T wq h 21 B 0 l w') := by
            have := pop_any 1 T wq h 21 B 0 l less_heap HK.out.heap hl0 (by omega)
            rw [HFI.out] at this
            exact this
          clear hd
          generalize ([2, 2, 5, 9] : List Int).getD k 0 = x at *
          go_wp2_with fail
          refine HPO.out.mono ?_
          rintro e w3 ⟨rfl, T3, l3, k1, k2, k3, k4⟩
          have HK' : Hid (KH w 1 T3 w3 h 21 B 0 (aheadF 0) l3 ([2, 2, 5, 9].drop (k + 1)) ∧ IRow w3 LB 0 [2, 2, 5, 9] ∧ T3 LB = 0) := ⟨⟨k1, HK.out.old.goes k2 (by omega), by rw [HFI.out] at k3; have z := k3.trans HK.out.perm; rw [HD.out] at z; exact z.cons_inv, fun ho => k4 ho (HK.out.heapy ho)⟩, HI.out.keep (k2.block _ HI.out.1 (by rw [HT.out]; omega)) k2.size, (k2.tag _ HI.out.1 (by rw [HT.out]; omega)).trans HT.out⟩
          clear k1 k2 k3 k4 HPO
          go_wp2
          go_roundw
          case rel => exact ⟨k + 1, T3, l3, by omega, by go_num, HK'.out.1, HK'.out.2.1, HK'.out.2.2⟩
          case measure => simp [intOf]; omega
        · obtain rfl : k = 4 := by omega
          obtain rfl : l = [] := by have := HK.out.perm.length_eq; simp at this; exact this
          have HLen : Hid (Calls Try.prog 14 #[.pointer (some ⟨h, 0, none⟩)] wq fun e w' => e = .returned (.int .i64 0) ∧ w' = wq) := len_any 1 T wq h 21 B 0 [] HK.out.heap
          go_wp2_with (first
            | (go_at_call 15; refine (pop_none 1 T wq h 21 B 0 HK.out.heap).mono ?_; rintro e w9 ⟨rfl, hw9⟩; have hw8 := hw9.symm; clear hw9; subst hw8)
            | (go_at_call 14; refine HLen.out.mono ?_; rintro e w9 ⟨rfl, hw9⟩; have hw8 := hw9.symm; clear hw9; subst hw8))
          go_ret
          exact ⟨rfl, HK.out.old.below⟩

end Hp
end Go.Proofs.Ytpappjcbeibhiaa
