import Derived.Test.YtodgomgacgoliaaSd2
namespace Go.Proofs.Ytodgomgacgoliaa
namespace Hp
open Go.RowKit Laws Irw
set_option linter.unusedVariables false
set_option maxRecDepth 100000
set_option linter.unusedSimpArgs false

set_option maxHeartbeats 4000000 in
theorem plays_pop (k : Nat) (T : Nat → Nat) (w : World) (s h B b : Nat) (o : Int) (l m : List Int) (top : Int) (told : Bool) (n : Int) (sec : Bool) (p : SideAt k T w s h B b o l m top told) (hl : m.length ≤ 1000000000) (hz : ∀ g, w.heap.size ≤ g → T g = 0) :
    Calls Try.prog 9 #[.pointer (some ⟨s, 0, none⟩), .agg #[.int .i64 2, .int .i64 n, .bool sec]] w fun e w' => e = .returned (.bool true) ∧ PlayIs k T w s h B b o 2 m.length w' := by
  have hlm : l.length = m.length := p.perm.length_eq
  have HB1 : Hid (Below w.heap.size w (w.alloc (.cells #[.int .i64 2, .int .i64 n, .bool sec] 33))) := (Below.refl _ _).alloc (Nat.le_refl _) _
  have HS1 : Hid (SideAt k T (w.alloc (.cells #[.int .i64 2, .int .i64 n, .bool sec] 33)) s h B b o l m top told) := p.below HB1.out
  have c0 := HS1.out.blk.c0
  have e0 : (w.alloc (.cells #[.int .i64 2, .int .i64 n, .bool sec] 33)).cell? ⟨w.heap.size, 0, none⟩ = some (.int .i64 2) := by simp
  by_cases h0 : 0 < l.length
  · have hll : l.length ≤ 1000000000 := by omega
    have HLM : Hid (l.length = m.length) := hlm
    clear p hz hlm
    go_enter Try.func9, Try.ntmps9
    generalize hW1 : w.alloc (.cells #[.int .i64 2, .int .i64 n, .bool sec] 33) = W1 at *
    go_wp2_with fail
    refine (pop_any (k + 1) T W1 h 32 B o l less_heap HS1.out.heap h0 (by omega)).mono ?_
    rintro e w3 ⟨rfl, T3, l3, k1, k2, k3, k4⟩
    obtain ⟨x, hx⟩ : ∃ x, l.getD 0 0 = x := ⟨_, rfl⟩
    have HXM : Hid (x ∈ m ∧ (∀ y ∈ m, aheadF o y x = false) ∧ (told = true → top = x)) := ⟨HS1.out.perm.mem_iff.1 (by rw [← hx]; exact first_mem h0), fun y hy => by rw [← hx]; exact HS1.out.heapy.least (ord_aheadF o) y (HS1.out.perm.mem_iff.2 hy), fun ht => by rw [← hx]; exact (HS1.out.ok ht).2⟩
    rw [hx] at k3
    have H3 : Hid (HeapAt (k + 1) T3 w3 h 32 B o l3 ∧ BagAt (k + 4) T3 w3 b o m ∧ SBlk k T3 w3 s h b top told ∧ (x :: l3).Perm m ∧ Heapy (aheadF o) 0 l3 ∧ Goes (mine k) T w T3 w3) := ⟨k1, HS1.out.bag.goes k2 (by omega) (by omega), HS1.out.blk.goes k2 (by omega), k3.trans HS1.out.perm, k4 (ord_aheadF o) HS1.out.heapy, (Goes.below HB1.out).trans (goes_mine k2 (by omega))⟩
    rw [hx]
    clear hx k1 k2 k3 k4 HS1 HB1 c0 e0
    go_wp2_with fail
    refine (shows_some k T3 w3 s b o m top told 0 x h H3.out.2.1 H3.out.2.2.1 HXM.out.1 HXM.out.2.1 HXM.out.2.2 (by omega)).mono ?_
    rintro e w4 ⟨rfl, hb4⟩
    have H4 : Hid (HeapAt (k + 1) T3 w4 h 32 B o l3 ∧ BagAt (k + 4) T3 w4 b o m ∧ SBlk k T3 w4 s h b top told ∧ Goes (mine k) T w T3 w4) := ⟨H3.out.1.below hb4, H3.out.2.1.below hb4, H3.out.2.2.1.goes (Goes.below (t := fun _ => False) hb4) (fun z => z), H3.out.2.2.2.2.2.trans (Goes.below hb4)⟩
    have gc1 := H4.out.2.2.1.c1
    clear hb4
    go_wp2_with fail
    refine (take_any (k + 4) T3 w4 b o m x H4.out.2.1 HXM.out.1 (by omega)).mono ?_
    rintro e w5 ⟨rfl, m5, ⟨T5, z1, z2⟩, z3⟩
    have HB5 : Hid (SBlk k T5 w5 s h b top told) := H4.out.2.2.1.goes z2 (by omega)
    have H5 : Hid (SideAt k T5 (w5.setCell ⟨s, 3, none⟩ (.bool false)) s h B b o l3 m5 top false ∧ Goes (mine k) T w T5 (w5.setCell ⟨s, 3, none⟩ (.bool false))) := ⟨⟨(H4.out.1.goes z2 (by omega) (by omega) (by omega)).goes (HB5.out.told false).2 (by omega) (by omega) (by omega), z1.goes (HB5.out.told false).2 (by omega) (by omega), (HB5.out.told false).1, (H3.out.2.2.2.1.trans z3.symm).cons_inv, H3.out.2.2.2.2.1, fun h => by cases h⟩, (H4.out.2.2.2.trans (goes_mine z2 (by omega))).trans (goes_mine (HB5.out.told false).2 (by omega))⟩
    have HLN : Hid (m5.length = lenOf 2 m.length) := by have := z3.length_eq; simp at this; simp [lenOf]; show _ = _; omega
    have gc3 := HB5.out.c3
    have gf3 := HB5.out.f3
    clear z1 z2 z3 H3 H4 gc1
    go_wp2
    go_ret
    exact ⟨rfl, T5, l3, m5, top, false, H5.out.1, H5.out.2, HLN.out⟩
  · obtain rfl : l = [] := List.eq_nil_of_length_eq_zero (by omega)
    obtain rfl : m = [] := List.eq_nil_of_length_eq_zero (by simpa using hlm.symm)
    clear p hz hlm
    have HFIN : Hid (PlayIs k T w s h B b o 2 0 ((w.alloc (.cells #[.int .i64 2, .int .i64 n, .bool sec] 33)).setCell ⟨s, 3, none⟩ (.bool false))) := ⟨T, [], [], top, false, ⟨HS1.out.heap.goes (HS1.out.blk.told false).2 (by omega) (by omega) (by omega), HS1.out.bag.goes (HS1.out.blk.told false).2 (by omega) (by omega), (HS1.out.blk.told false).1, List.Perm.refl _, HS1.out.heapy, fun h => by cases h⟩, (Goes.below HB1.out).trans (goes_mine (HS1.out.blk.told false).2 (by omega)), rfl⟩
    have gc3 := HS1.out.blk.c3
    have gf3 := HS1.out.blk.f3
    go_enter Try.func9, Try.ntmps9
    generalize hW1 : w.alloc (.cells #[.int .i64 2, .int .i64 n, .bool sec] 33) = W1 at *
    go_wp2_with (first
      | (go_at_call 23; refine (pop_none (k + 1) T W1 h 32 B o HS1.out.heap).mono ?_; rintro e w9 ⟨rfl, hw9⟩; have hw8 := hw9.symm; clear hw9; subst hw8)
      | (go_at_call 34; refine (shows_none k T W1 s h B b o [] top told HS1.out).mono ?_; rintro e w9 ⟨rfl, hw9⟩; have hw8 := hw9.symm; clear hw9; subst hw8))
    go_ret
    exact ⟨rfl, HFIN.out⟩

set_option maxHeartbeats 4000000 in
theorem plays_top (k : Nat) (T : Nat → Nat) (w : World) (s h B b : Nat) (o : Int) (l m : List Int) (top : Int) (told : Bool) (n : Int) (sec : Bool) (p : SideAt k T w s h B b o l m top told) (hl : m.length ≤ 1000000000) (hz : ∀ g, w.heap.size ≤ g → T g = 0) :
    Calls Try.prog 9 #[.pointer (some ⟨s, 0, none⟩), .agg #[.int .i64 3, .int .i64 n, .bool sec]] w fun e w' => e = .returned (.bool true) ∧ PlayIs k T w s h B b o 3 m.length w' := by
  have hlm : l.length = m.length := p.perm.length_eq
  have HB1 : Hid (Below w.heap.size w (w.alloc (.cells #[.int .i64 3, .int .i64 n, .bool sec] 33))) := (Below.refl _ _).alloc (Nat.le_refl _) _
  have HS1 : Hid (SideAt k T (w.alloc (.cells #[.int .i64 3, .int .i64 n, .bool sec] 33)) s h B b o l m top told) := p.below HB1.out
  have c0 := HS1.out.blk.c0
  have e0 : (w.alloc (.cells #[.int .i64 3, .int .i64 n, .bool sec] 33)).cell? ⟨w.heap.size, 0, none⟩ = some (.int .i64 3) := by simp
  by_cases h0 : 0 < l.length
  · have hll : l.length ≤ 1000000000 := by omega
    obtain ⟨x, hx⟩ : ∃ x, l.getD 0 0 = x := ⟨_, rfl⟩
    have HXM : Hid (x ∈ m ∧ (∀ y ∈ m, aheadF o y x = false) ∧ (told = true → top = x)) := ⟨HS1.out.perm.mem_iff.1 (by rw [← hx]; exact first_mem h0), fun y hy => by rw [← hx]; exact HS1.out.heapy.least (ord_aheadF o) y (HS1.out.perm.mem_iff.2 hy), fun ht => by rw [← hx]; exact (HS1.out.ok ht).2⟩
    have HX0 : Hid (l.getD 0 0 = x ∧ 0 < l.length) := ⟨hx, h0⟩
    have HTP : Hid (∀ W, HeapAt (k + 1) T W h 32 B o l → Calls Try.prog 35 #[.pointer (some ⟨h, 0, none⟩)] W fun e w' => e = .returned (.tuple #[.int .i64 x, .bool true]) ∧ w' = W) := fun W hW => by have z := top_any (k + 1) T W h _ B o l hW (by omega); rwa [hx, decide_eq_true h0] at z
    clear p hz hlm hx
    go_enter Try.func9, Try.ntmps9
    generalize hW1 : w.alloc (.cells #[.int .i64 3, .int .i64 n, .bool sec] 33) = W1 at *
    go_wp2_with (first
      | (go_at_call 35; refine (HTP.out W1 HS1.out.heap).mono ?_; rintro e w9 ⟨rfl, hw9⟩; have hw8 := hw9.symm; clear hw9; subst hw8)
      | (go_at_call 34; refine (shows_some k T W1 s b o m top told 0 x h HS1.out.bag HS1.out.blk HXM.out.1 HXM.out.2.1 HXM.out.2.2 (by omega)).mono ?_; rintro e w4 ⟨rfl, hb4⟩; have H4 : Hid (SideAt k T w4 s h B b o l m top told ∧ Goes (mine k) T w T w4) := ⟨HS1.out.below hb4, (Goes.below HB1.out).trans (Goes.below hb4)⟩; have gc2 := H4.out.1.blk.c2; have gf2 := H4.out.1.blk.f2; have gc3 := (H4.out.1.blk.top x).1.c3; have gf3 := (H4.out.1.blk.top x).1.f3; clear hb4))
    go_ret
    have b1 := H4.out.1.blk.top x
    have b2 := b1.1.told true
    exact ⟨rfl, T, l, m, x, true, ⟨(H4.out.1.heap.goes b1.2 (by omega) (by omega) (by omega)).goes b2.2 (by omega) (by omega) (by omega), (H4.out.1.bag.goes b1.2 (by omega) (by omega)).goes b2.2 (by omega) (by omega), b2.1, H4.out.1.perm, H4.out.1.heapy, fun _ => ⟨HX0.out.2, HX0.out.1.symm⟩⟩, (H4.out.2.trans (goes_mine b1.2 (by omega))).trans (goes_mine b2.2 (by omega)), by simp [lenOf]⟩
  · obtain rfl : l = [] := List.eq_nil_of_length_eq_zero (by omega)
    obtain rfl : m = [] := List.eq_nil_of_length_eq_zero (by simpa using hlm.symm)
    clear p hz hlm
    have gc2 := HS1.out.blk.c2
    have gf2 := HS1.out.blk.f2
    have gc3 := (HS1.out.blk.top 0).1.c3
    have gf3 := (HS1.out.blk.top 0).1.f3
    have HTP : Hid (∀ W, HeapAt (k + 1) T W h 32 B o [] → Calls Try.prog 35 #[.pointer (some ⟨h, 0, none⟩)] W fun e w' => e = .returned (.tuple #[.int .i64 0, .bool false]) ∧ w' = W) := fun W hW => top_any (k + 1) T W h _ B o [] hW (by simp)
    go_enter Try.func9, Try.ntmps9
    generalize hW1 : w.alloc (.cells #[.int .i64 3, .int .i64 n, .bool sec] 33) = W1 at *
    go_wp2_with (first
      | (go_at_call 35; refine (HTP.out W1 HS1.out.heap).mono ?_; rintro e w9 ⟨rfl, hw9⟩; have hw8 := hw9.symm; clear hw9; subst hw8)
      | (go_at_call 34; refine (shows_none k T W1 s h B b o [] top told HS1.out).mono ?_; rintro e w9 ⟨rfl, hw9⟩; have hw8 := hw9.symm; clear hw9; subst hw8))
    go_ret
    have b1 := HS1.out.blk.top 0
    have b2 := b1.1.told false
    exact ⟨rfl, T, [], [], 0, false, ⟨(HS1.out.heap.goes b1.2 (by omega) (by omega) (by omega)).goes b2.2 (by omega) (by omega) (by omega), (HS1.out.bag.goes b1.2 (by omega) (by omega)).goes b2.2 (by omega) (by omega), b2.1, HS1.out.perm, HS1.out.heapy, fun h => by cases h⟩, ((Goes.below HB1.out).trans (goes_mine b1.2 (by omega))).trans (goes_mine b2.2 (by omega)), by simp [lenOf]⟩

end Hp
end Go.Proofs.Ytodgomgacgoliaa
