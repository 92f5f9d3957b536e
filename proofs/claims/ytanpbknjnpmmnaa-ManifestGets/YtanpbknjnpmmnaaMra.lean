import Derived.Test.YtanpbknjnpmmnaaMr9
namespace Go.Proofs.Ytanpbknjnpmmnaa
namespace Mnf
open Go.RowKit CMath Byt Cod Crw Irw Laws
set_option linter.unusedVariables false
set_option linter.unusedSimpArgs false
set_option maxRecDepth 20000

set_option maxHeartbeats 2000000 in
theorem readRecord_more (a : Option Addr) (L c : Nat) (last : Bool) (r0 : List Nat) (w : World) (h : IsB w a (bit last :: r0)) (hL : r0.length + 1 = L) (hLc : L ≤ c) (hm : c ≤ 9223372036854775807) (x y z : Nat) (r1 : List Nat) (h1 : rdRo r0 = some ((x, y, z), r1)) (os : List Pl) (r2 : List Nat) (h2 : rdLst rdPl 256 r1 = some (os, r2)) (is : List Pd) (r3 : List Nat) (h3 : rdLst rdPd (256 - os.length) r2 = some (is, r3)) (ps : List ByteArray) (r4 : List Nat) (h4 : rdLst rdK 5 r3 = some (ps, r4)) (h5 : r4 ≠ []) :
    Calls Try.prog 16 #[.slice a L c] w fun e w' => RecNo w e w' := by
  have q4 : (0 : Int) < (r4.length : Int) := by have := List.length_pos_iff.2 h5; omega
  have q5 : 0 < r4.length := List.length_pos_iff.2 h5
  clear h5
  subst hL
  have HI : Hid (IsB w a (bit last :: r0)) := h
  have HH1 : Hid (rdRo r0 = some ((x, y, z), r1)) := h1
  have HH2 : Hid (rdLst rdPl 256 r1 = some (os, r2)) := h2
  have HH3 : Hid (rdLst rdPd (256 - os.length) r2 = some (is, r3)) := h3
  have HH4 : Hid (rdLst rdK 5 r3 = some (ps, r4)) := h4
  have hb0 : ∀ c ∈ r0, c < 256 := fun c hc => h.2 c (List.mem_cons_of_mem _ hc)
  have hb1 : ∀ c ∈ r1, c < 256 := bytes_right (by rw [← (rdRo_is.form r0 _ _ hb0 h1).1]; exact hb0)
  have ho6 := ((rdLst_is rdPl_is 256 (by decide)).form r1 _ _ hb1 h2).2.1
  have hb2 : ∀ c ∈ r2, c < 256 := bytes_right (by rw [← ((rdLst_is rdPl_is 256 (by decide)).form r1 _ _ hb1 h2).1]; exact hb1)
  have hi6 := ((rdLst_is rdPd_is (256 - os.length) (by unfold M64; omega)).form r2 _ _ hb2 h3).2.1
  clear hb2
  clear hb0 hb1
  have HL : Hid (Calls Try.prog 41 #[.slice a (r0.length + 1) (r0.length + 1)] ((w.alloc (.cells #[.bool false, .int .u64 0, .int .u64 0, .int .u64 0, .slice none 0 0, .slice none 0 0, .slice none 0 0] 65)).alloc (.cells #[.bool false, .int .u64 0, .int .u64 0, .int .u64 0, .slice none 0 0, .slice none 0 0, .slice none 0 0] 65)) fun e w' => RdOk a (bit last :: r0) (.bool last) r0 ((w.alloc (.cells #[.bool false, .int .u64 0, .int .u64 0, .int .u64 0, .slice none 0 0, .slice none 0 0, .slice none 0 0] 65)).alloc (.cells #[.bool false, .int .u64 0, .int .u64 0, .int .u64 0, .slice none 0 0, .slice none 0 0, .slice none 0 0] 65)) e w') := readLast_ok a _ last r0 _ (h.below (rr_new w).b) rfl (by omega)
  clear h h1 h2 h3 h4
  have q1 : (0 : Int) ≤ (r0.length : Int) + 1 := by omega
  have q2 : (r0.length : Int) + 1 ≤ (c : Int) := by omega
  go_enter Try.func16, Try.ntmps16
  go_wp2
  refine wp_scope_fwd (rest := ?rest) 0 ?hf ?_
  case hf => rfl
  go_wp2_with (first
    | (go_at_call 41; go_loud (refine HL.out.mono ?_; rintro e w1 ⟨a1, he, hs1, hb1⟩; subst he; have H1 : Hid (Rr w w1 false 0 0 0 nS nS nS ∧ Sub a (bit last :: r0) a1 r0) := ⟨(rr_new w).below hb1, hs1⟩; have k0 := H1.out.1.z4.2.1 0 _ rfl; have kf0 := H1.out.1.z4.2.2 0; have hl1 := hs1.len; clear hs1 hb1))
    | (go_at_call 42; go_loud (refine (readRoots_any a1 r0.length r0 _ ((H1.out.2.isB HI.out).below (H1.out.1.set 0 (.bool last) last 0 0 0 nS nS nS rfl).b) rfl (by omega)).mono ?_; rintro e w2 hp; obtain ⟨a2, he, hs2, hb2⟩ := hp.ok HH1.out; subst he; unfold roV; have H2 : Hid (Rr w w2 last 0 0 0 nS nS nS ∧ Sub a (bit last :: r0) a2 r1) := ⟨(H1.out.1.set 0 (.bool last) last 0 0 0 nS nS nS rfl).below hb2, H1.out.2.trans hs2⟩; have m1 := H2.out.1.z4.2.1 1 _ rfl; have mf1 := H2.out.1.z4.2.2 1; have m2 := H2.out.1.z4.2.1 2 _ rfl; have mf2 := H2.out.1.z4.2.2 2; have m3 := H2.out.1.z4.2.1 3 _ rfl; have mf3 := H2.out.1.z4.2.2 3; have m4 := H2.out.1.z4.2.1 4 _ rfl; have mf4 := H2.out.1.z4.2.2 4; have m5 := H2.out.1.z4.2.1 5 _ rfl; have mf5 := H2.out.1.z4.2.2 5; have m6 := H2.out.1.z4.2.1 6 _ rfl; have mf6 := H2.out.1.z4.2.2 6; have hl2 := hs2.len; clear hs2 hb2 hp))
    | (go_at_call 43; go_loud (refine (readListL_any a2 r1.length r1 256 _ _ ((H2.out.2.isB HI.out).below ((H2.out.1.set 1 (.int .u64 (x : Int)) last x 0 0 nS nS nS rfl).set 2 (.int .u64 (y : Int)) last x y 0 nS nS nS rfl |>.set 3 (.int .u64 (z : Int)) last x y z nS nS nS rfl |>.set 4 (.slice none 0 0) last x y z nS nS nS rfl |>.set 5 (.slice none 0 0) last x y z nS nS nS rfl |>.set 6 (.slice none 0 0) last x y z nS nS nS rfl).b) rfl (by omega) (by omega) rfl).mono ?_; rintro e w3 hp; have hp2 : LsOk kPl a2 r1 os r2 _ e w3 := ls_ok hp HH2.out; obtain ⟨G1, a3, he, hs3, hb3, hg1, ho1⟩ := hp2; subst he; have H3 : Hid (Rr w w3 last x y z nS nS nS ∧ Sub a (bit last :: r0) a3 r2 ∧ w.heap.size + 1 < G1 ∧ w3.ownsRow 0 kPl.ty kPl.size (.slice (some ⟨G1, 0, none⟩) os.length os.length) os.length (kPl.cells os)) := ⟨((H2.out.1.set 1 (.int .u64 (x : Int)) last x 0 0 nS nS nS rfl).set 2 (.int .u64 (y : Int)) last x y 0 nS nS nS rfl |>.set 3 (.int .u64 (z : Int)) last x y z nS nS nS rfl |>.set 4 (.slice none 0 0) last x y z nS nS nS rfl |>.set 5 (.slice none 0 0) last x y z nS nS nS rfl |>.set 6 (.slice none 0 0) last x y z nS nS nS rfl).below hb3, H2.out.2.trans hs3, Nat.lt_of_lt_of_le ((H2.out.1.set 1 (.int .u64 (x : Int)) last x 0 0 nS nS nS rfl).set 2 (.int .u64 (y : Int)) last x y 0 nS nS nS rfl |>.set 3 (.int .u64 (z : Int)) last x y z nS nS nS rfl |>.set 4 (.slice none 0 0) last x y z nS nS nS rfl |>.set 5 (.slice none 0 0) last x y z nS nS nS rfl |>.set 6 (.slice none 0 0) last x y z nS nS nS rfl).z4.1 hg1, ho1⟩; have n4 := H3.out.1.z4.2.1 4 _ rfl; have nf4 := H3.out.1.z4.2.2 4; have hl3 := hs3.len; clear hs3 hb3 hp ho1 hg1))
    | (go_at_call 45; go_loud (refine (readListD_any a3 r2.length r2 (256 - os.length) _ _ ((H3.out.2.1.isB HI.out).below (H3.out.1.set 4 (.slice (some ⟨G1, 0, none⟩) os.length os.length) last x y z (sv G1 os.length) nS nS rfl).b) rfl (by omega) (by omega) (by omega)).mono ?_; rintro e w4 hp; have hp2 : LsOk kPd a3 r2 is r3 _ e w4 := ls_ok hp HH3.out; obtain ⟨G2, a4, he, hs4, hb4, hg2, ho2⟩ := hp2; subst he; have H4 : Hid (Rr w w4 last x y z (sv G1 os.length) nS nS ∧ Sub a (bit last :: r0) a4 r3 ∧ w.heap.size + 1 < G2 ∧ w4.ownsRow 0 kPd.ty kPd.size (.slice (some ⟨G2, 0, none⟩) is.length is.length) is.length (kPd.cells is) ∧ w4.ownsRow 0 kPl.ty kPl.size (.slice (some ⟨G1, 0, none⟩) os.length os.length) os.length (kPl.cells os)) := ⟨(H3.out.1.set 4 (.slice (some ⟨G1, 0, none⟩) os.length os.length) last x y z (sv G1 os.length) nS nS rfl).below hb4, H3.out.2.1.trans hs4, Nat.lt_of_lt_of_le (H3.out.1.set 4 (.slice (some ⟨G1, 0, none⟩) os.length os.length) last x y z (sv G1 os.length) nS nS rfl).z4.1 hg2, ho2, own_below (own_set_other H3.out.2.2.2 _ 4 _ (by have := H3.out.2.2.1; omega)) hb4⟩; have n5 := H4.out.1.z4.2.1 5 _ rfl; have nf5 := H4.out.1.z4.2.2 5; have hl4 := hs4.len; clear hs4 hb4 hp ho2 hg2))
    | (go_at_call 47; go_loud (refine (readListS_any a4 r3.length r3 5 _ _ ((H4.out.2.1.isB HI.out).below (H4.out.1.set 5 (.slice (some ⟨G2, 0, none⟩) is.length is.length) last x y z (sv G1 os.length) (sv G2 is.length) nS rfl).b) rfl (by omega) (by omega) rfl).mono ?_; rintro e w5 hp; have hp2 : LsOk kT a4 r3 ps r4 _ e w5 := ls_ok hp HH4.out; obtain ⟨G3, a5, he, hs5, hb5, hg3, ho3⟩ := hp2; subst he; have HE : Hid (Rr w w5 last x y z (sv G1 os.length) (sv G2 is.length) nS) := (H4.out.1.set 5 (.slice (some ⟨G2, 0, none⟩) is.length is.length) last x y z (sv G1 os.length) (sv G2 is.length) nS rfl).below hb5; have H5 : Hid ((w.heap.size + 1 < G1 ∧ w.heap.size + 1 < G2 ∧ w.heap.size + 1 < G3) ∧ w5.ownsRow 0 kPl.ty kPl.size (.slice (some ⟨G1, 0, none⟩) os.length os.length) os.length (kPl.cells os) ∧ w5.ownsRow 0 kPd.ty kPd.size (.slice (some ⟨G2, 0, none⟩) is.length is.length) is.length (kPd.cells is) ∧ w5.ownsRow 0 kT.ty kT.size (.slice (some ⟨G3, 0, none⟩) ps.length ps.length) ps.length (kT.cells ps)) := ⟨⟨H3.out.2.2.1, H4.out.2.2.1, Nat.lt_of_lt_of_le (H4.out.1.set 5 (.slice (some ⟨G2, 0, none⟩) is.length is.length) last x y z (sv G1 os.length) (sv G2 is.length) nS rfl).z4.1 hg3⟩, own_below (own_set_other H4.out.2.2.2.2 _ 5 _ (by have := H3.out.2.2.1; omega)) hb5, own_below (own_set_other H4.out.2.2.2.1 _ 5 _ (by have := H4.out.2.2.1; omega)) hb5, ho3⟩; have n6 := HE.out.z4.2.1 6 _ rfl; have nf6 := HE.out.z4.2.2 6; have e0 := HE.out.z0.2.1 0 _ rfl; have ef0 := HE.out.z0.2.2 0; have e1 := HE.out.z0.2.1 1 _ rfl; have ef1 := HE.out.z0.2.2 1; have e2 := HE.out.z0.2.1 2 _ rfl; have ef2 := HE.out.z0.2.2 2; have e3 := HE.out.z0.2.1 3 _ rfl; have ef3 := HE.out.z0.2.2 3; have e4 := HE.out.z0.2.1 4 _ rfl; have ef4 := HE.out.z0.2.2 4; have e5 := HE.out.z0.2.1 5 _ rfl; have ef5 := HE.out.z0.2.2 5; have e6 := HE.out.z0.2.1 6 _ rfl; have ef6 := HE.out.z0.2.2 6; have s0 := HE.out.z4.2.1 0 _ rfl; have sf0 := HE.out.z4.2.2 0; have s1 := HE.out.z4.2.1 1 _ rfl; have sf1 := HE.out.z4.2.2 1; have s2 := HE.out.z4.2.1 2 _ rfl; have sf2 := HE.out.z4.2.2 2; have s3 := HE.out.z4.2.1 3 _ rfl; have sf3 := HE.out.z4.2.2 3; have s4 := HE.out.z4.2.1 4 _ rfl; have sf4 := HE.out.z4.2.2 4; have s5 := HE.out.z4.2.1 5 _ rfl; have sf5 := HE.out.z4.2.2 5; clear hs5 hb5 hp ho3 hg3)))
  go_step3
  refine jump_here ?_
  go_wp2
  (try go_step3)
  go_wp2
  have hz := (HE.out.set 6 (.slice (some ⟨G3, 0, none⟩) ps.length ps.length) last x y z (sv G1 os.length) (sv G2 is.length) (sv G3 ps.length) rfl).end_ false 0 0 0 nS nS nS
  (try rw [Exit.noGoto_ret])
  refine bodyPost_ret (res_rec rfl _ _ w.heap.size false 0 0 0 nS nS nS (by rfl) hz.1) rfl ?_
  exact ⟨rfl, hz.2⟩

set_option maxHeartbeats 1000000 in
theorem readRecord_nil (a : Option Addr) (c : Nat) (w : World) (hm : c ≤ 9223372036854775807) :
    Calls Try.prog 16 #[.slice a 0 c] w fun e w' => RecNo w e w' := by
  have HL : Hid (Calls Try.prog 41 #[.slice a 0 0] ((w.alloc (.cells #[.bool false, .int .u64 0, .int .u64 0, .int .u64 0, .slice none 0 0, .slice none 0 0, .slice none 0 0] 65)).alloc (.cells #[.bool false, .int .u64 0, .int .u64 0, .int .u64 0, .slice none 0 0, .slice none 0 0, .slice none 0 0] 65)) fun e w' => RdNo (.bool false) ((w.alloc (.cells #[.bool false, .int .u64 0, .int .u64 0, .int .u64 0, .slice none 0 0, .slice none 0 0, .slice none 0 0] 65)).alloc (.cells #[.bool false, .int .u64 0, .int .u64 0, .int .u64 0, .slice none 0 0, .slice none 0 0, .slice none 0 0] 65)) e w') := readLast_none a _
  go_enter Try.func16, Try.ntmps16
  go_wp2
  refine wp_scope_fwd (rest := ?rest) 0 ?hf ?_
  case hf => rfl
  go_wp2_with (go_at_call 41; go_loud (refine HL.out.mono ?_; rintro e w1 ⟨he, hb1⟩; subst he; have HE : Hid (Rr w w1 false 0 0 0 nS nS nS) := (rr_new w).below hb1; have k0 := HE.out.z4.2.1 0 _ rfl; have kf0 := HE.out.z4.2.2 0; have e0 := HE.out.z0.2.1 0 _ rfl; have ef0 := HE.out.z0.2.2 0; have e1 := HE.out.z0.2.1 1 _ rfl; have ef1 := HE.out.z0.2.2 1; have e2 := HE.out.z0.2.1 2 _ rfl; have ef2 := HE.out.z0.2.2 2; have e3 := HE.out.z0.2.1 3 _ rfl; have ef3 := HE.out.z0.2.2 3; have e4 := HE.out.z0.2.1 4 _ rfl; have ef4 := HE.out.z0.2.2 4; have e5 := HE.out.z0.2.1 5 _ rfl; have ef5 := HE.out.z0.2.2 5; have e6 := HE.out.z0.2.1 6 _ rfl; have ef6 := HE.out.z0.2.2 6; clear hb1))
  go_step3
  refine jump_here ?_
  go_wp2
  (try go_step3)
  go_wp2
  have hz := (HE.out.set 0 (.bool false) false 0 0 0 nS nS nS rfl).end_ false 0 0 0 nS nS nS
  (try rw [Exit.noGoto_ret])
  refine bodyPost_ret (res_rec rfl _ _ w.heap.size false 0 0 0 nS nS nS (by rfl) hz.1) rfl ?_
  exact ⟨rfl, hz.2⟩

set_option maxHeartbeats 1000000 in
theorem readRecord_byte (a : Option Addr) (L c x : Nat) (r0 : List Nat) (w : World) (h : IsB w a (x :: r0)) (hL : r0.length + 1 = L) (hLc : L ≤ c) (hm : c ≤ 9223372036854775807) (h0 : x ≠ 0) (h1 : x ≠ 1) :
    Calls Try.prog 16 #[.slice a L c] w fun e w' => RecNo w e w' := by
  subst hL
  have HL : Hid (Calls Try.prog 41 #[.slice a (r0.length + 1) (r0.length + 1)] ((w.alloc (.cells #[.bool false, .int .u64 0, .int .u64 0, .int .u64 0, .slice none 0 0, .slice none 0 0, .slice none 0 0] 65)).alloc (.cells #[.bool false, .int .u64 0, .int .u64 0, .int .u64 0, .slice none 0 0, .slice none 0 0, .slice none 0 0] 65)) fun e w' => RdNo (.bool false) ((w.alloc (.cells #[.bool false, .int .u64 0, .int .u64 0, .int .u64 0, .slice none 0 0, .slice none 0 0, .slice none 0 0] 65)).alloc (.cells #[.bool false, .int .u64 0, .int .u64 0, .int .u64 0, .slice none 0 0, .slice none 0 0, .slice none 0 0] 65)) e w') := readLast_no a _ x r0 _ (h.below (rr_new w).b) rfl (by omega) h0 h1
  have q1 : (0 : Int) ≤ (r0.length : Int) + 1 := by omega
  have q2 : (r0.length : Int) + 1 ≤ (c : Int) := by omega
  clear h
  go_enter Try.func16, Try.ntmps16
  go_wp2
  refine wp_scope_fwd (rest := ?rest) 0 ?hf ?_
  case hf => rfl
  go_wp2_with (go_at_call 41; go_loud (refine HL.out.mono ?_; rintro e w1 ⟨he, hb1⟩; subst he; have HE : Hid (Rr w w1 false 0 0 0 nS nS nS) := (rr_new w).below hb1; have k0 := HE.out.z4.2.1 0 _ rfl; have kf0 := HE.out.z4.2.2 0; have e0 := HE.out.z0.2.1 0 _ rfl; have ef0 := HE.out.z0.2.2 0; have e1 := HE.out.z0.2.1 1 _ rfl; have ef1 := HE.out.z0.2.2 1; have e2 := HE.out.z0.2.1 2 _ rfl; have ef2 := HE.out.z0.2.2 2; have e3 := HE.out.z0.2.1 3 _ rfl; have ef3 := HE.out.z0.2.2 3; have e4 := HE.out.z0.2.1 4 _ rfl; have ef4 := HE.out.z0.2.2 4; have e5 := HE.out.z0.2.1 5 _ rfl; have ef5 := HE.out.z0.2.2 5; have e6 := HE.out.z0.2.1 6 _ rfl; have ef6 := HE.out.z0.2.2 6; clear hb1))
  go_step3
  refine jump_here ?_
  go_wp2
  (try go_step3)
  go_wp2
  have hz := (HE.out.set 0 (.bool false) false 0 0 0 nS nS nS rfl).end_ false 0 0 0 nS nS nS
  (try rw [Exit.noGoto_ret])
  refine bodyPost_ret (res_rec rfl _ _ w.heap.size false 0 0 0 nS nS nS (by rfl) hz.1) rfl ?_
  exact ⟨rfl, hz.2⟩

end Mnf
end Go.Proofs.Ytanpbknjnpmmnaa
