import Derived.Test.YtjbnnhephagdmaaDoorMp2
import Derived.Deep.DeepCutAuto
namespace Go.Proofs.YtjbnnhephagdmaaDoor
namespace Mnf
open Go.RowKit CMath Byt Cod Crw Irw Laws
set_option linter.unusedVariables false
set_option linter.unusedSimpArgs false
set_option maxRecDepth 20000
theorem own_some {α : Type} {K : Knd α} {t : Nat} {T : Nat → Nat} {w : World} {a : Option Addr} {n c : Nat} {l : List α} (h : OwnK K t T w (.slice a n c) l) (hl : l ≠ []) : ∃ g, a = some ⟨g, 0, none⟩ ∧ n = l.length ∧ T g = t ∧ g < w.heap.size ∧ l.length ≤ c ∧ c ≤ 9223372036854775807 ∧ IsK K w a l := by
  rcases h.1.2 with ⟨h1, h2⟩ | ⟨g, cap, cur, hv, hb, hh, hc, hm, hr⟩
  · exact absurd (List.eq_nil_of_length_eq_zero h2) hl
  · obtain ⟨a', c', e, k1, k2, k3, k4⟩ := h.form
    cases hv
    cases e
    obtain ⟨q1, q2⟩ := k4 g 0 rfl
    exact ⟨g, rfl, rfl, q1, q2, k2, by unfold maxLen at hm; omega, k1⟩
theorem pd_flat (a b c d e : Nat) (s t : ByteArray) : [a, b, c, d, e].flatMap num ++ [s, t].flatMap keyB = pdB ⟨(a : Int), b, (c : Int), (d : Int), (e : Int), s, t⟩ := by
  unfold pdB
  simp
theorem rec_flat (last : Bool) (x y z : Nat) (os : List Pl) (is : List Pd) (ps : List ByteArray) (ol il pl : Nat) (h1 : ol = os.length) (h2 : il = is.length) (h3 : pl = ps.length) :
    ((((([bit last] ++ [x, y, z, ol].flatMap num) ++ os.flatMap plB) ++ [il].flatMap num) ++ is.flatMap pdB) ++ [pl].flatMap num) ++ ps.flatMap keyB = recB last ⟨x, y, z, os, is, ps⟩ := by
  subst h1 h2 h3
  unfold recB lstB
  simp

set_option maxHeartbeats 2000000 in
theorem putRecord_true (x y z : Nat) (oa : Option Addr) (ol oc : Nat) (ia : Option Addr) (il ic : Nat) (pa : Option Addr) (pl pc : Nat) (os : List Pl) (is : List Pd) (ps : List ByteArray) (w : World) (ho : Ls kPl w (oa, ol, oc) os) (hi : Ls kPd w (ia, il, ic) is) (hp : Ls kT w (pa, pl, pc) ps) (hok : okE ⟨x, y, z, os, is, ps⟩) (ht : os.length + is.length ≤ 256) :
    Calls Tryd.prog 22 #[.agg #[.bool true, .int .u64 (x : Int), .int .u64 (y : Int), .int .u64 (z : Int), .slice oa ol oc, .slice ia il ic, .slice pa pl pc]] w fun e w' => PrIs (recB true ⟨x, y, z, os, is, ps⟩) w e w' := by
  have hol : ol = os.length := ho.2.1
  have hil : il = is.length := hi.2.1
  have hpl : pl = ps.length := hp.2.1
  obtain ⟨⟨hx, hy, hz⟩, ko, ki, kp, kpl⟩ := hok
  dsimp only at hx hy hz ko ki kp kpl
  unfold M64 at hx hy hz
  have HI : Hid (Ls kPd w (ia, il, ic) is) := hi
  have HO : Hid (Ls kPl w (oa, ol, oc) os) := ho
  have HP : Hid (Ls kT w (pa, pl, pc) ps) := hp
  have KO : Hid (∀ q ∈ os, okPl q) := ko
  have KI : Hid (∀ q ∈ is, okPd q) := ki
  have KP : Hid (∀ q ∈ ps, q.size ≤ 64) := kp
  have HOL : Hid (ol = os.length) := hol
  have HIL : Hid (il = is.length) := hil
  have HPL : Hid (pl = ps.length) := hpl
  have bol : ol ≤ 256 := by omega
  have bil : il ≤ 256 := by omega
  have bpl : pl ≤ 5 := by omega
  have e1 := wrap_nat (n := ol) (by omega)
  have e2 := wrap_nat (n := il) (by omega)
  have e3 := wrap_nat (n := pl) (by omega)
  have HR : Hid (((((([bit true] ++ [x, y, z, ol].flatMap num) ++ os.flatMap plB) ++ [il].flatMap num) ++ is.flatMap pdB) ++ [pl].flatMap num) ++ ps.flatMap keyB = recB true ⟨x, y, z, os, is, ps⟩) := rec_flat true x y z os is ps ol il pl hol hil hpl
  have H9 : Hid (([bit true] ++ [x, y, z, ol].flatMap num).length ≤ 41) := by
    have := flat_len (f := num) (c := 10) [x, y, z, ol] (fun v hv => num_le10 (by simp at hv; omega))
    show _ ≤ _
    rw [List.length_append]
    simp only [List.length_cons, List.length_nil] at this ⊢
    omega
  clear ho hi hp ko ki kp hol hil hpl kpl ht
  go_enter Tryd.func22, Tryd.ntmps22
  go_upto_region 4 with (fail)
  obtain ⟨W0, hW0⟩ : ∃ W, (w.alloc (.cells #[.bool true, .int .u64 (x : Int), .int .u64 (y : Int), .int .u64 (z : Int), .slice oa ol oc, .slice ia il ic, .slice pa pl pc] 58)).alloc (.cells #[.int .u8 1] 5) = W := ⟨_, rfl⟩
  have HQ0 : Hid (Pq w (upd (fun _ => 0) (w.heap.size + 1) 1) W0 [.bool true, .int .u64 (x : Int), .int .u64 (y : Int), .int .u64 (z : Int), .slice oa ol oc, .slice ia il ic, .slice pa pl pc] (.slice (some ⟨w.heap.size + 1, 0, none⟩) 1 1) [bit true]) := by rw [← hW0]; exact Pq.start w #[.bool true, .int .u64 (x : Int), .int .u64 (y : Int), .int .u64 (z : Int), .slice oa ol oc, .slice ia il ic, .slice pa pl pc] _ 1
  rw [hW0]
  clear hW0
  generalize upd (fun _ => 0) (w.heap.size + 1) 1 = T0 at HQ0
  have b1 := HQ0.out.box.2.1 1 _ rfl
  have b2 := HQ0.out.box.2.1 2 _ rfl
  have b3 := HQ0.out.box.2.1 3 _ rfl
  have b4 := HQ0.out.box.2.1 4 _ rfl
  have b5 := HQ0.out.box.2.1 5 _ rfl
  have b6 := HQ0.out.box.2.1 6 _ rfl
  go_wp2_with (go_at_call 35; go_loud (refine (appendNumbers_any T0 _ (some ⟨w.heap.size + 1, 0, none⟩) 1 1 [bit true] (some ⟨W0.heap.size, 0, none⟩) 4 4 [x, y, z, ol] (HQ0.out.own.below ((Below.refl _ _).alloc (Nat.le_refl _) _)) (isl_new kU T0 W0 [x, y, z, ol] #[.int .u64 (x : Int), .int .u64 (y : Int), .int .u64 (z : Int), .int .u64 (ol : Int)] _ _ 4 rfl (HQ0.out.high _ (Nat.le_refl _)) rfl rfl) (fun v hv => by simp at hv; omega) (by simp) (by omega)).mono ?_; rintro e w1 ⟨a1, n1, c1, T1, he, ho1, hg1⟩; subst he; have HQ1 : Hid (Pq w T1 w1 [.bool true, .int .u64 (x : Int), .int .u64 (y : Int), .int .u64 (z : Int), .slice oa ol oc, .slice ia il ic, .slice pa pl pc] (.slice a1 n1 c1) ([bit true] ++ [x, y, z, ol].flatMap num)) := (HQ0.out.below ((Below.refl _ _).alloc (Nat.le_refl _) _)).la hg1 ho1; clear b1 b2 b3 b4 b5 b6; have b1 := HQ1.out.box.2.1 1 _ rfl; have b2 := HQ1.out.box.2.1 2 _ rfl; have b3 := HQ1.out.box.2.1 3 _ rfl; have b4 := HQ1.out.box.2.1 4 _ rfl; have b5 := HQ1.out.box.2.1 5 _ rfl; have b6 := HQ1.out.box.2.1 6 _ rfl; clear ho1 hg1))
  generalize [bit true] ++ [x, y, z, ol].flatMap num = P1 at *
  go_loopw [3, 35] (fun v i wr => ∃ (k : Nat) (T : Nat → Nat) (a : Option Addr) (n c : Nat), k ≤ ol ∧ v = .slice a n c ∧ i = .int .i64 (k : Int) ∧ Hid (Pq w T wr [.bool true, .int .u64 (x : Int), .int .u64 (y : Int), .int .u64 (z : Int), .slice oa ol oc, .slice ia il ic, .slice pa pl pc] (.slice a n c) (P1 ++ (os.take k).flatMap plB))) (fun _ i _ => ol - (intOf i).toNat)
  case atStart => exact ⟨0, T1, a1, n1, c1, by omega, rfl, rfl, (show Pq _ _ _ _ _ _ from by simpa using HQ1.out)⟩
  case round =>
    clear HQ1 HQ0 b1 b2 b3 b4 b5 b6
    obtain ⟨k, T, a2, n2, c2, hk, rfl, rfl, HX⟩ := hrel
    rename World => wr
    have hfl : ((os.take k).flatMap plB).length ≤ k * 20 := by
      have := flat_len (f := plB) (c := 20) (os.take k) (fun y hy => pl_len (KO.out y (List.mem_of_mem_take hy)))
      rw [List.length_take, Nat.min_eq_left (by rw [← HOL.out]; exact hk)] at this
      exact this
    have h9 := H9.out
    have hPl : (P1 ++ (os.take k).flatMap plB).length ≤ 41 + k * 20 := by rw [List.length_append]; omega
    by_cases hlt : k < ol
    · have q1 : (k : Int) < (ol : Int) := by omega
      have hko : k < os.length := by rw [← HOL.out]; exact hlt
      obtain ⟨q, hq⟩ : ∃ q, os[k]? = some q := ⟨_, List.getElem?_eq_getElem hko⟩
      obtain ⟨lv, no, rfl, hlv, hno⟩ := pl_nat (KO.out q (List.mem_of_getElem? hq))
      obtain ⟨b0, off0, e, hr⟩ := (HO.out.below HX.out.old.below).1 (by rintro rfl; simp at hko)
      dsimp only at e
      subst e
      have d0 := hr.2 k _ hq 0 _ rfl
      have d1 := hr.2 k _ hq 1 _ rfl
      change wr.cell? ⟨b0, off0 + k * 2, none⟩ = some (.int .i64 (lv : Int)) at d0
      change wr.cell? ⟨b0, off0 + k * 2 + 1, none⟩ = some (.int .u64 (no : Int)) at d1
      have hb0 := hr.1
      have e4 := wrap_nat (n := lv) (by omega)
      have HF : Hid ((os.take (k + 1)).flatMap plB = (os.take k).flatMap plB ++ (num lv ++ num no)) := flat_snoc hq
      have HF2 : Hid ([lv, no].flatMap num = num lv ++ num no) := by show _ = _; simp
      clear hq hr hko
      generalize (os.take k).flatMap plB = FL at *
      go_wp2_with (go_at_call 35; go_loud (refine (appendNumbers_any T _ a2 n2 c2 (P1 ++ FL) (some ⟨wr.heap.size + 1, 0, none⟩) 2 2 [lv, no] (HX.out.own.below (((Below.refl _ _).alloc (Nat.le_refl _) _).alloc (by simp) _)) (isl_new kU T (wr.alloc (.cells #[.int .i64 (lv : Int), .int .u64 (no : Int)] 45)) [lv, no] #[.int .u64 (lv : Int), .int .u64 (no : Int)] _ _ 2 (by simp) (HX.out.high _ (by omega)) rfl rfl) (fun v hv => by simp at hv; omega) (by simp only [List.length_cons, List.length_nil]; omega) (by omega)).mono ?_; rintro e w3 ⟨a3, n3, c3, T3, he, ho3, hg3⟩; subst he; have HQ3 : Hid (Pq w T3 w3 [.bool true, .int .u64 (x : Int), .int .u64 (y : Int), .int .u64 (z : Int), .slice (some ⟨b0, off0, none⟩) ol oc, .slice ia il ic, .slice pa pl pc] (.slice a3 n3 c3) (P1 ++ FL ++ (num lv ++ num no))) := (by have h0 := (HX.out.below (((Below.refl _ _).alloc (Nat.le_refl _) _).alloc (by simp) _)).la hg3 ho3; rw [HF2.out] at h0; exact h0); clear ho3 hg3))
      go_roundw
      case rel => exact ⟨k + 1, T3, a3, n3, c3, by omega, rfl, by go_num, by rw [HF.out, ← List.append_assoc]; exact HQ3.out⟩
      case measure => simp [intOf]; omega
    · obtain rfl : k = ol := by omega
      have q1 : ¬ (k : Int) < (k : Int) := by omega
      have htk : os.take k = os := List.take_of_length_le (by rw [HOL.out]; exact Nat.le_refl _)
      rw [htk] at HX hPl
      clear htk hfl h9
      have b1 := HX.out.box.2.1 1 _ rfl
      have b2 := HX.out.box.2.1 2 _ rfl
      have b3 := HX.out.box.2.1 3 _ rfl
      have b4 := HX.out.box.2.1 4 _ rfl
      have b5 := HX.out.box.2.1 5 _ rfl
      have b6 := HX.out.box.2.1 6 _ rfl
      generalize P1 ++ os.flatMap plB = P2 at *
      go_wp2_with (go_at_call 35; go_loud (refine (appendNumbers_any T _ a2 n2 c2 P2 (some ⟨wr.heap.size, 0, none⟩) 1 1 [il] (HX.out.own.below ((Below.refl _ _).alloc (Nat.le_refl _) _)) (isl_new kU T wr [il] #[.int .u64 (il : Int)] _ _ 1 rfl (HX.out.high _ (Nat.le_refl _)) rfl rfl) (fun v hv => by simp at hv; omega) (by simp only [List.length_cons, List.length_nil]; omega) (by omega)).mono ?_; rintro e w4 ⟨a4, n4, c4, T4, he, ho4, hg4⟩; subst he; have HQ4 : Hid (Pq w T4 w4 [.bool true, .int .u64 (x : Int), .int .u64 (y : Int), .int .u64 (z : Int), .slice oa k oc, .slice ia il ic, .slice pa pl pc] (.slice a4 n4 c4) (P2 ++ [il].flatMap num)) := (HX.out.below ((Below.refl _ _).alloc (Nat.le_refl _) _)).la hg4 ho4; clear b1 b2 b3 b4 b5 b6; have b1 := HQ4.out.box.2.1 1 _ rfl; have b2 := HQ4.out.box.2.1 2 _ rfl; have b3 := HQ4.out.box.2.1 3 _ rfl; have b4 := HQ4.out.box.2.1 4 _ rfl; have b5 := HQ4.out.box.2.1 5 _ rfl; have b6 := HQ4.out.box.2.1 6 _ rfl; clear ho4 hg4))
      have hP3 : (P2 ++ [il].flatMap num).length ≤ 6000 := by
        have := num_le10 (n := il) (by omega)
        simp
        omega
      generalize P2 ++ [il].flatMap num = P3 at *
      clear HX
      go_loopw [3, 60] (fun v i wq => ∃ (j : Nat) (T : Nat → Nat) (a : Option Addr) (n c : Nat), j ≤ il ∧ v = .slice a n c ∧ i = .int .i64 (j : Int) ∧ Hid (Pq w T wq [.bool true, .int .u64 (x : Int), .int .u64 (y : Int), .int .u64 (z : Int), .slice oa k oc, .slice ia il ic, .slice pa pl pc] (.slice a n c) (P3 ++ (is.take j).flatMap pdB))) (fun _ i _ => il - (intOf i).toNat)
      case atStart => exact ⟨0, T4, a4, n4, c4, by omega, rfl, rfl, (show Pq _ _ _ _ _ _ from by simpa using HQ4.out)⟩
      case round =>
        clear HQ4 b1 b2 b3 b4 b5 b6
        obtain ⟨j, T5, a5, n5, c5, hj, rfl, rfl, HX⟩ := hrel
        rename World => wq
        have hfl : ((is.take j).flatMap pdB).length ≤ j * 198 := by
          have := flat_len (f := pdB) (c := 198) (is.take j) (fun y hy => pd_len (KI.out y (List.mem_of_mem_take hy)))
          rw [List.length_take, Nat.min_eq_left (by rw [← HIL.out]; exact hj)] at this
          exact this
        have hPl : (P3 ++ (is.take j).flatMap pdB).length ≤ 6000 + j * 198 := by rw [List.length_append]; omega
        by_cases hlt : j < il
        · have q1 : (j : Int) < (il : Int) := by omega
          have hko : j < is.length := by rw [← HIL.out]; exact hlt
          obtain ⟨q, hq⟩ : ∃ q, is[j]? = some q := ⟨_, List.getElem?_eq_getElem hko⟩
          obtain ⟨lv, no, we, by_, en, hqe, hlv, hno, hwe, hby, hen, hle, hgr⟩ := pd_nat (KI.out q (List.mem_of_getElem? hq))
          obtain ⟨le, hle0⟩ : ∃ le, q.le = le := ⟨_, rfl⟩
          obtain ⟨gr, hgr0⟩ : ∃ gr, q.gr = gr := ⟨_, rfl⟩
          rw [hle0] at hqe hle
          rw [hgr0] at hqe hgr
          clear hle0 hgr0
          subst hqe
          obtain ⟨b0, off0, e, hr⟩ := (HI.out.below HX.out.old.below).1 (by rintro rfl; simp at hko)
          dsimp only at e
          subst e
          have d0 := hr.2 j _ hq 0 _ rfl
          have d1 := hr.2 j _ hq 1 _ rfl
          have d2 := hr.2 j _ hq 2 _ rfl
          have d3 := hr.2 j _ hq 3 _ rfl
          have d4 := hr.2 j _ hq 4 _ rfl
          have d5 := hr.2 j _ hq 5 _ rfl
          have d6 := hr.2 j _ hq 6 _ rfl
          change wq.cell? ⟨b0, off0 + j * 7, none⟩ = some (.int .i64 (lv : Int)) at d0
          change wq.cell? ⟨b0, off0 + j * 7 + 1, none⟩ = some (.int .u64 (no : Int)) at d1
          change wq.cell? ⟨b0, off0 + j * 7 + 2, none⟩ = some (.int .i64 (we : Int)) at d2
          change wq.cell? ⟨b0, off0 + j * 7 + 3, none⟩ = some (.int .i64 (by_ : Int)) at d3
          change wq.cell? ⟨b0, off0 + j * 7 + 4, none⟩ = some (.int .i64 (en : Int)) at d4
          change wq.cell? ⟨b0, off0 + j * 7 + 5, none⟩ = some (.string le) at d5
          change wq.cell? ⟨b0, off0 + j * 7 + 6, none⟩ = some (.string gr) at d6
          have hb0 := hr.1
          have e4 := wrap_nat (n := lv) (by omega)
          have e5 := wrap_nat hwe
          have e6 := wrap_nat hby
          have e7 := wrap_nat hen
          have HF : Hid ((is.take (j + 1)).flatMap pdB = (is.take j).flatMap pdB ++ pdB ⟨(lv : Int), no, (we : Int), (by_ : Int), (en : Int), le, gr⟩) := flat_snoc hq
          clear hq hr hko hfl
          generalize (is.take j).flatMap pdB = FL at *
          go_wp2_with (first
            | (go_at_call 35; go_loud (refine (appendNumbers_any T5 _ a5 n5 c5 (P3 ++ FL) (some ⟨wq.heap.size + 1 + 1, 0, none⟩) 5 5 [lv, no, we, by_, en] (HX.out.own.below ((((Below.refl _ _).alloc (Nat.le_refl _) _).alloc (by simp) _).alloc (by simp; try omega) _)) (isl_new kU T5 ((wq.alloc (.cells #[.int .i64 (lv : Int), .int .u64 (no : Int), .int .i64 (we : Int), .int .i64 (by_ : Int), .int .i64 (en : Int), .string le, .string gr] 49)).alloc (.cells #[.int .u64 (no : Int), .int .i64 (we : Int), .int .i64 (by_ : Int), .int .i64 (en : Int), .string le, .string gr] 47)) [lv, no, we, by_, en] #[.int .u64 (lv : Int), .int .u64 (no : Int), .int .u64 (we : Int), .int .u64 (by_ : Int), .int .u64 (en : Int)] _ _ 5 (by simp) (HX.out.high _ (by omega)) rfl rfl) (fun v hv => by simp at hv; omega) (by simp only [List.length_cons, List.length_nil]; omega) (by omega)).mono ?_; rintro e w6 ⟨a6, n6, c6, T6, he, ho6, hg6⟩; subst he; have HQ6 : Hid (Pq w T6 w6 [.bool true, .int .u64 (x : Int), .int .u64 (y : Int), .int .u64 (z : Int), .slice oa k oc, .slice (some ⟨b0, off0, none⟩) il ic, .slice pa pl pc] (.slice a6 n6 c6) (P3 ++ FL ++ [lv, no, we, by_, en].flatMap num)) := (HX.out.below ((((Below.refl _ _).alloc (Nat.le_refl _) _).alloc (by simp) _).alloc (by simp; try omega) _)).la hg6 ho6; have hz8 := ((Zb.new (wq.alloc (.cells #[.int .i64 (lv : Int), .int .u64 (no : Int), .int .i64 (we : Int), .int .i64 (by_ : Int), .int .i64 (en : Int), .string le, .string gr] 49)) #[.int .u64 (no : Int), .int .i64 (we : Int), .int .i64 (by_ : Int), .int .i64 (en : Int), .string le, .string gr] 47).below ((Below.refl _ _).alloc (Nat.le_refl _) _)).goes hg6 (by rw [HX.out.high _ (by simp)]; decide); rw [World.size_alloc] at hz8; have t4 := hz8.2.1 4 _ rfl; have t5 := hz8.2.1 5 _ rfl; clear ho6 hg6 hz8))
            | (go_at_call 36; go_loud (refine (appendTexts_any T6 _ a6 n6 c6 (P3 ++ FL ++ [lv, no, we, by_, en].flatMap num) (some ⟨w6.heap.size, 0, none⟩) 2 2 [le, gr] (HQ6.out.own.below ((Below.refl _ _).alloc (Nat.le_refl _) _)) (isl_new kT T6 w6 [le, gr] #[.string le, .string gr] _ _ 2 rfl (HQ6.out.high _ (Nat.le_refl _)) rfl rfl) (fun v hv => by (simp at hv; rcases hv with rfl | rfl; exact hle; exact hgr)) (by (have hh := flat_len (f := num) (c := 10) [lv, no, we, by_, en] (fun v hv => num_le10 (by simp at hv; omega)); rw [List.length_append]; simp only [List.length_cons, List.length_nil] at hh ⊢; omega)) (by omega)).mono ?_; rintro e w7 ⟨a7, n7, c7, T7, he, ho7, hg7⟩; subst he; have HQ7 : Hid (Pq w T7 w7 [.bool true, .int .u64 (x : Int), .int .u64 (y : Int), .int .u64 (z : Int), .slice oa k oc, .slice (some ⟨b0, off0, none⟩) il ic, .slice pa pl pc] (.slice a7 n7 c7) (P3 ++ FL ++ pdB ⟨(lv : Int), no, (we : Int), (by_ : Int), (en : Int), le, gr⟩)) := (by have h0 := (HQ6.out.below ((Below.refl _ _).alloc (Nat.le_refl _) _)).la hg7 ho7; rw [List.append_assoc (P3 ++ FL), pd_flat] at h0; exact h0); clear ho7 hg7)))
          go_roundw
          case rel =>
            have h0 := HQ7.out
            rw [List.append_assoc, ← HF.out] at h0
            exact ⟨j + 1, T7, a7, n7, c7, by omega, rfl, by go_num, h0⟩
          case measure => simp [intOf]; omega
        · obtain rfl : j = il := by omega
          have q1 : ¬ (j : Int) < (j : Int) := by omega
          have htk : is.take j = is := List.take_of_length_le (by rw [HIL.out]; exact Nat.le_refl _)
          rw [htk] at HX hPl
          clear htk hfl
          have b1 := HX.out.box.2.1 1 _ rfl
          have b2 := HX.out.box.2.1 2 _ rfl
          have b3 := HX.out.box.2.1 3 _ rfl
          have b4 := HX.out.box.2.1 4 _ rfl
          have b5 := HX.out.box.2.1 5 _ rfl
          have b6 := HX.out.box.2.1 6 _ rfl
          generalize P3 ++ is.flatMap pdB = P4 at *
          have hP5 : (P4 ++ [pl].flatMap num).length ≤ 100000 := by
            have := num_le10 (n := pl) (by omega)
            simp
            omega
          go_wp2_with (first
            | (go_at_call 35; go_loud (refine (appendNumbers_any T5 _ a5 n5 c5 P4 (some ⟨wq.heap.size, 0, none⟩) 1 1 [pl] (HX.out.own.below ((Below.refl _ _).alloc (Nat.le_refl _) _)) (isl_new kU T5 wq [pl] #[.int .u64 (pl : Int)] _ _ 1 rfl (HX.out.high _ (Nat.le_refl _)) rfl rfl) (fun v hv => by simp at hv; omega) (by simp only [List.length_cons, List.length_nil]; omega) (by omega)).mono ?_; rintro e w8 ⟨a8, n8, c8, T8, he, ho8, hg8⟩; subst he; have HQ8 : Hid (Pq w T8 w8 [.bool true, .int .u64 (x : Int), .int .u64 (y : Int), .int .u64 (z : Int), .slice oa k oc, .slice ia j ic, .slice pa pl pc] (.slice a8 n8 c8) (P4 ++ [pl].flatMap num)) := (HX.out.below ((Below.refl _ _).alloc (Nat.le_refl _) _)).la hg8 ho8; clear b1 b2 b3 b4 b5 b6; have b1 := HQ8.out.box.2.1 1 _ rfl; have b2 := HQ8.out.box.2.1 2 _ rfl; have b3 := HQ8.out.box.2.1 3 _ rfl; have b4 := HQ8.out.box.2.1 4 _ rfl; have b5 := HQ8.out.box.2.1 5 _ rfl; have b6 := HQ8.out.box.2.1 6 _ rfl; clear ho8 hg8))
            | (go_at_call 36; go_loud (refine (appendTexts_any T8 w8 a8 n8 c8 (P4 ++ [pl].flatMap num) pa pl pc ps HQ8.out.own (Isl.old HP.out HQ8.out.old) KP.out (by rw [← HPL.out]; omega) (by omega)).mono ?_; rintro e w9 ⟨a9, n9, c9, T9, he, ho9, hg9⟩; subst he; have HQ9 : Hid (Pq w T9 w9 [.bool true, .int .u64 (x : Int), .int .u64 (y : Int), .int .u64 (z : Int), .slice oa k oc, .slice ia j ic, .slice pa pl pc] (.slice a9 n9 c9) (P4 ++ [pl].flatMap num ++ ps.flatMap keyB)) := HQ8.out.la hg9 ho9; clear ho9 hg9)))
          go_ret
          have h9 := HQ9.out
          rw [HR.out] at h9
          obtain ⟨g, rfl, hn9, ht9, hl9, hc9, hm9, hk9⟩ := own_some h9.own (by unfold recB; simp)
          subst hn9
          refine ⟨g, c9, rfl, isB_isK hk9 (rec_byte _ _), hc9, hm9, ?_, hl9, h9.old.below⟩
          rcases Nat.lt_or_ge g w.heap.size with hlt | hge
          · have := h9.old.zero g (.inl hlt)
            omega
          · exact hge

set_option maxHeartbeats 2000000 in
theorem putRecord_false (x y z : Nat) (oa : Option Addr) (ol oc : Nat) (ia : Option Addr) (il ic : Nat) (pa : Option Addr) (pl pc : Nat) (os : List Pl) (is : List Pd) (ps : List ByteArray) (w : World) (ho : Ls kPl w (oa, ol, oc) os) (hi : Ls kPd w (ia, il, ic) is) (hp : Ls kT w (pa, pl, pc) ps) (hok : okE ⟨x, y, z, os, is, ps⟩) (ht : os.length + is.length ≤ 256) :
    Calls Tryd.prog 22 #[.agg #[.bool false, .int .u64 (x : Int), .int .u64 (y : Int), .int .u64 (z : Int), .slice oa ol oc, .slice ia il ic, .slice pa pl pc]] w fun e w' => PrIs (recB false ⟨x, y, z, os, is, ps⟩) w e w' := by
  have hol : ol = os.length := ho.2.1
  have hil : il = is.length := hi.2.1
  have hpl : pl = ps.length := hp.2.1
  obtain ⟨⟨hx, hy, hz⟩, ko, ki, kp, kpl⟩ := hok
  dsimp only at hx hy hz ko ki kp kpl
  unfold M64 at hx hy hz
  have HI : Hid (Ls kPd w (ia, il, ic) is) := hi
  have HO : Hid (Ls kPl w (oa, ol, oc) os) := ho
  have HP : Hid (Ls kT w (pa, pl, pc) ps) := hp
  have KO : Hid (∀ q ∈ os, okPl q) := ko
  have KI : Hid (∀ q ∈ is, okPd q) := ki
  have KP : Hid (∀ q ∈ ps, q.size ≤ 64) := kp
  have HOL : Hid (ol = os.length) := hol
  have HIL : Hid (il = is.length) := hil
  have HPL : Hid (pl = ps.length) := hpl
  have bol : ol ≤ 256 := by omega
  have bil : il ≤ 256 := by omega
  have bpl : pl ≤ 5 := by omega
  have e1 := wrap_nat (n := ol) (by omega)
  have e2 := wrap_nat (n := il) (by omega)
  have e3 := wrap_nat (n := pl) (by omega)
  have HR : Hid (((((([bit false] ++ [x, y, z, ol].flatMap num) ++ os.flatMap plB) ++ [il].flatMap num) ++ is.flatMap pdB) ++ [pl].flatMap num) ++ ps.flatMap keyB = recB false ⟨x, y, z, os, is, ps⟩) := rec_flat false x y z os is ps ol il pl hol hil hpl
  have H9 : Hid (([bit false] ++ [x, y, z, ol].flatMap num).length ≤ 41) := by
    have := flat_len (f := num) (c := 10) [x, y, z, ol] (fun v hv => num_le10 (by simp at hv; omega))
    show _ ≤ _
    rw [List.length_append]
    simp only [List.length_cons, List.length_nil] at this ⊢
    omega
  clear ho hi hp ko ki kp hol hil hpl kpl ht
  go_enter Tryd.func22, Tryd.ntmps22
  go_upto_region 4 with (fail)
  obtain ⟨W0, hW0⟩ : ∃ W, (w.alloc (.cells #[.bool false, .int .u64 (x : Int), .int .u64 (y : Int), .int .u64 (z : Int), .slice oa ol oc, .slice ia il ic, .slice pa pl pc] 58)).alloc (.cells #[.int .u8 0] 5) = W := ⟨_, rfl⟩
  have HQ0 : Hid (Pq w (upd (fun _ => 0) (w.heap.size + 1) 1) W0 [.bool false, .int .u64 (x : Int), .int .u64 (y : Int), .int .u64 (z : Int), .slice oa ol oc, .slice ia il ic, .slice pa pl pc] (.slice (some ⟨w.heap.size + 1, 0, none⟩) 1 1) [bit false]) := by rw [← hW0]; exact Pq.start w #[.bool false, .int .u64 (x : Int), .int .u64 (y : Int), .int .u64 (z : Int), .slice oa ol oc, .slice ia il ic, .slice pa pl pc] _ 0
  rw [hW0]
  clear hW0
  generalize upd (fun _ => 0) (w.heap.size + 1) 1 = T0 at HQ0
  have b1 := HQ0.out.box.2.1 1 _ rfl
  have b2 := HQ0.out.box.2.1 2 _ rfl
  have b3 := HQ0.out.box.2.1 3 _ rfl
  have b4 := HQ0.out.box.2.1 4 _ rfl
  have b5 := HQ0.out.box.2.1 5 _ rfl
  have b6 := HQ0.out.box.2.1 6 _ rfl
  go_wp2_with (go_at_call 35; go_loud (refine (appendNumbers_any T0 _ (some ⟨w.heap.size + 1, 0, none⟩) 1 1 [bit false] (some ⟨W0.heap.size, 0, none⟩) 4 4 [x, y, z, ol] (HQ0.out.own.below ((Below.refl _ _).alloc (Nat.le_refl _) _)) (isl_new kU T0 W0 [x, y, z, ol] #[.int .u64 (x : Int), .int .u64 (y : Int), .int .u64 (z : Int), .int .u64 (ol : Int)] _ _ 4 rfl (HQ0.out.high _ (Nat.le_refl _)) rfl rfl) (fun v hv => by simp at hv; omega) (by simp) (by omega)).mono ?_; rintro e w1 ⟨a1, n1, c1, T1, he, ho1, hg1⟩; subst he; have HQ1 : Hid (Pq w T1 w1 [.bool false, .int .u64 (x : Int), .int .u64 (y : Int), .int .u64 (z : Int), .slice oa ol oc, .slice ia il ic, .slice pa pl pc] (.slice a1 n1 c1) ([bit false] ++ [x, y, z, ol].flatMap num)) := (HQ0.out.below ((Below.refl _ _).alloc (Nat.le_refl _) _)).la hg1 ho1; clear b1 b2 b3 b4 b5 b6; have b1 := HQ1.out.box.2.1 1 _ rfl; have b2 := HQ1.out.box.2.1 2 _ rfl; have b3 := HQ1.out.box.2.1 3 _ rfl; have b4 := HQ1.out.box.2.1 4 _ rfl; have b5 := HQ1.out.box.2.1 5 _ rfl; have b6 := HQ1.out.box.2.1 6 _ rfl; clear ho1 hg1))
  generalize [bit false] ++ [x, y, z, ol].flatMap num = P1 at *
  go_loopw [3, 35] (fun v i wr => ∃ (k : Nat) (T : Nat → Nat) (a : Option Addr) (n c : Nat), k ≤ ol ∧ v = .slice a n c ∧ i = .int .i64 (k : Int) ∧ Hid (Pq w T wr [.bool false, .int .u64 (x : Int), .int .u64 (y : Int), .int .u64 (z : Int), .slice oa ol oc, .slice ia il ic, .slice pa pl pc] (.slice a n c) (P1 ++ (os.take k).flatMap plB))) (fun _ i _ => ol - (intOf i).toNat)
  case atStart => exact ⟨0, T1, a1, n1, c1, by omega, rfl, rfl, (show Pq _ _ _ _ _ _ from by simpa using HQ1.out)⟩
  case round =>
    clear HQ1 HQ0 b1 b2 b3 b4 b5 b6
    obtain ⟨k, T, a2, n2, c2, hk, rfl, rfl, HX⟩ := hrel
    rename World => wr
    have hfl : ((os.take k).flatMap plB).length ≤ k * 20 := by
      have := flat_len (f := plB) (c := 20) (os.take k) (fun y hy => pl_len (KO.out y (List.mem_of_mem_take hy)))
      rw [List.length_take, Nat.min_eq_left (by rw [← HOL.out]; exact hk)] at this
      exact this
    have h9 := H9.out
    have hPl : (P1 ++ (os.take k).flatMap plB).length ≤ 41 + k * 20 := by rw [List.length_append]; omega
    by_cases hlt : k < ol
    · have q1 : (k : Int) < (ol : Int) := by omega
      have hko : k < os.length := by rw [← HOL.out]; exact hlt
      obtain ⟨q, hq⟩ : ∃ q, os[k]? = some q := ⟨_, List.getElem?_eq_getElem hko⟩
      obtain ⟨lv, no, rfl, hlv, hno⟩ := pl_nat (KO.out q (List.mem_of_getElem? hq))
      obtain ⟨b0, off0, e, hr⟩ := (HO.out.below HX.out.old.below).1 (by rintro rfl; simp at hko)
      dsimp only at e
      subst e
      have d0 := hr.2 k _ hq 0 _ rfl
      have d1 := hr.2 k _ hq 1 _ rfl
      change wr.cell? ⟨b0, off0 + k * 2, none⟩ = some (.int .i64 (lv : Int)) at d0
      change wr.cell? ⟨b0, off0 + k * 2 + 1, none⟩ = some (.int .u64 (no : Int)) at d1
      have hb0 := hr.1
      have e4 := wrap_nat (n := lv) (by omega)
      have HF : Hid ((os.take (k + 1)).flatMap plB = (os.take k).flatMap plB ++ (num lv ++ num no)) := flat_snoc hq
      have HF2 : Hid ([lv, no].flatMap num = num lv ++ num no) := by show _ = _; simp
      clear hq hr hko
      generalize (os.take k).flatMap plB = FL at *
      go_wp2_with (go_at_call 35; go_loud (refine (appendNumbers_any T _ a2 n2 c2 (P1 ++ FL) (some ⟨wr.heap.size + 1, 0, none⟩) 2 2 [lv, no] (HX.out.own.below (((Below.refl _ _).alloc (Nat.le_refl _) _).alloc (by simp) _)) (isl_new kU T (wr.alloc (.cells #[.int .i64 (lv : Int), .int .u64 (no : Int)] 45)) [lv, no] #[.int .u64 (lv : Int), .int .u64 (no : Int)] _ _ 2 (by simp) (HX.out.high _ (by omega)) rfl rfl) (fun v hv => by simp at hv; omega) (by simp only [List.length_cons, List.length_nil]; omega) (by omega)).mono ?_; rintro e w3 ⟨a3, n3, c3, T3, he, ho3, hg3⟩; subst he; have HQ3 : Hid (Pq w T3 w3 [.bool false, .int .u64 (x : Int), .int .u64 (y : Int), .int .u64 (z : Int), .slice (some ⟨b0, off0, none⟩) ol oc, .slice ia il ic, .slice pa pl pc] (.slice a3 n3 c3) (P1 ++ FL ++ (num lv ++ num no))) := (by have h0 := (HX.out.below (((Below.refl _ _).alloc (Nat.le_refl _) _).alloc (by simp) _)).la hg3 ho3; rw [HF2.out] at h0; exact h0); clear ho3 hg3))
      go_roundw
      case rel => exact ⟨k + 1, T3, a3, n3, c3, by omega, rfl, by go_num, by rw [HF.out, ← List.append_assoc]; exact HQ3.out⟩
      case measure => simp [intOf]; omega
    · obtain rfl : k = ol := by omega
      have q1 : ¬ (k : Int) < (k : Int) := by omega
      have htk : os.take k = os := List.take_of_length_le (by rw [HOL.out]; exact Nat.le_refl _)
      rw [htk] at HX hPl
      clear htk hfl h9
      have b1 := HX.out.box.2.1 1 _ rfl
      have b2 := HX.out.box.2.1 2 _ rfl
      have b3 := HX.out.box.2.1 3 _ rfl
      have b4 := HX.out.box.2.1 4 _ rfl
      have b5 := HX.out.box.2.1 5 _ rfl
      have b6 := HX.out.box.2.1 6 _ rfl
      generalize P1 ++ os.flatMap plB = P2 at *
      go_wp2_with (go_at_call 35; go_loud (refine (appendNumbers_any T _ a2 n2 c2 P2 (some ⟨wr.heap.size, 0, none⟩) 1 1 [il] (HX.out.own.below ((Below.refl _ _).alloc (Nat.le_refl _) _)) (isl_new kU T wr [il] #[.int .u64 (il : Int)] _ _ 1 rfl (HX.out.high _ (Nat.le_refl _)) rfl rfl) (fun v hv => by simp at hv; omega) (by simp only [List.length_cons, List.length_nil]; omega) (by omega)).mono ?_; rintro e w4 ⟨a4, n4, c4, T4, he, ho4, hg4⟩; subst he; have HQ4 : Hid (Pq w T4 w4 [.bool false, .int .u64 (x : Int), .int .u64 (y : Int), .int .u64 (z : Int), .slice oa k oc, .slice ia il ic, .slice pa pl pc] (.slice a4 n4 c4) (P2 ++ [il].flatMap num)) := (HX.out.below ((Below.refl _ _).alloc (Nat.le_refl _) _)).la hg4 ho4; clear b1 b2 b3 b4 b5 b6; have b1 := HQ4.out.box.2.1 1 _ rfl; have b2 := HQ4.out.box.2.1 2 _ rfl; have b3 := HQ4.out.box.2.1 3 _ rfl; have b4 := HQ4.out.box.2.1 4 _ rfl; have b5 := HQ4.out.box.2.1 5 _ rfl; have b6 := HQ4.out.box.2.1 6 _ rfl; clear ho4 hg4))
      have hP3 : (P2 ++ [il].flatMap num).length ≤ 6000 := by
        have := num_le10 (n := il) (by omega)
        simp
        omega
      generalize P2 ++ [il].flatMap num = P3 at *
      clear HX
      go_loopw [3, 60] (fun v i wq => ∃ (j : Nat) (T : Nat → Nat) (a : Option Addr) (n c : Nat), j ≤ il ∧ v = .slice a n c ∧ i = .int .i64 (j : Int) ∧ Hid (Pq w T wq [.bool false, .int .u64 (x : Int), .int .u64 (y : Int), .int .u64 (z : Int), .slice oa k oc, .slice ia il ic, .slice pa pl pc] (.slice a n c) (P3 ++ (is.take j).flatMap pdB))) (fun _ i _ => il - (intOf i).toNat)
      case atStart => exact ⟨0, T4, a4, n4, c4, by omega, rfl, rfl, (show Pq _ _ _ _ _ _ from by simpa using HQ4.out)⟩
      case round =>
        clear HQ4 b1 b2 b3 b4 b5 b6
        obtain ⟨j, T5, a5, n5, c5, hj, rfl, rfl, HX⟩ := hrel
        rename World => wq
        have hfl : ((is.take j).flatMap pdB).length ≤ j * 198 := by
          have := flat_len (f := pdB) (c := 198) (is.take j) (fun y hy => pd_len (KI.out y (List.mem_of_mem_take hy)))
          rw [List.length_take, Nat.min_eq_left (by rw [← HIL.out]; exact hj)] at this
          exact this
        have hPl : (P3 ++ (is.take j).flatMap pdB).length ≤ 6000 + j * 198 := by rw [List.length_append]; omega
        by_cases hlt : j < il
        · have q1 : (j : Int) < (il : Int) := by omega
          have hko : j < is.length := by rw [← HIL.out]; exact hlt
          obtain ⟨q, hq⟩ : ∃ q, is[j]? = some q := ⟨_, List.getElem?_eq_getElem hko⟩
          obtain ⟨lv, no, we, by_, en, hqe, hlv, hno, hwe, hby, hen, hle, hgr⟩ := pd_nat (KI.out q (List.mem_of_getElem? hq))
          obtain ⟨le, hle0⟩ : ∃ le, q.le = le := ⟨_, rfl⟩
          obtain ⟨gr, hgr0⟩ : ∃ gr, q.gr = gr := ⟨_, rfl⟩
          rw [hle0] at hqe hle
          rw [hgr0] at hqe hgr
          clear hle0 hgr0
          subst hqe
          obtain ⟨b0, off0, e, hr⟩ := (HI.out.below HX.out.old.below).1 (by rintro rfl; simp at hko)
          dsimp only at e
          subst e
          have d0 := hr.2 j _ hq 0 _ rfl
          have d1 := hr.2 j _ hq 1 _ rfl
          have d2 := hr.2 j _ hq 2 _ rfl
          have d3 := hr.2 j _ hq 3 _ rfl
          have d4 := hr.2 j _ hq 4 _ rfl
          have d5 := hr.2 j _ hq 5 _ rfl
          have d6 := hr.2 j _ hq 6 _ rfl
          change wq.cell? ⟨b0, off0 + j * 7, none⟩ = some (.int .i64 (lv : Int)) at d0
          change wq.cell? ⟨b0, off0 + j * 7 + 1, none⟩ = some (.int .u64 (no : Int)) at d1
          change wq.cell? ⟨b0, off0 + j * 7 + 2, none⟩ = some (.int .i64 (we : Int)) at d2
          change wq.cell? ⟨b0, off0 + j * 7 + 3, none⟩ = some (.int .i64 (by_ : Int)) at d3
          change wq.cell? ⟨b0, off0 + j * 7 + 4, none⟩ = some (.int .i64 (en : Int)) at d4
          change wq.cell? ⟨b0, off0 + j * 7 + 5, none⟩ = some (.string le) at d5
          change wq.cell? ⟨b0, off0 + j * 7 + 6, none⟩ = some (.string gr) at d6
          have hb0 := hr.1
          have e4 := wrap_nat (n := lv) (by omega)
          have e5 := wrap_nat hwe
          have e6 := wrap_nat hby
          have e7 := wrap_nat hen
          have HF : Hid ((is.take (j + 1)).flatMap pdB = (is.take j).flatMap pdB ++ pdB ⟨(lv : Int), no, (we : Int), (by_ : Int), (en : Int), le, gr⟩) := flat_snoc hq
          clear hq hr hko hfl
          generalize (is.take j).flatMap pdB = FL at *
          go_wp2_with (first
            | (go_at_call 35; go_loud (refine (appendNumbers_any T5 _ a5 n5 c5 (P3 ++ FL) (some ⟨wq.heap.size + 1 + 1, 0, none⟩) 5 5 [lv, no, we, by_, en] (HX.out.own.below ((((Below.refl _ _).alloc (Nat.le_refl _) _).alloc (by simp) _).alloc (by simp; try omega) _)) (isl_new kU T5 ((wq.alloc (.cells #[.int .i64 (lv : Int), .int .u64 (no : Int), .int .i64 (we : Int), .int .i64 (by_ : Int), .int .i64 (en : Int), .string le, .string gr] 49)).alloc (.cells #[.int .u64 (no : Int), .int .i64 (we : Int), .int .i64 (by_ : Int), .int .i64 (en : Int), .string le, .string gr] 47)) [lv, no, we, by_, en] #[.int .u64 (lv : Int), .int .u64 (no : Int), .int .u64 (we : Int), .int .u64 (by_ : Int), .int .u64 (en : Int)] _ _ 5 (by simp) (HX.out.high _ (by omega)) rfl rfl) (fun v hv => by simp at hv; omega) (by simp only [List.length_cons, List.length_nil]; omega) (by omega)).mono ?_; rintro e w6 ⟨a6, n6, c6, T6, he, ho6, hg6⟩; subst he; have HQ6 : Hid (Pq w T6 w6 [.bool false, .int .u64 (x : Int), .int .u64 (y : Int), .int .u64 (z : Int), .slice oa k oc, .slice (some ⟨b0, off0, none⟩) il ic, .slice pa pl pc] (.slice a6 n6 c6) (P3 ++ FL ++ [lv, no, we, by_, en].flatMap num)) := (HX.out.below ((((Below.refl _ _).alloc (Nat.le_refl _) _).alloc (by simp) _).alloc (by simp; try omega) _)).la hg6 ho6; have hz8 := ((Zb.new (wq.alloc (.cells #[.int .i64 (lv : Int), .int .u64 (no : Int), .int .i64 (we : Int), .int .i64 (by_ : Int), .int .i64 (en : Int), .string le, .string gr] 49)) #[.int .u64 (no : Int), .int .i64 (we : Int), .int .i64 (by_ : Int), .int .i64 (en : Int), .string le, .string gr] 47).below ((Below.refl _ _).alloc (Nat.le_refl _) _)).goes hg6 (by rw [HX.out.high _ (by simp)]; decide); rw [World.size_alloc] at hz8; have t4 := hz8.2.1 4 _ rfl; have t5 := hz8.2.1 5 _ rfl; clear ho6 hg6 hz8))
            | (go_at_call 36; go_loud (refine (appendTexts_any T6 _ a6 n6 c6 (P3 ++ FL ++ [lv, no, we, by_, en].flatMap num) (some ⟨w6.heap.size, 0, none⟩) 2 2 [le, gr] (HQ6.out.own.below ((Below.refl _ _).alloc (Nat.le_refl _) _)) (isl_new kT T6 w6 [le, gr] #[.string le, .string gr] _ _ 2 rfl (HQ6.out.high _ (Nat.le_refl _)) rfl rfl) (fun v hv => by (simp at hv; rcases hv with rfl | rfl; exact hle; exact hgr)) (by (have hh := flat_len (f := num) (c := 10) [lv, no, we, by_, en] (fun v hv => num_le10 (by simp at hv; omega)); rw [List.length_append]; simp only [List.length_cons, List.length_nil] at hh ⊢; omega)) (by omega)).mono ?_; rintro e w7 ⟨a7, n7, c7, T7, he, ho7, hg7⟩; subst he; have HQ7 : Hid (Pq w T7 w7 [.bool false, .int .u64 (x : Int), .int .u64 (y : Int), .int .u64 (z : Int), .slice oa k oc, .slice (some ⟨b0, off0, none⟩) il ic, .slice pa pl pc] (.slice a7 n7 c7) (P3 ++ FL ++ pdB ⟨(lv : Int), no, (we : Int), (by_ : Int), (en : Int), le, gr⟩)) := (by have h0 := (HQ6.out.below ((Below.refl _ _).alloc (Nat.le_refl _) _)).la hg7 ho7; rw [List.append_assoc (P3 ++ FL), pd_flat] at h0; exact h0); clear ho7 hg7)))
          go_roundw
          case rel =>
            have h0 := HQ7.out
            rw [List.append_assoc, ← HF.out] at h0
            exact ⟨j + 1, T7, a7, n7, c7, by omega, rfl, by go_num, h0⟩
          case measure => simp [intOf]; omega
        · obtain rfl : j = il := by omega
          have q1 : ¬ (j : Int) < (j : Int) := by omega
          have htk : is.take j = is := List.take_of_length_le (by rw [HIL.out]; exact Nat.le_refl _)
          rw [htk] at HX hPl
          clear htk hfl
          have b1 := HX.out.box.2.1 1 _ rfl
          have b2 := HX.out.box.2.1 2 _ rfl
          have b3 := HX.out.box.2.1 3 _ rfl
          have b4 := HX.out.box.2.1 4 _ rfl
          have b5 := HX.out.box.2.1 5 _ rfl
          have b6 := HX.out.box.2.1 6 _ rfl
          generalize P3 ++ is.flatMap pdB = P4 at *
          have hP5 : (P4 ++ [pl].flatMap num).length ≤ 100000 := by
            have := num_le10 (n := pl) (by omega)
            simp
            omega
          go_wp2_with (first
            | (go_at_call 35; go_loud (refine (appendNumbers_any T5 _ a5 n5 c5 P4 (some ⟨wq.heap.size, 0, none⟩) 1 1 [pl] (HX.out.own.below ((Below.refl _ _).alloc (Nat.le_refl _) _)) (isl_new kU T5 wq [pl] #[.int .u64 (pl : Int)] _ _ 1 rfl (HX.out.high _ (Nat.le_refl _)) rfl rfl) (fun v hv => by simp at hv; omega) (by simp only [List.length_cons, List.length_nil]; omega) (by omega)).mono ?_; rintro e w8 ⟨a8, n8, c8, T8, he, ho8, hg8⟩; subst he; have HQ8 : Hid (Pq w T8 w8 [.bool false, .int .u64 (x : Int), .int .u64 (y : Int), .int .u64 (z : Int), .slice oa k oc, .slice ia j ic, .slice pa pl pc] (.slice a8 n8 c8) (P4 ++ [pl].flatMap num)) := (HX.out.below ((Below.refl _ _).alloc (Nat.le_refl _) _)).la hg8 ho8; clear b1 b2 b3 b4 b5 b6; have b1 := HQ8.out.box.2.1 1 _ rfl; have b2 := HQ8.out.box.2.1 2 _ rfl; have b3 := HQ8.out.box.2.1 3 _ rfl; have b4 := HQ8.out.box.2.1 4 _ rfl; have b5 := HQ8.out.box.2.1 5 _ rfl; have b6 := HQ8.out.box.2.1 6 _ rfl; clear ho8 hg8))
            | (go_at_call 36; go_loud (refine (appendTexts_any T8 w8 a8 n8 c8 (P4 ++ [pl].flatMap num) pa pl pc ps HQ8.out.own (Isl.old HP.out HQ8.out.old) KP.out (by rw [← HPL.out]; omega) (by omega)).mono ?_; rintro e w9 ⟨a9, n9, c9, T9, he, ho9, hg9⟩; subst he; have HQ9 : Hid (Pq w T9 w9 [.bool false, .int .u64 (x : Int), .int .u64 (y : Int), .int .u64 (z : Int), .slice oa k oc, .slice ia j ic, .slice pa pl pc] (.slice a9 n9 c9) (P4 ++ [pl].flatMap num ++ ps.flatMap keyB)) := HQ8.out.la hg9 ho9; clear ho9 hg9)))
          go_ret
          have h9 := HQ9.out
          rw [HR.out] at h9
          obtain ⟨g, rfl, hn9, ht9, hl9, hc9, hm9, hk9⟩ := own_some h9.own (by unfold recB; simp)
          subst hn9
          refine ⟨g, c9, rfl, isB_isK hk9 (rec_byte _ _), hc9, hm9, ?_, hl9, h9.old.below⟩
          rcases Nat.lt_or_ge g w.heap.size with hlt | hge
          · have := h9.old.zero g (.inl hlt)
            omega
          · exact hge

theorem putRecord_any (last : Bool) (x y z : Nat) (o i p : Sv) (os : List Pl) (is : List Pd) (ps : List ByteArray) (w : World) (ho : Ls kPl w o os) (hi : Ls kPd w i is) (hp : Ls kT w p ps) (hok : okE ⟨x, y, z, os, is, ps⟩) (ht : os.length + is.length ≤ 256) :
    Calls Tryd.prog 22 #[recV last x y z o i p] w fun e w' => PrIs (recB last ⟨x, y, z, os, is, ps⟩) w e w' := by
  cases last with
  | true => exact putRecord_true x y z o.1 o.2.1 o.2.2 i.1 i.2.1 i.2.2 p.1 p.2.1 p.2.2 os is ps w ho hi hp hok ht
  | false => exact putRecord_false x y z o.1 o.2.1 o.2.2 i.1 i.2.1 i.2.2 p.1 p.2.1 p.2.2 os is ps w ho hi hp hok ht
end Mnf
end Go.Proofs.YtjbnnhephagdmaaDoor
