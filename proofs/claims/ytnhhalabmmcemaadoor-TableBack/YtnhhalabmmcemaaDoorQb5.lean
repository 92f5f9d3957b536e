import Derived.Test.YtnhhalabmmcemaaDoorQb4
import Derived.Deep.RegionLaw
import Derived.Deep.DrawnRows
namespace Go.Proofs.YtnhhalabmmcemaaDoor
namespace Qb
open Go.RowKit CMath Byt Laws Irw Crw Cod
set_option linter.unusedVariables false
set_option linter.unusedSimpArgs false
set_option maxRecDepth 20000

theorem hid {p : Prop} (h : p) : Hid p := h
/-- The restart that counts. -/
def Rn (r : Int) : Nat := max r.toNat 1
theorem Rn_pos (r : Int) : 1 ≤ Rn r := by unfold Rn; omega
theorem Rn_max (r : Int) : max r 1 = ((Rn r : Nat) : Int) := by unfold Rn; omega
theorem putWord_n (t : Nat) (T : Nat → Nat) (v : Value) (pre : List Nat) (x : Nat) (w : World) (N : Nat) (hN : N = pre.length + 4) (hown : OwnB t T w v pre) (hx : x < 4294967296) (hk : pre.length ≤ 100000000000) :
    Calls Tryd.prog 60 #[v, .int .u32 (x : Int)] w fun e w' => ∃ a c T', e = .returned (.slice a N c) ∧ OwnB t T' w' (.slice a N c) (pre ++ four x) ∧ Goes (· = t) T w T' w' := by
  refine (putWord_any t T v pre x w hown hx hk).mono ?_
  rintro e w' ⟨v', T', rfl, ho, hg⟩
  obtain ⟨a, c, rfl, _⟩ := ho.form
  have : (pre ++ four x).length = N := by rw [hN, List.length_append]; rfl
  rw [this] at ho ⊢
  exact ⟨a, c, T', rfl, ho, hg⟩
theorem putEntry_n (t : Nat) (T : Nat → Nat) (v : Value) (pre : List Nat) (k : ByteArray) (s : Nat) (d : Bool) (x : ByteArray) (n : Nat) (z : Int) (hz : z = n) (w : World) (N : Nat) (hN : N = (pre ++ entB n (k, (s : Int), d, x)).length) (hown : OwnB t T w v pre) (hi : Hi T w) (ht : t ≠ 0) (hn : n ≤ k.size) (hk : k.size ≤ 1000000) (hx : x.size ≤ 1000000) (hs : s ≤ 72057594037927935) (hp : pre.length ≤ 100000000000) :
    Calls Tryd.prog 81 #[v, .agg #[.string k, .int .u64 (s : Int), .bool d, .string x], .int .i64 z] w fun e w' => ∃ a c T', e = .returned (.slice a N c) ∧ OwnB t T' w' (.slice a N c) (pre ++ entB n (k, (s : Int), d, x)) ∧ Goes (· = t) T w T' w' := by
  subst hz
  refine (putEntry_any t T v pre k s d x n w hown hi ht hn hk hx hs hp).mono ?_
  rintro e w' ⟨v', T', rfl, ho, hg⟩
  obtain ⟨a, c, rfl, _⟩ := ho.form
  rw [← hN] at ho ⊢
  exact ⟨a, c, T', rfl, ho, hg⟩
/-- What Add leaves. -/
def AddIs (t : Nat) (T : Nat → Nat) (w : World) (M : Nat) (r : Int) (S : St) (e : En) (x : Ending) (w' : World) : Prop :=
  ∃ T', x = .returned (.int .i64 (adds S.last e)) ∧ MakerAt t T' w' M r (if adds S.last e = 0 then push (Rn r) S e else S) ∧ Goes (Mk t) T w T' w'
theorem AddIs.no {t : Nat} {T T' : Nat → Nat} {w w' : World} {M : Nat} {r : Int} {S : St} {e : En} {z : Int} (ha : adds S.last e = z) (hz : z ≠ 0) (hm : MakerAt t T' w' M r S) (hg : Goes (Mk t) T w T' w') : AddIs t T w M r S e (.returned (.int .i64 z)) w' :=
  ⟨T', by rw [ha], by rw [ha, if_neg hz]; exact hm, hg⟩
theorem AddIs.ok {t : Nat} {T T' : Nat → Nat} {w w' : World} {M : Nat} {r : Int} {S : St} {e : En} (ha : adds S.last e = 0) (hm : MakerAt t T' w' M r (push (Rn r) S e)) (hg : Goes (Mk t) T w T' w') : AddIs t T w M r S e (.returned (.int .i64 0)) w' :=
  ⟨T', by rw [ha], by rw [ha, if_pos rfl]; exact hm, hg⟩
set_option maxHeartbeats 2000000 in
theorem add_any (t : Nat) (T : Nat → Nat) (w : World) (M : Nat) (r : Int) (S : St) (k : ByteArray) (s : Nat) (d : Bool) (x : ByteArray) (p : MakerAt t T w M r S) (hi : Hi T w) (ht : t ≠ 0) (hk : k.size ≤ 1000000) (hx : x.size ≤ 1000000) (hb : S.b.length ≤ 4000000000) (hp : S.p.length ≤ 10000000000) (hn : S.n ≤ 1000000000000) (hr : -9223372036854775808 ≤ r ∧ r ≤ 9223372036854775807) :
    Calls Tryd.prog 57 #[.pointer (some ⟨M, 0, none⟩), .agg #[.string k, .int .u64 (s : Int), .bool d, .string x]] w fun e w' => AddIs t T w M r S (k, (s : Int), d, x) e w' := by
  have HB1 : Hid (Below w.heap.size w (w.alloc (.cells #[.string k, .int .u64 (s : Int), .bool d, .string x] 43))) := (Below.refl _ _).alloc (Nat.le_refl _) _
  have HE1 : Hid (∀ j, (w.alloc (.cells #[.string k, .int .u64 (s : Int), .bool d, .string x] 43)).cell? ⟨w.heap.size, j, none⟩ = (#[Value.string k, .int .u64 (s : Int), .bool d, .string x])[j]?) := fun j => by show _ = _; rw [World.cell?_alloc_at _ _ _ _ rfl]
  have HL1 : Hid (w.heap.size < (w.alloc (.cells #[.string k, .int .u64 (s : Int), .bool d, .string x] 43)).heap.size) := by show _ < _; simp
  have HP : Hid (MakerAt t T w M r S) := p
  have HI : Hid (Hi T w) := hi
  have hlt := p.lt
  clear p hi
  have hE0 : (w.alloc (.cells #[.string k, .int .u64 (s : Int), .bool d, .string x] 43)).cell? ⟨w.heap.size, 0, none⟩ = some (.string k) := HE1.out 0
  have hE1 : (w.alloc (.cells #[.string k, .int .u64 (s : Int), .bool d, .string x] 43)).cell? ⟨w.heap.size, 1, none⟩ = some (.int .u64 (s : Int)) := HE1.out 1
  have hE2 : (w.alloc (.cells #[.string k, .int .u64 (s : Int), .bool d, .string x] 43)).cell? ⟨w.heap.size, 2, none⟩ = some (.bool d) := HE1.out 2
  have hE3 : (w.alloc (.cells #[.string k, .int .u64 (s : Int), .bool d, .string x] 43)).cell? ⟨w.heap.size, 3, none⟩ = some (.string x) := HE1.out 3
  by_cases hf : fault (k, (s : Int), d, x) = 0
  · have g0 : (fault (k, (s : Int), d, x) != 0) = false := by simp [hf]
    go_enter Tryd.func57, Tryd.ntmps57
    go_wp2_with (go_at_call 79; go_loud (refine (checkEntry_any k (s : Int) d x _ hk hx).mono ?_; rintro e w2 ⟨rfl, hb2⟩; have HB2 : Hid (Below w.heap.size w w2) := HB1.out.trans (hb2.mono (Nat.le_of_lt HL1.out)); have e0 := (hb2.cell (p := ⟨w.heap.size, 0, none⟩) HL1.out).trans hE0; have e1 := (hb2.cell (p := ⟨w.heap.size, 1, none⟩) HL1.out).trans hE1; have e2 := (hb2.cell (p := ⟨w.heap.size, 2, none⟩) HL1.out).trans hE2; have e3 := (hb2.cell (p := ⟨w.heap.size, 3, none⟩) HL1.out).trans hE3; have HEL : Hid (w.heap.size < w2.heap.size) := Nat.lt_of_lt_of_le HL1.out hb2.size; clear hb2 hE0 hE1 hE2 hE3))
    have HP2 : Hid (MakerAt t T w2 M r S) := HP.out.below HB2.out
    obtain ⟨a3, c3, a4, c4, m3, ho3, m4, ho4⟩ := HP2.out.form
    have HO3 : Hid (OwnB (t + 1) T w2 (.slice a3 S.b.length c3) S.b) := ho3
    have HO4 : Hid (OwnB (t + 2) T w2 (.slice a4 S.p.length c4) S.p) := ho4
    have m0 := HP2.out.c0
    have m1 := HP2.out.c1
    have m2 := HP2.out.c2
    clear ho3 ho4
    have hsq : s ≤ 72057594037927935 := by have := (fault_ok hf).q; exact Int.ofNat_le.1 this
    have hk1 : k.size ≤ 64 := (fault_ok hf).k2
    have hls : S.last.size ≤ 64 := HP.out.last
    by_cases hbl : Op.bytesLess S.last.toList k.toList = true
    · have hal : adds S.last (k, (s : Int), d, x) = 0 := by unfold adds; rw [if_neg (by simpa using hf), if_pos (by rw [← Lib.toList_data, ← Lib.toList_data]; exact hbl)]
      have hl1 : Op.bytesLess k.toList S.last.toList = false := KMath.bl_asymm _ _ hbl
      have hl2 : (k.toList == S.last.toList) = false := by
        rw [beq_eq_false_iff_ne]
        intro h
        rw [h, KMath.bl_irrefl] at hbl
        cases hbl
      have hmx : max r 1 = ((Rn r : Nat) : Int) := Rn_max r
      have hRp := Rn_pos r
      have hm0 : ¬ ((Rn r : Nat) : Int) = 0 := by omega
      have hmod : Int.tmod (S.n : Int) ((Rn r : Nat) : Int) = ((S.n % Rn r : Nat) : Int) := by rw [Int.tmod_eq_emod_of_nonneg (by omega)]; rfl
      have hRle : ((Rn r : Nat) : Int) ≤ 9223372036854775807 := by rw [← hmx]; omega
      generalize hRR : Rn r = R at *
      by_cases hz : S.n % R = 0
      · have hzz : ((S.n : Int) % (R : Int) == 0) = true := by simp; omega
        go_wp2
        go_quiet (fail)
        go_wp2
        go_region
        have HW : Hid (Below w.heap.size w (w2.drewN (nq + 1))) := below_drewN HB2.out _
        have e0' : (w2.drewN (nq + 1)).cell? ⟨w.heap.size, 0, none⟩ = some (.string k) := e0
        have e1' : (w2.drewN (nq + 1)).cell? ⟨w.heap.size, 1, none⟩ = some (.int .u64 (s : Int)) := e1
        have e2' : (w2.drewN (nq + 1)).cell? ⟨w.heap.size, 2, none⟩ = some (.bool d) := e2
        have e3' : (w2.drewN (nq + 1)).cell? ⟨w.heap.size, 3, none⟩ = some (.string x) := e3
        have m3' : (w2.drewN (nq + 1)).cell? ⟨M, 3, none⟩ = some (.slice a3 S.b.length c3) := m3
        have m4' : (w2.drewN (nq + 1)).cell? ⟨M, 4, none⟩ = some (.slice a4 S.p.length c4) := m4
        have HEL' : Hid (w.heap.size < (w2.drewN (nq + 1)).heap.size) := HEL.out
        have HP3 : Hid (MakerAt t T (w2.drewN (nq + 1)) M r S) := HP2.out.below (below_drewN (Below.refl _ _) _)
        have HO3' : Hid (OwnB (t + 1) T (w2.drewN (nq + 1)) (.slice a3 S.b.length c3) S.b) := HO3.out.below (below_drewN (Below.refl _ _) _)
        have HO4' : Hid (OwnB (t + 2) T (w2.drewN (nq + 1)) (.slice a4 S.p.length c4) S.p) := HO4.out.below (below_drewN (Below.refl _ _) _)
        clear e0 e1 e2 e3 m0 m1 m2 m3 m4 HEL HP2 HO3 HO4 HB2 hl1 hl2 hbl hmx hmod hm0 HE1 HB1 HL1
        generalize w2.drewN (nq + 1) = W at *
        have hwr : IntKind.u32.wrap (S.b.length : Int) = (S.b.length : Int) := by rw [IntKind.wrap_u32]; omega
        have HT8 : Hid (¬ Mk t (T w.heap.size)) := by show ¬ Mk t (T w.heap.size); rw [HI.out _ (Nat.le_refl _)]; unfold Mk; omega
        go_wp2
        go_region_law (first
          | (go_simp; go_at_call 60; go_loud (refine (putWord_n (t + 2) T (.slice a4 S.p.length c4) S.p S.b.length W.drew (S.p.length + 4) rfl (HO4'.out.below (Below.refl _ _).drew) (by omega) (by omega)).mono ?_; rintro e w5 ⟨a5, c5, T5, rfl, ho5, hg5⟩; have HM5 : Hid (MakerAt t T5 (w5.setCell ⟨M, 4, none⟩ (.slice a5 (S.p.length + 4) c5)) M r ⟨S.b, S.p ++ four S.b.length, S.n, S.last⟩ ∧ Goes (Mk t) T W T5 (w5.setCell ⟨M, 4, none⟩ (.slice a5 (S.p.length + 4) c5))) := HP3.out.set4 ((Goes.below (Below.refl _ _).drew).trans hg5) ho5; have hc5 : ∃ v0, w5.cell? ⟨M, 4, none⟩ = some v0 := ⟨_, (((Goes.below (Below.refl _ _).drew).trans hg5).cell HP3.out.lt (by rw [HP3.out.tag]; omega)).trans m4'⟩; obtain ⟨v0, hc5⟩ := hc5; have hf5 : w5.frozen? ⟨M, 4, none⟩ = false := (World.frozen?_of_block (a := ⟨M, 4, none⟩) (((Goes.below (Below.refl _ _).drew).trans hg5).block M HP3.out.lt (by rw [HP3.out.tag]; omega))).trans (HP3.out.fz 4); clear ho5 hg5)))
        all_goals
          have HW5 : Hid (Goes (Mk t) T w T5 (w5.setCell ⟨M, 4, none⟩ (.slice a5 (S.p.length + 4) c5))) := (Goes.below HW.out).trans HM5.out.2
          have f0 := (box_goes HM5.out.2 HEL'.out HT8.out 0).trans e0'
          have f1 := (box_goes HM5.out.2 HEL'.out HT8.out 1).trans e1'
          have f2 := (box_goes HM5.out.2 HEL'.out HT8.out 2).trans e2'
          have f3 := (box_goes HM5.out.2 HEL'.out HT8.out 3).trans e3'
          have HM6 : Hid (MakerAt t T5 (w5.setCell ⟨M, 4, none⟩ (.slice a5 (S.p.length + 4) c5)) M r ⟨S.b, S.p ++ four S.b.length, S.n, S.last⟩) := HM5.out.1
          have HT9 : Hid (T5 w.heap.size = 0) := (HM5.out.2.tag _ HEL'.out HT8.out).trans (HI.out _ (Nat.le_refl _))
          have HE9 : Hid (w.heap.size < (w5.setCell ⟨M, 4, none⟩ (.slice a5 (S.p.length + 4) c5)).heap.size) := Nat.lt_of_lt_of_le HEL'.out HM5.out.2.size
          clear HM5 e0' e1' e2' e3' m3' m4' HO3' HO4' hc5 hf5 HP3 HEL' HW
          generalize w5.setCell ⟨M, 4, none⟩ (.slice a5 (S.p.length + 4) c5) = W5 at *
          obtain ⟨a6, c6, a6', c6', m3, ho3, m4, _⟩ := HM6.out.form
          have HO6 : Hid (OwnB (t + 1) T5 W5 (.slice a6 S.b.length c6) S.b) := ho3
          have hN7 : ∃ N7, N7 = (S.b ++ entB 0 (k, (s : Int), d, x)).length := ⟨_, rfl⟩
          obtain ⟨N7, hN7⟩ := hN7
          have HN7 : Hid (N7 = (S.b ++ entB 0 (k, (s : Int), d, x)).length) := hN7
          have HHi : Hid (Hi T5 W5) := HI.out.goes HW5.out
          clear ho3 hN7
          have HCL := hid (putEntry_n (t + 1) T5 (.slice a6 S.b.length c6) S.b k s d x 0 0 (by rfl) W5.drew N7 HN7.out (HO6.out.below (Below.refl _ _).drew) (HHi.out.below (Below.refl 0 _).drew.size) (by omega) (by omega) hk hx hsq (by omega))
          go_wp2
          go_region_law (first
            | (go_simp; go_at_call 81; go_loud (refine (HCL.out).mono ?_; rintro e w7 ⟨a7, c7, T7, rfl, ho7, hg7⟩; have HM7 : Hid (MakerAt t T7 (w7.setCell ⟨M, 3, none⟩ (.slice a7 N7 c7)) M r ⟨S.b ++ entB 0 (k, (s : Int), d, x), S.p ++ four S.b.length, S.n, S.last⟩ ∧ Goes (Mk t) T5 W5 T7 (w7.setCell ⟨M, 3, none⟩ (.slice a7 N7 c7))) := HM6.out.set3 ((Goes.below (Below.refl _ _).drew).trans hg7) ho7; have hc7 : ∃ v0, w7.cell? ⟨M, 3, none⟩ = some v0 := ⟨_, (((Goes.below (Below.refl _ _).drew).trans hg7).cell HM6.out.lt (by rw [HM6.out.tag]; omega)).trans m3⟩; obtain ⟨v0', hc7⟩ := hc7; have hf7 : w7.frozen? ⟨M, 3, none⟩ = false := (World.frozen?_of_block (a := ⟨M, 3, none⟩) (((Goes.below (Below.refl _ _).drew).trans hg7).block M HM6.out.lt (by rw [HM6.out.tag]; omega))).trans (HM6.out.fz 3); clear ho7 hg7)))
          all_goals
            have hmk : ¬ Mk t (T5 w.heap.size) := by rw [HT9.out]; unfold Mk; omega
            have g0' := (box_goes HM7.out.2 HE9.out hmk 0).trans f0
            have HW7 : Hid (Goes (Mk t) T w T7 (w7.setCell ⟨M, 3, none⟩ (.slice a7 N7 c7))) := HW5.out.trans HM7.out.2
            have HM8 : Hid (MakerAt t T7 (w7.setCell ⟨M, 3, none⟩ (.slice a7 N7 c7)) M r ⟨S.b ++ entB 0 (k, (s : Int), d, x), S.p ++ four S.b.length, S.n, S.last⟩) := HM7.out.1
            clear HM7 f0 f1 f2 f3 m3 m4 hc7 hf7 hmk
            generalize w7.setCell ⟨M, 3, none⟩ (.slice a7 N7 c7) = W7 at *
            have y1 := HM8.out.c1
            have y2 := HM8.out.c2
            have z1 := HM8.out.fz 1
            have z2 := HM8.out.fz 2
            have HM9 : Hid (MakerAt t T7 ((W7.setCell ⟨M, 2, none⟩ (.string k)).setCell ⟨M, 1, none⟩ (.int .i64 ((S.n + 1 : Nat) : Int))) M r ⟨S.b ++ entB 0 (k, (s : Int), d, x), S.p ++ four S.b.length, S.n + 1, k⟩ ∧ Goes (Mk t) T w T7 ((W7.setCell ⟨M, 2, none⟩ (.string k)).setCell ⟨M, 1, none⟩ (.int .i64 ((S.n + 1 : Nat) : Int)))) := ⟨((HM8.out.set2 (Goes.refl _ _ _) k hk1).1.set1 (Goes.refl _ _ _) (S.n + 1)).1, (HW7.out.trans (HM8.out.set2 (Goes.refl _ _ _) k hk1).2).trans ((HM8.out.set2 (Goes.refl _ _ _) k hk1).1.set1 (Goes.refl _ _ _) (S.n + 1)).2⟩
            have hS1 : ((S.n + 1 : Nat) : Int) = (S.n : Int) + 1 := by omega
            rw [hS1] at HM9
            clear HM8 HW7 hS1
            go_wp2
            go_ret
            exact AddIs.ok hal (by rw [hRR]; unfold push sh plc; rw [if_pos hz, if_pos hz]; exact HM9.out.1) HM9.out.2
      · have hzz : ((S.n : Int) % (R : Int) == 0) = false := by rw [beq_eq_false_iff_ne]; omega
        go_wp2
        go_quiet (fail)
        go_wp2
        go_region
        have HW : Hid (Below w.heap.size w (w2.drewN (nq + 1))) := below_drewN HB2.out _
        have e0' : (w2.drewN (nq + 1)).cell? ⟨w.heap.size, 0, none⟩ = some (.string k) := e0
        have e1' : (w2.drewN (nq + 1)).cell? ⟨w.heap.size, 1, none⟩ = some (.int .u64 (s : Int)) := e1
        have e2' : (w2.drewN (nq + 1)).cell? ⟨w.heap.size, 2, none⟩ = some (.bool d) := e2
        have e3' : (w2.drewN (nq + 1)).cell? ⟨w.heap.size, 3, none⟩ = some (.string x) := e3
        have m3' : (w2.drewN (nq + 1)).cell? ⟨M, 3, none⟩ = some (.slice a3 S.b.length c3) := m3
        have m4' : (w2.drewN (nq + 1)).cell? ⟨M, 4, none⟩ = some (.slice a4 S.p.length c4) := m4
        have HEL' : Hid (w.heap.size < (w2.drewN (nq + 1)).heap.size) := HEL.out
        have HP3 : Hid (MakerAt t T (w2.drewN (nq + 1)) M r S) := HP2.out.below (below_drewN (Below.refl _ _) _)
        have HO3' : Hid (OwnB (t + 1) T (w2.drewN (nq + 1)) (.slice a3 S.b.length c3) S.b) := HO3.out.below (below_drewN (Below.refl _ _) _)
        have HO4' : Hid (OwnB (t + 2) T (w2.drewN (nq + 1)) (.slice a4 S.p.length c4) S.p) := HO4.out.below (below_drewN (Below.refl _ _) _)
        have m2' : (w2.drewN (nq + 1)).cell? ⟨M, 2, none⟩ = some (.string S.last) := m2
        clear e0 e1 e2 e3 m0 m1 m2 m3 m4 HEL HP2 HO3 HO4 HB2 hl1 hl2 hbl hmx hmod hm0 HE1 HB1 HL1
        generalize w2.drewN (nq + 1) = W at *
        have HSB : Hid (∀ z : Nat, Calls Tryd.prog 80 #[.string S.last, .string k] (W.drewN z) fun e w' => e = .returned (.int .i64 ((shr (strB S.last) (strB k) : Nat) : Int)) ∧ ∃ q, w' = W.drewN q) := fun z => (sharedBytes_any S.last k _ (by omega) (by omega)).mono (fun e w' h => ⟨h.1, by obtain ⟨n, h2⟩ := h.2; exact ⟨z + n, by rw [h2, World.drewN_drewN]⟩⟩)
        have hNSH : ∃ NSH, NSH = shr (strB S.last) (strB k) := ⟨_, rfl⟩
        obtain ⟨NSH, hNSH⟩ := hNSH
        rw [← hNSH] at HSB
        have HNS : Hid (NSH = shr (strB S.last) (strB k)) := hNSH
        have hNk : NSH ≤ k.size := by rw [hNSH, ← strB_length]; exact shr_le_right _ _
        clear hNSH
        go_wp2
        go_quiet ((go_at_call 80; exact (HSB.out _)))

        have hbW : Below W.heap.size W (W.drewN nq) := below_drewN (Below.refl _ _) _
        have HW5 : Hid (Goes (Mk t) T w T (W.drewN nq)) := Goes.below (HW.out.trans (hbW.mono HW.out.size))
        have f0 : (W.drewN nq).cell? ⟨w.heap.size, 0, none⟩ = some (.string k) := e0'
        have f1 : (W.drewN nq).cell? ⟨w.heap.size, 1, none⟩ = some (.int .u64 (s : Int)) := e1'
        have f2 : (W.drewN nq).cell? ⟨w.heap.size, 2, none⟩ = some (.bool d) := e2'
        have f3 : (W.drewN nq).cell? ⟨w.heap.size, 3, none⟩ = some (.string x) := e3'
        have HM6 : Hid (MakerAt t T (W.drewN nq) M r ⟨S.b, S.p, S.n, S.last⟩) := HP3.out.below hbW
        have HT9 : Hid (T w.heap.size = 0) := HI.out _ (Nat.le_refl _)
        have HE9 : Hid (w.heap.size < (W.drewN nq).heap.size) := HEL'.out
        clear e0' e1' e2' e3' m2' m3' m4' HO3' HO4' HP3 HEL' HW hbW HSB
        generalize W.drewN nq = W5 at *
        obtain ⟨a6, c6, a6', c6', m3, ho3, m4, _⟩ := HM6.out.form
        have HO6 : Hid (OwnB (t + 1) T W5 (.slice a6 S.b.length c6) S.b) := ho3
        have hN7 : ∃ N7, N7 = (S.b ++ entB NSH (k, (s : Int), d, x)).length := ⟨_, rfl⟩
        obtain ⟨N7, hN7⟩ := hN7
        have HN7 : Hid (N7 = (S.b ++ entB NSH (k, (s : Int), d, x)).length) := hN7
        have HHi : Hid (Hi T W5) := HI.out.goes HW5.out
        clear ho3 hN7
        have HCL := hid (putEntry_n (t + 1) T (.slice a6 S.b.length c6) S.b k s d x NSH _ rfl W5.drew N7 HN7.out (HO6.out.below (Below.refl _ _).drew) (HHi.out.below (Below.refl 0 _).drew.size) (by omega) (by omega) hk hx hsq (by omega))
        go_wp2
        go_region_law (first
          | (go_simp; go_at_call 81; go_loud (refine (HCL.out).mono ?_; rintro e w7 ⟨a7, c7, T7, rfl, ho7, hg7⟩; have HM7 : Hid (MakerAt t T7 (w7.setCell ⟨M, 3, none⟩ (.slice a7 N7 c7)) M r ⟨S.b ++ entB NSH (k, (s : Int), d, x), S.p, S.n, S.last⟩ ∧ Goes (Mk t) T W5 T7 (w7.setCell ⟨M, 3, none⟩ (.slice a7 N7 c7))) := HM6.out.set3 ((Goes.below (Below.refl _ _).drew).trans hg7) ho7; have hc7 : ∃ v0, w7.cell? ⟨M, 3, none⟩ = some v0 := ⟨_, (((Goes.below (Below.refl _ _).drew).trans hg7).cell HM6.out.lt (by rw [HM6.out.tag]; omega)).trans m3⟩; obtain ⟨v0', hc7⟩ := hc7; have hf7 : w7.frozen? ⟨M, 3, none⟩ = false := (World.frozen?_of_block (a := ⟨M, 3, none⟩) (((Goes.below (Below.refl _ _).drew).trans hg7).block M HM6.out.lt (by rw [HM6.out.tag]; omega))).trans (HM6.out.fz 3); clear ho7 hg7)))
        all_goals
          have hmk : ¬ Mk t (T w.heap.size) := by rw [HT9.out]; unfold Mk; omega
          have g0' := (box_goes HM7.out.2 HE9.out hmk 0).trans f0
          have HW7 : Hid (Goes (Mk t) T w T7 (w7.setCell ⟨M, 3, none⟩ (.slice a7 N7 c7))) := HW5.out.trans HM7.out.2
          have HM8 : Hid (MakerAt t T7 (w7.setCell ⟨M, 3, none⟩ (.slice a7 N7 c7)) M r ⟨S.b ++ entB NSH (k, (s : Int), d, x), S.p, S.n, S.last⟩) := HM7.out.1
          clear HM7 f0 f1 f2 f3 m3 m4 hc7 hf7 hmk
          generalize w7.setCell ⟨M, 3, none⟩ (.slice a7 N7 c7) = W7 at *
          have y1 := HM8.out.c1
          have y2 := HM8.out.c2
          have z1 := HM8.out.fz 1
          have z2 := HM8.out.fz 2
          have HM9 : Hid (MakerAt t T7 ((W7.setCell ⟨M, 2, none⟩ (.string k)).setCell ⟨M, 1, none⟩ (.int .i64 ((S.n + 1 : Nat) : Int))) M r ⟨S.b ++ entB NSH (k, (s : Int), d, x), S.p, S.n + 1, k⟩ ∧ Goes (Mk t) T w T7 ((W7.setCell ⟨M, 2, none⟩ (.string k)).setCell ⟨M, 1, none⟩ (.int .i64 ((S.n + 1 : Nat) : Int)))) := ⟨((HM8.out.set2 (Goes.refl _ _ _) k hk1).1.set1 (Goes.refl _ _ _) (S.n + 1)).1, (HW7.out.trans (HM8.out.set2 (Goes.refl _ _ _) k hk1).2).trans ((HM8.out.set2 (Goes.refl _ _ _) k hk1).1.set1 (Goes.refl _ _ _) (S.n + 1)).2⟩
          have hS1 : ((S.n + 1 : Nat) : Int) = (S.n : Int) + 1 := by omega
          rw [hS1] at HM9
          clear HM8 HW7 hS1
          go_wp2
          go_ret
          exact AddIs.ok hal (by rw [hRR]; unfold push sh plc; rw [if_neg hz, if_neg hz, show shr (strB S.last) (kB (k, (s : Int), d, x)) = NSH from HNS.out.symm]; exact HM9.out.1) HM9.out.2
    · have hbl' : Op.bytesLess S.last.toList k.toList = false := by simpa using hbl
      have hl : (Op.bytesLess k.toList S.last.toList || (k.toList == S.last.toList)) = true := by
        cases hc : Op.bytesLess k.toList S.last.toList with
        | true => rfl
        | false => rw [KMath.bl_tri _ _ hc hbl']; simp
      have hal : adds S.last (k, (s : Int), d, x) = 90 := by unfold adds; rw [if_neg (by simpa using hf), if_neg (by rw [← Lib.toList_data, ← Lib.toList_data]; exact hbl)]
      go_wp2
      go_quiet (fail)
      go_wp2
      go_ret
      exact AddIs.no hal (by omega) (HP.out.below (below_drewN HB2.out _)) (Goes.below (below_drewN HB2.out _))
  · have g0 : (fault (k, (s : Int), d, x) != 0) = true := by simp [hf]
    go_enter Tryd.func57, Tryd.ntmps57
    go_wp2_with (go_at_call 79; go_loud (refine (checkEntry_any k (s : Int) d x _ hk hx).mono ?_; rintro e w2 ⟨rfl, hb2⟩; have HB2 : Hid (Below w.heap.size w w2) := HB1.out.trans (hb2.mono (Nat.le_of_lt HL1.out)); have e0 := (hb2.cell (p := ⟨w.heap.size, 0, none⟩) HL1.out).trans hE0; have e1 := (hb2.cell (p := ⟨w.heap.size, 1, none⟩) HL1.out).trans hE1; have e2 := (hb2.cell (p := ⟨w.heap.size, 2, none⟩) HL1.out).trans hE2; have e3 := (hb2.cell (p := ⟨w.heap.size, 3, none⟩) HL1.out).trans hE3; have HEL : Hid (w.heap.size < w2.heap.size) := Nat.lt_of_lt_of_le HL1.out hb2.size; clear hb2 hE0 hE1 hE2 hE3))
    go_ret
    have ha : adds S.last (k, (s : Int), d, x) = fault (k, (s : Int), d, x) := by unfold adds; rw [if_pos hf]
    refine ⟨T, by rw [ha]; rfl, ?_, Goes.below HB2.out⟩
    rw [ha, if_neg hf]
    exact HP.out.below HB2.out
end Qb
end Go.Proofs.YtnhhalabmmcemaaDoor
