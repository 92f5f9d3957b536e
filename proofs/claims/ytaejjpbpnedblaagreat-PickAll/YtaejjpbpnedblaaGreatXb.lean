import Derived.Test.YtaejjpbpnedblaaGreatWj
import Derived.RangeFuncBox
import Derived.RangeFuncLeaves
import Derived.RangeFuncWrites
import Derived.Shelf.Abstract
import Derived.WalkKit
import Derived.OwnWalkIn
import Derived.TacticsInMore
import Derived.LoopNIn
import Derived.LoopIn
import Derived.Maps.AppendAt
import Derived.Test.YtaejjpbpnedblaaGreatProg
namespace Go.Proofs.YtaejjpbpnedblaaGreat
namespace Vr
open Go.Shelf Go.RowKit Go.Lib Go.Sort Go.Maps Go.ChangeMaps Go.MapKept Laws Irw Crw
set_option linter.unusedVariables false
set_option linter.unusedSimpArgs false
set_option maxRecDepth 20000
theorem hidV {p : Prop} (h : p) : Hid p := h
/-- one field of a configuration is another one -/
def upd (c : Cf) (k : Nat) (v : Int) : Cf := fun j => if j = k then v else c j
theorem upd_same (c : Cf) (k : Nat) (v : Int) : upd c k v k = v := if_pos rfl
theorem upd_other (c : Cf) {k j : Nat} (v : Int) (h : j ≠ k) : upd c k v j = c j := if_neg h
theorem cfgA_get (c : Cf) (j : Nat) (hj : j < 27) : (cfgA c).toList[j]? = some (.int .i64 (c j)) := by
  have : j = 0 ∨ j = 1 ∨ j = 2 ∨ j = 3 ∨ j = 4 ∨ j = 5 ∨ j = 6 ∨ j = 7 ∨ j = 8 ∨ j = 9 ∨ j = 10 ∨ j = 11 ∨ j = 12 ∨ j = 13 ∨ j = 14 ∨ j = 15 ∨ j = 16 ∨ j = 17 ∨ j = 18 ∨ j = 19 ∨ j = 20 ∨ j = 21 ∨ j = 22 ∨ j = 23 ∨ j = 24 ∨ j = 25 ∨ j = 26 := by omega
  rcases this with rfl | rfl | rfl | rfl | rfl | rfl | rfl | rfl | rfl | rfl | rfl | rfl | rfl | rfl | rfl | rfl | rfl | rfl | rfl | rfl | rfl | rfl | rfl | rfl | rfl | rfl | rfl
  all_goals rfl
theorem cfgA_upd (c : Cf) (k : Nat) (v : Int) (hk : k < 27) : (cfgA (upd c k v)).toList = (cfgA c).toList.set k (.int .i64 v) := by
  apply List.ext_getElem?
  intro j
  by_cases hj : j < 27
  · rw [cfgA_get _ j hj]
    by_cases h : k = j
    · subst h
      rw [List.getElem?_set_self (by rw [cfgA_len]; exact hk), upd_same]
    · rw [List.getElem?_set_ne h, cfgA_get _ j hj, upd_other _ _ (fun e => h e.symm)]
  · rw [List.getElem?_eq_none (by rw [cfgA_len]; omega), List.getElem?_eq_none (by rw [List.length_set, cfgA_len]; omega)]
def In64 (c : Cf) : Prop := ∀ k, -9223372036854775808 ≤ c k ∧ c k ≤ 9223372036854775807
theorem In64.upd {c : Cf} (h : In64 c) (k : Nat) {v : Int} (hv : -9223372036854775808 ≤ v ∧ v ≤ 9223372036854775807) : In64 (upd c k v) := fun j => by
  by_cases e : j = k
  · subst e; rw [upd_same]; exact hv
  · rw [upd_other _ _ e]; exact h j
/-- right's two configurations while it works -/
def Rt (w W : World) (c : Cf) : Prop := Zb W w.heap.size (cfgA c).toList ∧ (∃ zs : List Value, zs.length = 27 ∧ Zb W (w.heap.size + 1) zs) ∧ RowKit.Below w.heap.size w W ∧ In64 c
theorem Rt.set {w W : World} {c : Cf} (h : Rt w W c) (k : Nat) (hk : k < 27) {v : Int} (hv : -9223372036854775808 ≤ v ∧ v ≤ 9223372036854775807) : Rt w (W.setCell ⟨w.heap.size, k, none⟩ (.int .i64 v)) (upd c k v) := by
  obtain ⟨h1, ⟨zs, hz, h2⟩, h3, h4⟩ := h
  exact ⟨by rw [cfgA_upd c k v hk]; exact h1.set k _, ⟨zs, hz, h2.other (w' := W) k _ (by omega)⟩, h3.setCell (p := ⟨w.heap.size, k, none⟩) (Nat.le_refl _) _, h4.upd k hv⟩
theorem Rt.drew {w W : World} {c : Cf} (h : Rt w W c) (n : Nat) : Rt w (W.drewN n) c := by
  obtain ⟨h1, ⟨zs, hz, h2⟩, h3, h4⟩ := h
  exact ⟨h1.below (bl_dn (Below.refl _ _) n), ⟨zs, hz, h2.below (bl_dn (Below.refl _ _) n)⟩, bl_dn h3 n, h4⟩
theorem Rt.cell {w W : World} {c : Cf} (h : Rt w W c) (k : Nat) (hk : k < 27) : W.cell? ⟨w.heap.size, k, none⟩ = some (.int .i64 (c k)) := h.1.2.1 k _ (cfgA_get c k hk)
theorem res_cf {fn : Func} {p : Tmp} (h : fn.results = #[.cell p 23]) (tmps : Array Value) (w : World) (B : Nat) (c : Cf) (hp : tmps.getD p undef = .pointer (some ⟨B, 0, none⟩)) (hz : Zb w B (cfgA c).toList) :
    (results fn tmps).run Tryz.prog w = .ok (.agg (cfgA c)) w := by
  simp only [results, h]
  have hp' : tmps[p]?.getD undef = .pointer (some ⟨B, 0, none⟩) := by simpa using hp
  have hl := run_loadVar_mid (P := Tryz.prog) w B 0 23 (cfgA c).toList _ (fun j v hv => by rw [Nat.zero_add]; exact hz.2.1 j v hv) Tryz.underlying23 rfl (Lc.info c)
  rw [toC] at hl
  simp [Sem.run_bind, Result.andThen, hp', asAddr, hl]
theorem run_max3 {P : Program} (w : World) (ts : Array TypeId) (t : TypeId) (k : IntKind) (x y z : Int) :
    (Builtin.max_ ts t #[.int k x, .int k y, .int k z]).run P w = .ok (.int k (max (max x y) z)) w := by
  have e : ∀ x y : Int, (if y > x then y else x) = max x y := by
    intro x y
    rw [Int.max_def]
    split <;> split <;> omega
  simp [Builtin.max_, Builtin.max2, e, Sem.run_bind]
theorem setCells_sets (b : Nat) : ∀ (vs : List Value) (o : Nat) (w : World), w.setCells b o vs = sets w b o vs
  | [], _, _ => rfl
  | v :: r, o, w => setCells_sets b r (o + 1) _
theorem below_sets {B b : Nat} {a : World} (hb : B ≤ b) : ∀ (vs : List Value) (o : Nat) (w : World), RowKit.Below B a w → RowKit.Below B a (sets w b o vs)
  | [], _, _, h => h
  | v :: r, o, w, h => below_sets hb r (o + 1) _ (h.setCell (p := ⟨b, o, none⟩) hb _)
def RiIs (c : Cf) (w : World) (e : Ending) (w' : World) : Prop := ∃ c' : Cf, ∃ n : Nat, e = .returned (.agg (cfgA c')) ∧ Cr c' n ∧ In64 c' ∧ RowKit.Below w.heap.size w w'
set_option maxHeartbeats 1000000 in
theorem right_any (c : Cf) (hR : In64 c) (w : World) : Calls Tryz.prog 6 #[.agg (cfgA c)] w fun e w' => RiIs c w e w' := by
  have HF : Hid (∀ Z : Array Value, Z.size = 27 → Rt w ((w.alloc (.cells (cfgA c) 23)).alloc (.cells Z 23)) c) := fun Z hZ => by
    refine ⟨(Zb.new w (cfgA c) 23).below ((Below.refl _ _).alloc (Nat.le_refl _) _), ⟨Z.toList, by simpa using hZ, by simpa using Zb.new (w.alloc (.cells (cfgA c) 23)) Z 23⟩, ((Below.refl _ _).alloc (Nat.le_refl _) _).alloc (by simp) _, hR⟩
  clear hR
  go_enter Tryz.func6, Tryz.ntmps6
  go_upto_region 1 with (fail)
  have HR := hidV (HF.out #[.int .i64 0, .int .i64 0, .int .i64 0, .int .i64 0, .int .i64 0, .int .i64 0, .int .i64 0, .int .i64 0, .int .i64 0, .int .i64 0, .int .i64 0, .int .i64 0, .int .i64 0, .int .i64 0, .int .i64 0, .int .i64 0, .int .i64 0, .int .i64 0, .int .i64 0, .int .i64 0, .int .i64 0, .int .i64 0, .int .i64 0, .int .i64 0, .int .i64 0, .int .i64 0, .int .i64 0] (by rfl))
  clear HF
  generalize ((w.alloc (.cells (cfgA c) 23)).alloc (.cells #[.int .i64 0, .int .i64 0, .int .i64 0, .int .i64 0, .int .i64 0, .int .i64 0, .int .i64 0, .int .i64 0, .int .i64 0, .int .i64 0, .int .i64 0, .int .i64 0, .int .i64 0, .int .i64 0, .int .i64 0, .int .i64 0, .int .i64 0, .int .i64 0, .int .i64 0, .int .i64 0, .int .i64 0, .int .i64 0, .int .i64 0, .int .i64 0, .int .i64 0, .int .i64 0, .int .i64 0] 23)) = W0 at *
  have f1 := HR.out.1.2.2 8
  obtain ⟨p1, hp1⟩ : ∃ p : Int, (0 ≤ p ∧ p < 3) ∧ ∀ W, Calls Tryz.prog 25 #[.int .i64 (c 8), .int .i64 3] W fun e w' => e = .returned (.int .i64 p) ∧ w' = W := ⟨_, plc_lt (c 8) (by omega), fun W => place_any (c 8) 3 W (HR.out.2.2.2 8) (by omega)⟩
  have b1 := hp1.1
  have HP1 := hidV hp1.2
  clear hp1
  have q1 : IntKind.i64.wrap (3 + p1) = 3 + p1 := IntWalk.i64_in _ (by omega)
  have l1 := HR.out.cell 8 (by omega)
  go_upto_region 2 with (go_at_call 25; go_loud (refine (HP1.out _).mono ?_; rintro e w99 ⟨rfl, hw99⟩; have hw98 := hw99.symm; clear hw99; subst hw98))
  have HR1 := hidV (HR.out.set 8 (by omega) (v := 3 + p1) (by omega))
  obtain ⟨c1, hc1⟩ : ∃ c1, c1 = upd c 8 (3 + p1) := ⟨_, rfl⟩
  rw [← hc1] at HR1
  have HC1 := hidV hc1
  clear hc1
  generalize (W0.setCell ⟨w.heap.size, 8, none⟩ (.int .i64 (3 + p1))) = W1 at *
  clear f1 q1 l1 HR HP1
  have f2 := HR1.out.1.2.2 9
  obtain ⟨p2, hp2⟩ : ∃ p : Int, (0 ≤ p ∧ p < 16773121) ∧ ∀ W, Calls Tryz.prog 25 #[.int .i64 (c1 9), .int .i64 16773121] W fun e w' => e = .returned (.int .i64 p) ∧ w' = W := ⟨_, plc_lt (c1 9) (by omega), fun W => place_any (c1 9) 16773121 W (HR1.out.2.2.2 9) (by omega)⟩
  have b2 := hp2.1
  have HP2 := hidV hp2.2
  clear hp2
  have q2 : IntKind.i64.wrap (4096 + p2) = 4096 + p2 := IntWalk.i64_in _ (by omega)
  have l2 := HR1.out.cell 9 (by omega)
  go_upto_region 3 with (go_at_call 25; go_loud (refine (HP2.out _).mono ?_; rintro e w99 ⟨rfl, hw99⟩; have hw98 := hw99.symm; clear hw99; subst hw98))
  have HR2 := hidV (HR1.out.set 9 (by omega) (v := 4096 + p2) (by omega))
  obtain ⟨c2, hc2⟩ : ∃ c2, c2 = upd c1 9 (4096 + p2) := ⟨_, rfl⟩
  rw [← hc2] at HR2
  have HC2 := hidV hc2
  clear hc2
  generalize (W1.setCell ⟨w.heap.size, 9, none⟩ (.int .i64 (4096 + p2))) = W2 at *
  clear f2 q2 l2 HR1 HP2
  have f3 := HR2.out.1.2.2 10
  obtain ⟨p3, hp3⟩ : ∃ p : Int, (0 ≤ p ∧ p < 9) ∧ ∀ W, Calls Tryz.prog 25 #[.int .i64 (c2 10), .int .i64 9] W fun e w' => e = .returned (.int .i64 p) ∧ w' = W := ⟨_, plc_lt (c2 10) (by omega), fun W => place_any (c2 10) 9 W (HR2.out.2.2.2 10) (by omega)⟩
  have b3 := hp3.1
  have HP3 := hidV hp3.2
  clear hp3
  have q3 : IntKind.i64.wrap (2 + p3) = 2 + p3 := IntWalk.i64_in _ (by omega)
  have l3 := HR2.out.cell 10 (by omega)
  go_upto_region 4 with (go_at_call 25; go_loud (refine (HP3.out _).mono ?_; rintro e w99 ⟨rfl, hw99⟩; have hw98 := hw99.symm; clear hw99; subst hw98))
  have HR3 := hidV (HR2.out.set 10 (by omega) (v := 2 + p3) (by omega))
  obtain ⟨c3, hc3⟩ : ∃ c3, c3 = upd c2 10 (2 + p3) := ⟨_, rfl⟩
  rw [← hc3] at HR3
  have HC3 := hidV hc3
  clear hc3
  generalize (W2.setCell ⟨w.heap.size, 10, none⟩ (.int .i64 (2 + p3))) = W3 at *
  clear f3 q3 l3 HR2 HP3
  have f4 := HR3.out.1.2.2 5
  obtain ⟨p4, hp4⟩ : ∃ p : Int, (0 ≤ p ∧ p < 16) ∧ ∀ W, Calls Tryz.prog 25 #[.int .i64 (c3 5), .int .i64 16] W fun e w' => e = .returned (.int .i64 p) ∧ w' = W := ⟨_, plc_lt (c3 5) (by omega), fun W => place_any (c3 5) 16 W (HR3.out.2.2.2 5) (by omega)⟩
  have b4 := hp4.1
  have HP4 := hidV hp4.2
  clear hp4
  have q4 : IntKind.i64.wrap (1 + p4) = 1 + p4 := IntWalk.i64_in _ (by omega)
  have l4 := HR3.out.cell 5 (by omega)
  go_upto_region 5 with (go_at_call 25; go_loud (refine (HP4.out _).mono ?_; rintro e w99 ⟨rfl, hw99⟩; have hw98 := hw99.symm; clear hw99; subst hw98))
  have HR4 := hidV (HR3.out.set 5 (by omega) (v := 1 + p4) (by omega))
  obtain ⟨c4, hc4⟩ : ∃ c4, c4 = upd c3 5 (1 + p4) := ⟨_, rfl⟩
  rw [← hc4] at HR4
  have HC4 := hidV hc4
  clear hc4
  generalize (W3.setCell ⟨w.heap.size, 5, none⟩ (.int .i64 (1 + p4))) = W4 at *
  clear f4 q4 l4 HR3 HP4
  have f5 := HR4.out.1.2.2 7
  obtain ⟨p5, hp5⟩ : ∃ p : Int, (0 ≤ p ∧ p < 16) ∧ ∀ W, Calls Tryz.prog 25 #[.int .i64 (c4 7), .int .i64 16] W fun e w' => e = .returned (.int .i64 p) ∧ w' = W := ⟨_, plc_lt (c4 7) (by omega), fun W => place_any (c4 7) 16 W (HR4.out.2.2.2 7) (by omega)⟩
  have b5 := hp5.1
  have HP5 := hidV hp5.2
  clear hp5
  have x5 : 1 ≤ c4 5 ∧ c4 5 ≤ 16 := by rw [HC4.out, upd_same]; omega
  have q5 : IntKind.i64.wrap (1 + p5) = 1 + p5 := IntWalk.i64_in _ (by omega)
  have l5 := HR4.out.cell 7 (by omega)
  have k5 := HR4.out.cell 5 (by omega)
  obtain ⟨m5, hm5, hmx⟩ : ∃ m : Int, (2 ≤ m ∧ m ≤ 16) ∧ ∀ W, (Builtin.max_ #[3, 3, 3] 3 #[Value.int IntKind.i64 2, Value.int IntKind.i64 (c4 5), Value.int IntKind.i64 (1 + p5)]).run Tryz.prog W = .ok (.int .i64 m) W := ⟨max (max 2 (c4 5)) (1 + p5), by omega, fun W => run_max3 W _ _ _ _ _ _⟩
  have HR5 := hidV ((HR4.out.drew 1).set 7 (by omega) (v := m5) (by omega))
  obtain ⟨c5, hc5⟩ : ∃ c5, c5 = upd c4 7 m5 := ⟨_, rfl⟩
  rw [← hc5] at HR5
  have HC5 := hidV hc5
  clear hc5
  change Hid (Rt w (W4.drew.setCell ⟨w.heap.size, 7, none⟩ (.int .i64 m5)) c5) at HR5
  go_cut [1, 2] (fun x y w' => x = .pointer (some ⟨w.heap.size, 0, none⟩) ∧ y = .pointer (some ⟨w.heap.size + 1, 0, none⟩) ∧ w' = W4.drew.setCell ⟨w.heap.size, 7, none⟩ (.int .i64 m5))
  case first =>
    go_region_with (go_at_call 25; go_loud (refine (HP5.out _).mono ?_; rintro e w99 ⟨rfl, hw99⟩; have hw98 := hw99.symm; clear hw99; subst hw98))
    all_goals (go_wp2_with fail; go_meet; exact ⟨rfl, rfl, rfl⟩)
  case rest =>
    obtain ⟨rfl, rfl, rfl⟩ := hcut
    generalize (W4.drew.setCell ⟨w.heap.size, 7, none⟩ (.int .i64 m5)) = W5 at *
    clear f5 q5 l5 k5 HR4 HP5 hmx
    have f6 := HR5.out.1.2.2 12
    obtain ⟨p6, hp6⟩ : ∃ p : Int, (0 ≤ p ∧ p < 16) ∧ ∀ W, Calls Tryz.prog 25 #[.int .i64 (c5 12), .int .i64 16] W fun e w' => e = .returned (.int .i64 p) ∧ w' = W := ⟨_, plc_lt (c5 12) (by omega), fun W => place_any (c5 12) 16 W (HR5.out.2.2.2 12) (by omega)⟩
    have b6 := hp6.1
    have HP6 := hidV hp6.2
    clear hp6
    have q6 : IntKind.i64.wrap (1 + p6) = 1 + p6 := IntWalk.i64_in _ (by omega)
    have l6 := HR5.out.cell 12 (by omega)
    go_upto_region 7 with (go_at_call 25; go_loud (refine (HP6.out _).mono ?_; rintro e w99 ⟨rfl, hw99⟩; have hw98 := hw99.symm; clear hw99; subst hw98))
    have HR6 := hidV (HR5.out.set 12 (by omega) (v := 1 + p6) (by omega))
    obtain ⟨c6, hc6⟩ : ∃ c6, c6 = upd c5 12 (1 + p6) := ⟨_, rfl⟩
    rw [← hc6] at HR6
    have HC6 := hidV hc6
    clear hc6
    generalize (W5.setCell ⟨w.heap.size, 12, none⟩ (.int .i64 (1 + p6))) = W6 at *
    clear f6 q6 l6 HR5 HP6
    obtain ⟨zs, hzs, hz2⟩ := HR6.out.2.1
    have HZ9 := hidV (hz2.sets (vs := (cfgA c6).toList) (by rw [cfgA_len, hzs]; exact Nat.le_refl _))
    have hth : W6.there (w.heap.size + 1) 0 (cfgA c6).size := fun j hj => by
      have hj' : j < zs.length := by rw [hzs]; exact hj
      rw [Nat.zero_add]
      obtain ⟨u, hu⟩ := hz2.some hj'
      exact ⟨by rw [hu]; rfl, hz2.2.2 j⟩
    have hlc : Lc W6 w.heap.size c6 := fun j v hv => by rw [Nat.zero_add]; exact HR6.out.1.2.1 j v hv
    have HBZ := hidV HR6.out.2.2
    clear hz2 HR6
    refine wp_region_lit ?_
    refine wpList_cfg (by rfl) _ (by rfl) (by rfl) hlc ?_
    refine wpList_store_mid (by rfl) 23 _ _ (by rfl) (w.heap.size + 1) 0 (cfgA c6) (by rfl) (by rfl) hth (by rw [← Array.length_toList]; exact Lc.info c6) (by simp [cfgA, Value.oneCell']) ?_
    refine wpList_nil ?_
    clear hth hlc
    simp only [Act.put, Exit.then]
    go_wp2
    refine bodyPost_ret (res_cf rfl _ _ (w.heap.size + 1) c6 rfl ?_) rfl ⟨c6, (3 + p1).toNat, rfl, ?_, HBZ.out.2, ?_⟩
    · rw [setCells_sets]; exact HZ9.out
    · have e8 : c6 8 = 3 + p1 := by rw [HC6.out, upd_other _ _ (by omega), HC5.out, upd_other _ _ (by omega), HC4.out, upd_other _ _ (by omega), HC3.out, upd_other _ _ (by omega), HC2.out, upd_other _ _ (by omega), HC1.out, upd_same]
      have e9 : c6 9 = 4096 + p2 := by rw [HC6.out, upd_other _ _ (by omega), HC5.out, upd_other _ _ (by omega), HC4.out, upd_other _ _ (by omega), HC3.out, upd_other _ _ (by omega), HC2.out, upd_same]
      have e10 : c6 10 = 2 + p3 := by rw [HC6.out, upd_other _ _ (by omega), HC5.out, upd_other _ _ (by omega), HC4.out, upd_other _ _ (by omega), HC3.out, upd_same]
      have e5 : c6 5 = 1 + p4 := by rw [HC6.out, upd_other _ _ (by omega), HC5.out, upd_other _ _ (by omega), HC4.out, upd_same]
      have e7 : c6 7 = m5 := by rw [HC6.out, upd_other _ _ (by omega), HC5.out, upd_same]
      have e12 : c6 12 = 1 + p6 := by rw [HC6.out, upd_same]
      exact ⟨by rw [e8]; omega, by omega, by omega, by rw [e9]; omega, by rw [e10]; omega, by rw [e5]; omega, by rw [e7]; omega, by rw [e12]; omega⟩
    · rw [setCells_sets]; exact below_sets (by omega) _ _ _ HBZ.out.1
end Vr
end Go.Proofs.YtaejjpbpnedblaaGreat
namespace Go.Proofs.YtaejjpbpnedblaaGreat
namespace Vr
open Go.RowKit Go.Shelf
set_option linter.unusedVariables false
set_option linter.unusedSimpArgs false
attribute [local go_sem] Oper.semAt_some

/-- what has come when k rounds are over -/
def upto {α : Type} (f : Nat → α) (k : Nat) : List α := (List.range k).map f
theorem upto_succ {α : Type} (f : Nat → α) (k : Nat) : upto f (k + 1) = upto f k ++ [f k] := by simp [upto, List.range_succ]
theorem upto_length {α : Type} (f : Nat → α) (k : Nat) : (upto f k).length = k := by simp [upto]
theorem upto_all (zs : List Int) : upto (fun j => zs[j]?.getD 0) zs.length = zs := by
  apply List.ext_getElem
  · simp [upto]
  · intro i h1 h2
    simp [upto, h2]

set_option maxRecDepth 100000 in
set_option maxHeartbeats 2000000 in
/-- the iterator of slices.Values -/
theorem values1I (n : Nat) (hn : 1 ≤ n) (l Bs n₀ b off cap : Nat) (zs : List Int) (hreach : zs.length ≤ 1000000) (hb : b < n₀) (J Jx : List Int → World → Prop)
    (hY : ∀ pre x W, J pre W → pre.length < zs.length → YieldAt Fence.wide (n - 1) Tryz.prog l #[.int .i64 x] W fun e W' =>
      (e = .returned (.bool true) ∧ J (pre ++ [x]) W' ∧ Below n₀ W W') ∨ (e = .returned (.bool false) ∧ Jx (pre ++ [x]) W'))
    (W : World) (hBs : W.cell? ⟨Bs, 0, none⟩ = some (.slice (some ⟨b, off, none⟩) zs.length cap)) (hc : ∀ j, j < zs.length → W.cell? ⟨b, off + j, none⟩ = some (.int .i64 (zs[j]?.getD 0))) (h0 : J [] W) :
    CallsIn Fence.wide n Tryz.prog 102 #[.func (.yield l) #[] #[], .pointer (some ⟨Bs, 0, none⟩)] W fun e W' => (∃ v, e = .returned v) ∧
      ((∃ ys, ys = upto (fun j => zs[j]?.getD 0) zs.length ∧ J ys W') ∨ (∃ pre, (∃ k, k ≤ zs.length ∧ pre = upto (fun j => zs[j]?.getD 0) k) ∧ Jx pre W')) := by
  obtain ⟨len, hlen⟩ : ∃ len, len = zs.length := ⟨_, rfl⟩
  rw [← hlen] at hreach hY hBs hc ⊢
  clear hlen
  refine callsIn_of_wp Tryz.func102 rfl trivial ?_ rfl
  simp only [Tryz.ntmps102, List.size_toArray, List.length_cons, List.length_nil, Nat.reduceAdd, Nat.reduceSub, Array.replicate_succ, Array.replicate_zero, List.push_toArray, List.append_toArray, List.nil_append, List.cons_append]
  gi_wp2
  gi_loopw [7] (fun i wr => ∃ k : Nat, k ≤ len ∧ i = .int .i64 k ∧ J (upto (fun j => zs[j]?.getD 0) k) wr ∧ Below n₀ W wr)
    (fun i _ => len - (intOf i).toNat)
  case atStart => exact ⟨0, Nat.zero_le _, rfl, h0, Below.refl _ _⟩
  case round =>
    obtain ⟨k, hk, rfl, hJs, hnx⟩ := hrel
    have hcx : k < len → wr.cell? ⟨b, off + k, none⟩ = some (.int .i64 (zs[k]?.getD 0)) := fun h => (hnx.cell (p := ⟨b, off + k, none⟩) hb).trans (hc k h)
    by_cases hlt : k < len
    · obtain ⟨fn, tmps, assign, body, hy, hR⟩ := hY _ (zs[k]?.getD 0) wr hJs (by rw [upto_length]; exact hlt)
      have hcx' := hcx hlt
      gi_wp2
      refine hR.mono ?_
      rintro e W3 (⟨rfl, hJ3, hk3⟩ | ⟨rfl, hJx3⟩)
      · gi_wp2
        go_roundw
        case rel => exact ⟨k + 1, by omega, by go_num, by rw [upto_succ]; exact hJ3, hnx.trans hk3⟩
        case measure => simp [intOf]; omega
      · gi_wp2
        refine bodyPost_ret (results_none rfl _ _ _) rfl ?_
        exact ⟨⟨_, rfl⟩, .inr ⟨_, ⟨k + 1, by omega, (upto_succ _ _).symm⟩, hJx3⟩⟩
    · obtain rfl : k = len := by omega
      gi_wp2
      go_end0
      exact ⟨⟨_, rfl⟩, .inl ⟨_, rfl, hJs⟩⟩
set_option maxHeartbeats 1000000 in
theorem valuesI (a : Option Addr) (len cap : Nat) (w : World) :
    Calls Tryz.prog 78 #[.slice a len cap] w fun e w' => e = .returned (.func (.func 102) #[] #[.pointer (some ⟨w.heap.size, 0, none⟩)]) ∧ w' = w.alloc (.cells #[.slice a len cap] 35) := by
  go_enter Tryz.func78, Tryz.ntmps78
  go_wp2
  go_ret
  exact ⟨rfl, rfl⟩
theorem values_stopsI (n : Nat) (hn : 1 ≤ n) (Bs n₀ b off cap : Nat) (zs : List Int) (hreach : zs.length ≤ 1000000) (w : World) (hBs : Bs < w.heap.size) (hn₀ : n₀ ≤ w.heap.size) (hb : b < n₀)
    (hc : w.cell? ⟨Bs, 0, none⟩ = some (.slice (some ⟨b, off, none⟩) zs.length cap)) (hcs : ∀ j, j < zs.length → w.cell? ⟨b, off + j, none⟩ = some (.int .i64 (zs[j]?.getD 0))) :
    SeqStopsK Fence.wide n Tryz.prog 102 #[.pointer (some ⟨Bs, 0, none⟩)] (fun x : Int => #[Value.int .i64 x]) (Below n₀) (fun ys => ys = zs) (fun pre => True) zs.length w := fun l J Jx W hW _ _ hY h0 => by
  refine (values1I n hn l Bs n₀ b off cap zs hreach hb J Jx hY W ((hW.cell (p := ⟨Bs, 0, none⟩) hBs).trans hc) (fun j hj => (hW.cell (p := ⟨b, off + j, none⟩) (Nat.lt_of_lt_of_le hb hn₀)).trans (hcs j hj)) h0).mono ?_
  rintro e W' ⟨he, ⟨ys, rfl, hj⟩ | ⟨pre, ⟨k, hk, rfl⟩, hj⟩⟩
  · exact ⟨he, .inl ⟨_, upto_all zs, hj⟩⟩
  · exact ⟨he, .inr ⟨_, trivial, hj⟩⟩
theorem infoEI : (Tryz.prog.info? 3).map (fun i => (i.zero, i.size, i.bytes)) = some (some (.int .i64 0), 1, 8) := by kernel_rfl
set_option maxRecDepth 100000 in
set_option maxHeartbeats 2000000 in
theorem appendSeqI (n : Nat) (hn : 3 ≤ n) (Bs b off cap : Nat) (zs : List Int) (hreach : zs.length ≤ 1000000) (w : World) (hBs : Bs < w.heap.size) (hb : b < w.heap.size)
    (hc : w.cell? ⟨Bs, 0, none⟩ = some (.slice (some ⟨b, off, none⟩) zs.length cap)) (hcs : ∀ j, j < zs.length → w.cell? ⟨b, off + j, none⟩ = some (.int .i64 (zs[j]?.getD 0))) :
    CallsIn Fence.wide n Tryz.prog 120 #[.slice none 0 0, .func (.func 102) #[] #[.pointer (some ⟨Bs, 0, none⟩)]] w fun e W' => ∃ v, e = .returned v ∧ W'.ownsRow w.heap.size 3 1 v zs.length (zs.map (Value.int .i64)) ∧ Below w.heap.size w W' := by
  have h1 : 1 ≤ n := by omega
  obtain ⟨i0, hi, hz0, hz1, hz2⟩ := info_parts infoEI
  refine callsIn_of_wp_marks Tryz.func120 rfl trivial ?_ rfl
  simp only [Tryz.ntmps120, List.size_toArray, List.length_cons, List.length_nil, Nat.reduceAdd, Nat.reduceSub, Array.replicate_succ, Array.replicate_zero, List.push_toArray, List.append_toArray, List.nil_append, List.cons_append]
  gi_wp2
  have bO := Boxed.new w 35 (.slice none 0 0)
  have hB0 : Below w.heap.size w (w.alloc (.cells #[.slice none 0 0] 35)) := (Below.refl _ w).alloc (Nat.le_refl _) _
  refine wpIn_rangeFunc_ownG rfl h1 (gf := 102) (lb := #[.pointer (some ⟨Bs, 0, none⟩)]) rfl trivial (enters_of Tryz.func102 (by kernel_rfl) rfl)
    (values_stopsI (n - 1) (by omega) Bs w.heap.size b off cap zs hreach _ (by simp; omega) (by simp) hb ((hB0.cell (p := ⟨Bs, 0, none⟩) hBs).trans hc) (fun j hj => (hB0.cell (p := ⟨b, off + j, none⟩) hb).trans (hcs j hj))) belowK_t (belowK_b (by simp)) (Below.refl _ _) (fun _ => rfl)
    (fun pre W => (∃ v, Boxed W w.heap.size 35 v ∧ W.ownsRow w.heap.size 3 1 v pre.length (pre.map (Value.int .i64)) ∧ True) ∧ Below w.heap.size w W)
    (fun _ _ _ => False)
    (OwnFrom.and (Own.from (holdsRow_own w.heap.size w.heap.size 35 3 1 (fun pre : List Int => pre.length) (fun pre : List Int => pre.map (Value.int .i64)) (fun _ _ => True)) _) (ownFrom_below (Nat.le_refl _) (by simp)))
    (fun _ _ _ _ _ hs _ _ => hs)
    ⟨⟨_, bO, World.ownsRow_nil _ _ _ _, trivial⟩, hB0⟩
    (fun x => { tmps := #[.slice none 0 0, .func (.func 102) #[] #[.pointer (some ⟨Bs, 0, none⟩)], .pointer (some ⟨w.heap.size, 0, none⟩), undef, .slice none 0 0, .int .i64 x, .func (.func 102) #[] #[.pointer (some ⟨Bs, 0, none⟩)], .int .i64 x, undef, undef, undef, undef, undef], defers := [] }) ?assign ?body ?done ?stop
  case assign =>
    intro l x W K hK
    gi_wp2
    exact hK
  case body =>
    rintro l pre x W ⟨⟨v, hv, hrow, _⟩, hB⟩ hlt
    have hc := hv.cell
    gi_wp2_with (gi_at_builtin; refine wpListIn_append_own _ rfl _ _ 35 rfl w.heap.size 3 i0 (.int .i64 0) 1 8 Tryz.underlying35 hi hz0 hz1 hz2 rfl (by decide) _ _ _ rfl (hrow.alloc _) ⟨W.heap.size, 0, none⟩ 1 1 [.int .i64 x] rfl rfl (cell_one_new _ _ _) (by simp [Value.oneCell']) (by unfold maxLen; omega) (by omega) (by have := hB.size; simp; omega) ?_; intro v' w1 hown' hgrow _; obtain ⟨g', cap', rfl⟩ := ownsRow_succ hown'; obtain ⟨hv1, hv2, hr2, hk2, hb2⟩ := hv.appended (by decide) hrow hB.size (Nat.le_refl _) hown' hgrow; have hc1 := hv1.cell; have hf1 := hv1.frozen)
    exact ⟨hk2.from _, hb2, ⟨_, hv2, by simpa using hr2, trivial⟩, hB.trans hb2⟩
  case done =>
    rintro D ys W hD rfl ⟨⟨v, hv, hrow, hnil⟩, hB⟩ hK
    have hc := hv.cell
    gi_wp2
    refine ⟨by simp, .inl ⟨_, _, rfl, run_takeDeferred hK, ?_⟩⟩
    exact ⟨_, results_tmp rfl _ _ _, v, rfl, ownsRow_putObj hrow _ hK rfl, hB.trans (belowK_b (w := w) (Nat.le_refl _) W D _ _ (by simp at hD; omega) hK rfl rfl)⟩
  case stop =>
    rintro D c pre W _ _ h _
    exact h.elim
theorem collectI (Bs b off cap : Nat) (zs : List Int) (hreach : zs.length ≤ 1000000) (w : World) (hBs : Bs < w.heap.size) (hb : b < w.heap.size)
    (hc : w.cell? ⟨Bs, 0, none⟩ = some (.slice (some ⟨b, off, none⟩) zs.length cap)) (hcs : ∀ j, j < zs.length → w.cell? ⟨b, off + j, none⟩ = some (.int .i64 (zs[j]?.getD 0))) :
    Calls Tryz.prog 100 #[.func (.func 102) #[] #[.pointer (some ⟨Bs, 0, none⟩)]] w fun e W' => ∃ v, e = .returned v ∧ W'.ownsRow w.heap.size 3 1 v zs.length (zs.map (Value.int .i64)) ∧ Below w.heap.size w W' := by
  have HA : Hid (Calls Tryz.prog 120 #[.slice none 0 0, .func (.func 102) #[] #[.pointer (some ⟨Bs, 0, none⟩)]] w fun e W' => ∃ v, e = .returned v ∧ W'.ownsRow w.heap.size 3 1 v zs.length (zs.map (Value.int .i64)) ∧ Below w.heap.size w W') := (callsIn_wide (n := 5)).1 (appendSeqI 5 (by omega) Bs b off cap zs hreach w hBs hb hc hcs)
  clear hc hcs
  go_enter Tryz.func100, Tryz.ntmps100
  go_wp2_with (go_at_call 120; go_loud (refine HA.out.mono ?_; rintro e w1 ⟨v, rfl, ho, hb1⟩))
  go_ret
  exact ⟨v, rfl, ho, hb1⟩

set_option maxRecDepth 100000 in
set_option maxHeartbeats 2000000 in
/-- the iterator of slices.Values -/
theorem values1U (n : Nat) (hn : 1 ≤ n) (l Bs n₀ b off cap : Nat) (zs : List Int) (hreach : zs.length ≤ 1000000) (hb : b < n₀) (J Jx : List Int → World → Prop)
    (hY : ∀ pre x W, J pre W → pre.length < zs.length → YieldAt Fence.wide (n - 1) Tryz.prog l #[.int .u64 x] W fun e W' =>
      (e = .returned (.bool true) ∧ J (pre ++ [x]) W' ∧ Below n₀ W W') ∨ (e = .returned (.bool false) ∧ Jx (pre ++ [x]) W'))
    (W : World) (hBs : W.cell? ⟨Bs, 0, none⟩ = some (.slice (some ⟨b, off, none⟩) zs.length cap)) (hc : ∀ j, j < zs.length → W.cell? ⟨b, off + j, none⟩ = some (.int .u64 (zs[j]?.getD 0))) (h0 : J [] W) :
    CallsIn Fence.wide n Tryz.prog 117 #[.func (.yield l) #[] #[], .pointer (some ⟨Bs, 0, none⟩)] W fun e W' => (∃ v, e = .returned v) ∧
      ((∃ ys, ys = upto (fun j => zs[j]?.getD 0) zs.length ∧ J ys W') ∨ (∃ pre, (∃ k, k ≤ zs.length ∧ pre = upto (fun j => zs[j]?.getD 0) k) ∧ Jx pre W')) := by
  obtain ⟨len, hlen⟩ : ∃ len, len = zs.length := ⟨_, rfl⟩
  rw [← hlen] at hreach hY hBs hc ⊢
  clear hlen
  refine callsIn_of_wp Tryz.func117 rfl trivial ?_ rfl
  simp only [Tryz.ntmps117, List.size_toArray, List.length_cons, List.length_nil, Nat.reduceAdd, Nat.reduceSub, Array.replicate_succ, Array.replicate_zero, List.push_toArray, List.append_toArray, List.nil_append, List.cons_append]
  gi_wp2
  gi_loopw [7] (fun i wr => ∃ k : Nat, k ≤ len ∧ i = .int .i64 k ∧ J (upto (fun j => zs[j]?.getD 0) k) wr ∧ Below n₀ W wr)
    (fun i _ => len - (intOf i).toNat)
  case atStart => exact ⟨0, Nat.zero_le _, rfl, h0, Below.refl _ _⟩
  case round =>
    obtain ⟨k, hk, rfl, hJs, hnx⟩ := hrel
    have hcx : k < len → wr.cell? ⟨b, off + k, none⟩ = some (.int .u64 (zs[k]?.getD 0)) := fun h => (hnx.cell (p := ⟨b, off + k, none⟩) hb).trans (hc k h)
    by_cases hlt : k < len
    · obtain ⟨fn, tmps, assign, body, hy, hR⟩ := hY _ (zs[k]?.getD 0) wr hJs (by rw [upto_length]; exact hlt)
      have hcx' := hcx hlt
      gi_wp2
      refine hR.mono ?_
      rintro e W3 (⟨rfl, hJ3, hk3⟩ | ⟨rfl, hJx3⟩)
      · gi_wp2
        go_roundw
        case rel => exact ⟨k + 1, by omega, by go_num, by rw [upto_succ]; exact hJ3, hnx.trans hk3⟩
        case measure => simp [intOf]; omega
      · gi_wp2
        refine bodyPost_ret (results_none rfl _ _ _) rfl ?_
        exact ⟨⟨_, rfl⟩, .inr ⟨_, ⟨k + 1, by omega, (upto_succ _ _).symm⟩, hJx3⟩⟩
    · obtain rfl : k = len := by omega
      gi_wp2
      go_end0
      exact ⟨⟨_, rfl⟩, .inl ⟨_, rfl, hJs⟩⟩
set_option maxHeartbeats 1000000 in
theorem valuesU (a : Option Addr) (len cap : Nat) (w : World) :
    Calls Tryz.prog 97 #[.slice a len cap] w fun e w' => e = .returned (.func (.func 117) #[] #[.pointer (some ⟨w.heap.size, 0, none⟩)]) ∧ w' = w.alloc (.cells #[.slice a len cap] 26) := by
  go_enter Tryz.func97, Tryz.ntmps97
  go_wp2
  go_ret
  exact ⟨rfl, rfl⟩
theorem values_stopsU (n : Nat) (hn : 1 ≤ n) (Bs n₀ b off cap : Nat) (zs : List Int) (hreach : zs.length ≤ 1000000) (w : World) (hBs : Bs < w.heap.size) (hn₀ : n₀ ≤ w.heap.size) (hb : b < n₀)
    (hc : w.cell? ⟨Bs, 0, none⟩ = some (.slice (some ⟨b, off, none⟩) zs.length cap)) (hcs : ∀ j, j < zs.length → w.cell? ⟨b, off + j, none⟩ = some (.int .u64 (zs[j]?.getD 0))) :
    SeqStopsK Fence.wide n Tryz.prog 117 #[.pointer (some ⟨Bs, 0, none⟩)] (fun x : Int => #[Value.int .u64 x]) (Below n₀) (fun ys => ys = zs) (fun pre => True) zs.length w := fun l J Jx W hW _ _ hY h0 => by
  refine (values1U n hn l Bs n₀ b off cap zs hreach hb J Jx hY W ((hW.cell (p := ⟨Bs, 0, none⟩) hBs).trans hc) (fun j hj => (hW.cell (p := ⟨b, off + j, none⟩) (Nat.lt_of_lt_of_le hb hn₀)).trans (hcs j hj)) h0).mono ?_
  rintro e W' ⟨he, ⟨ys, rfl, hj⟩ | ⟨pre, ⟨k, hk, rfl⟩, hj⟩⟩
  · exact ⟨he, .inl ⟨_, upto_all zs, hj⟩⟩
  · exact ⟨he, .inr ⟨_, trivial, hj⟩⟩
theorem infoEU : (Tryz.prog.info? 55).map (fun i => (i.zero, i.size, i.bytes)) = some (some (.int .u64 0), 1, 8) := by kernel_rfl
set_option maxRecDepth 100000 in
set_option maxHeartbeats 2000000 in
theorem appendSeqU (n : Nat) (hn : 3 ≤ n) (Bs b off cap : Nat) (zs : List Int) (hreach : zs.length ≤ 1000000) (w : World) (hBs : Bs < w.heap.size) (hb : b < w.heap.size)
    (hc : w.cell? ⟨Bs, 0, none⟩ = some (.slice (some ⟨b, off, none⟩) zs.length cap)) (hcs : ∀ j, j < zs.length → w.cell? ⟨b, off + j, none⟩ = some (.int .u64 (zs[j]?.getD 0))) :
    CallsIn Fence.wide n Tryz.prog 136 #[.slice none 0 0, .func (.func 117) #[] #[.pointer (some ⟨Bs, 0, none⟩)]] w fun e W' => ∃ v, e = .returned v ∧ W'.ownsRow w.heap.size 55 1 v zs.length (zs.map (Value.int .u64)) ∧ Below w.heap.size w W' := by
  have h1 : 1 ≤ n := by omega
  obtain ⟨i0, hi, hz0, hz1, hz2⟩ := info_parts infoEU
  refine callsIn_of_wp_marks Tryz.func136 rfl trivial ?_ rfl
  simp only [Tryz.ntmps136, List.size_toArray, List.length_cons, List.length_nil, Nat.reduceAdd, Nat.reduceSub, Array.replicate_succ, Array.replicate_zero, List.push_toArray, List.append_toArray, List.nil_append, List.cons_append]
  gi_wp2
  have bO := Boxed.new w 26 (.slice none 0 0)
  have hB0 : Below w.heap.size w (w.alloc (.cells #[.slice none 0 0] 26)) := (Below.refl _ w).alloc (Nat.le_refl _) _
  refine wpIn_rangeFunc_ownG rfl h1 (gf := 117) (lb := #[.pointer (some ⟨Bs, 0, none⟩)]) rfl trivial (enters_of Tryz.func117 (by kernel_rfl) rfl)
    (values_stopsU (n - 1) (by omega) Bs w.heap.size b off cap zs hreach _ (by simp; omega) (by simp) hb ((hB0.cell (p := ⟨Bs, 0, none⟩) hBs).trans hc) (fun j hj => (hB0.cell (p := ⟨b, off + j, none⟩) hb).trans (hcs j hj))) belowK_t (belowK_b (by simp)) (Below.refl _ _) (fun _ => rfl)
    (fun pre W => (∃ v, Boxed W w.heap.size 26 v ∧ W.ownsRow w.heap.size 55 1 v pre.length (pre.map (Value.int .u64)) ∧ True) ∧ Below w.heap.size w W)
    (fun _ _ _ => False)
    (OwnFrom.and (Own.from (holdsRow_own w.heap.size w.heap.size 26 55 1 (fun pre : List Int => pre.length) (fun pre : List Int => pre.map (Value.int .u64)) (fun _ _ => True)) _) (ownFrom_below (Nat.le_refl _) (by simp)))
    (fun _ _ _ _ _ hs _ _ => hs)
    ⟨⟨_, bO, World.ownsRow_nil _ _ _ _, trivial⟩, hB0⟩
    (fun x => { tmps := #[.slice none 0 0, .func (.func 117) #[] #[.pointer (some ⟨Bs, 0, none⟩)], .pointer (some ⟨w.heap.size, 0, none⟩), undef, .slice none 0 0, .int .u64 x, .func (.func 117) #[] #[.pointer (some ⟨Bs, 0, none⟩)], .int .u64 x, undef, undef, undef, undef, undef], defers := [] }) ?assign ?body ?done ?stop
  case assign =>
    intro l x W K hK
    gi_wp2
    exact hK
  case body =>
    rintro l pre x W ⟨⟨v, hv, hrow, _⟩, hB⟩ hlt
    have hc := hv.cell
    gi_wp2_with (gi_at_builtin; refine wpListIn_append_own _ rfl _ _ 26 rfl w.heap.size 55 i0 (.int .u64 0) 1 8 Tryz.underlying26 hi hz0 hz1 hz2 rfl (by decide) _ _ _ rfl (hrow.alloc _) ⟨W.heap.size, 0, none⟩ 1 1 [.int .u64 x] rfl rfl (cell_one_new _ _ _) (by simp [Value.oneCell']) (by unfold maxLen; omega) (by omega) (by have := hB.size; simp; omega) ?_; intro v' w1 hown' hgrow _; obtain ⟨g', cap', rfl⟩ := ownsRow_succ hown'; obtain ⟨hv1, hv2, hr2, hk2, hb2⟩ := hv.appended (by decide) hrow hB.size (Nat.le_refl _) hown' hgrow; have hc1 := hv1.cell; have hf1 := hv1.frozen)
    exact ⟨hk2.from _, hb2, ⟨_, hv2, by simpa using hr2, trivial⟩, hB.trans hb2⟩
  case done =>
    rintro D ys W hD rfl ⟨⟨v, hv, hrow, hnil⟩, hB⟩ hK
    have hc := hv.cell
    gi_wp2
    refine ⟨by simp, .inl ⟨_, _, rfl, run_takeDeferred hK, ?_⟩⟩
    exact ⟨_, results_tmp rfl _ _ _, v, rfl, ownsRow_putObj hrow _ hK rfl, hB.trans (belowK_b (w := w) (Nat.le_refl _) W D _ _ (by simp at hD; omega) hK rfl rfl)⟩
  case stop =>
    rintro D c pre W _ _ h _
    exact h.elim
theorem collectU (Bs b off cap : Nat) (zs : List Int) (hreach : zs.length ≤ 1000000) (w : World) (hBs : Bs < w.heap.size) (hb : b < w.heap.size)
    (hc : w.cell? ⟨Bs, 0, none⟩ = some (.slice (some ⟨b, off, none⟩) zs.length cap)) (hcs : ∀ j, j < zs.length → w.cell? ⟨b, off + j, none⟩ = some (.int .u64 (zs[j]?.getD 0))) :
    Calls Tryz.prog 116 #[.func (.func 117) #[] #[.pointer (some ⟨Bs, 0, none⟩)]] w fun e W' => ∃ v, e = .returned v ∧ W'.ownsRow w.heap.size 55 1 v zs.length (zs.map (Value.int .u64)) ∧ Below w.heap.size w W' := by
  have HA : Hid (Calls Tryz.prog 136 #[.slice none 0 0, .func (.func 117) #[] #[.pointer (some ⟨Bs, 0, none⟩)]] w fun e W' => ∃ v, e = .returned v ∧ W'.ownsRow w.heap.size 55 1 v zs.length (zs.map (Value.int .u64)) ∧ Below w.heap.size w W') := (callsIn_wide (n := 5)).1 (appendSeqU 5 (by omega) Bs b off cap zs hreach w hBs hb hc hcs)
  clear hc hcs
  go_enter Tryz.func116, Tryz.ntmps116
  go_wp2_with (go_at_call 136; go_loud (refine HA.out.mono ?_; rintro e w1 ⟨v, rfl, ho, hb1⟩))
  go_ret
  exact ⟨v, rfl, ho, hb1⟩
end Vr
end Go.Proofs.YtaejjpbpnedblaaGreat
