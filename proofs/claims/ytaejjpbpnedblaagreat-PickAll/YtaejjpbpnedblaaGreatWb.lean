import Derived.Test.YtaejjpbpnedblaaGreatVx
import Derived.Deep.MidRow
namespace Go.Proofs.YtaejjpbpnedblaaGreat
namespace Vr
open Go.Shelf Go.RowKit Go.Lib Go.Sort Go.Maps Go.ChangeMaps Go.MapKept Laws Irw Crw
set_option linter.unusedVariables false
set_option linter.unusedSimpArgs false
set_option maxRecDepth 20000
abbrev Cf := Nat → Int
def cfgA (c : Cf) : Array Value := #[.int .i64 (c 0), .int .i64 (c 1), .int .i64 (c 2), .int .i64 (c 3), .int .i64 (c 4), .int .i64 (c 5), .int .i64 (c 6), .int .i64 (c 7), .int .i64 (c 8), .int .i64 (c 9), .int .i64 (c 10), .int .i64 (c 11), .int .i64 (c 12), .int .i64 (c 13), .int .i64 (c 14), .int .i64 (c 15), .int .i64 (c 16), .int .i64 (c 17), .int .i64 (c 18), .int .i64 (c 19), .int .i64 (c 20), .int .i64 (c 21), .int .i64 (c 22), .int .i64 (c 23), .int .i64 (c 24), .int .i64 (c 25), .int .i64 (c 26)]
def Lc (V : World) (B : Nat) (c : Cf) : Prop := V.rangeAt B 0 (cfgA c).toList
theorem cfgA_len (c : Cf) : (cfgA c).toList.length = 27 := rfl
theorem Lc.keep {W W' : World} {B : Nat} {c : Cf} (h : Lc W B c) (hz : B < W.heap.size) (hb : RowKit.Below W.heap.size W W') : Lc W' B c := fun j v hv => (hb.cell (p := ⟨B, 0 + j, none⟩) hz).trans (h j v hv)
theorem lc_new (w : World) (c : Cf) (T : TypeId) : Lc (w.alloc (.cells (cfgA c) T)) w.heap.size c := fun j v hv => by
  rw [World.cell?_alloc_at _ _ _ _ rfl, Nat.zero_add, ← Array.getElem?_toList]
  exact hv
theorem Lc.cell {V : World} {B : Nat} {c : Cf} (h : Lc V B c) (k : Nat) {v : Value} (hv : (cfgA c).toList[k]? = some v) : V.cell? ⟨B, k, none⟩ = some v := by have := h k v hv; rwa [Nat.zero_add] at this
theorem Lc.info (c : Cf) : (Tryz.prog.info? 23).map (·.size) = some (cfgA c).toList.length := by rw [cfgA_len]; kernel_rfl
theorem toC (c : Cf) : (cfgA c).toList.toArray = cfgA c := Array.toArray_toList
theorem wpList_cfg {ops : Array Oper} {rest : List Oper} {op : Oper} {a : Act} {w : World} {Q : Exit → Act → World → Prop} {c : Cf} {b : Nat} (hgd : op.guard = none) (x : Operand) (ho : op.op = .load 23 x) (hx : a.eval x = .pointer (some ⟨b, 0, none⟩)) (hc : Lc w b c)
    (h : wpList Tryz.prog ops Q rest (a.put op.dst (.agg (cfgA c))) w) : wpList Tryz.prog ops Q (op :: rest) a w :=
  wpList_load_mid hgd _ x ho b 0 hx (cfgA c).toList _ hc Tryz.underlying23 rfl (Lc.info c) (by rw [toC]; exact h)
theorem yl_cfg {ops : Array Oper} {S : World → Prop} {op : Oper} {a : Act} {c : Cf} {b : Nat} (hw : Region.wanted op (yielded ops a.tmps) = true) (x : Operand) (ho : op.op = .load 23 x) (hx : a.eval x = .pointer (some ⟨b, 0, none⟩)) (hS : ∀ w, S w → Lc w b c) : YieldsIf Tryz.prog ops S op (.agg (cfgA c)) a := by
  have := yieldsIf_load_mid (P := Tryz.prog) hw _ x ho b 0 hx (cfgA c).toList _ hS Tryz.underlying23 rfl (Lc.info c)
  rwa [toC] at this
/-- a configuration as it may be, of a version of so many levels -/
structure Cr (c : Cf) (n : Nat) : Prop where
  lv : c 8 = n
  n3 : 3 ≤ n
  n5 : n ≤ 5
  ba : 4096 ≤ c 9 ∧ c 9 ≤ 16777216
  mu : 2 ≤ c 10 ∧ c 10 ≤ 10
  tr : 1 ≤ c 5 ∧ c 5 ≤ 16
  st : 2 ≤ c 7 ∧ c 7 ≤ 16
  fa : 1 ≤ c 12 ∧ c 12 ≤ 16
set_option maxHeartbeats 1000000 in
theorem last_any (c : Cf) (vb : Nat) (V : Lv) (w : World) (h : VAt w vb V) (hc : Cr c V.length) : Calls Tryz.prog 56 #[.agg (cfgA c), .pointer (some ⟨vb, 0, none⟩)] w fun e w' => e = .returned (.int .i64 ((V.length : Int) - 1)) ∧ RowKit.Below w.heap.size w w' := by
  have hn3 := hc.n3
  have hn5 := hc.n5
  have hl8 : (cfgA c).toList[8]? = some (.int .i64 (V.length : Int)) := by rw [← hc.lv]; rfl
  have hb0 : RowKit.Below w.heap.size w (w.alloc (Obj.cells (cfgA c) 23)) := (Below.refl _ _).alloc (Nat.le_refl _) _
  have c8 := (lc_new w c 23).cell 8 hl8
  have q1 : min (V.length : Int) (V.length : Int) = (V.length : Int) := by omega
  have q2 : max 1 (V.length : Int) = (V.length : Int) := by omega
  have q3 : IntKind.i64.wrap ((V.length : Int) - 1) = (V.length : Int) - 1 := IntWalk.i64_in _ (by omega)
  have HL : Hid (∀ d, Calls Tryz.prog 39 #[.pointer (some ⟨vb, 0, none⟩)] ((w.alloc (Obj.cells (cfgA c) 23)).drewN d) fun e w' => e = .returned (.int .i64 (V.length : Int)) ∧ w' = (w.alloc (Obj.cells (cfgA c) 23)).drewN d) := fun d => levels_any vb V _ (h.below (bl_dn hb0 d))
  clear hl8 h
  go_enter Tryz.func56, Tryz.ntmps56
  go_wp2
  go_quiet ((go_at_call 39; exact Calls.quiet_of_same (HL.out _)))
  go_wp2
  go_ret
  exact ⟨rfl, bl_dn hb0 _⟩
set_option maxHeartbeats 400000 in
theorem share_any (a b : Int) (w : World) (ha : 0 ≤ a ∧ a ≤ 4000000000000000) (hb : 1 ≤ b ∧ b ≤ 9223372036854775807) : Calls Tryz.prog 81 #[.int .i64 a, .int .i64 b] w fun e w' => e = .returned (.int .i64 (1000 * a / b)) ∧ w' = w := by
  have q1 : ¬ b ≤ 0 := by omega
  have q2 : IntKind.i64.wrap (1000 * a) = 1000 * a := IntWalk.i64_in _ (by omega)
  have q3 : (1000 * a).tdiv b = 1000 * a / b := Int.tdiv_eq_ediv_of_nonneg (by omega)
  have q5 : 1000 * a / b ≤ 1000 * a := Int.ediv_le_self _ (by omega)
  have q6 : 0 ≤ 1000 * a / b := Int.ediv_nonneg (by omega) (by omega)
  have q4 : IntKind.i64.wrap (1000 * a / b) = 1000 * a / b := IntWalk.i64_in _ (by omega)
  have q7 : b ≠ 0 := by omega
  go_enter Tryz.func81, Tryz.ntmps81
  go_wp2
  go_ret
  exact ⟨rfl, rfl⟩
/-- what a level may weigh -/
def lim (c : Cf) (k : Nat) : Int := c 9 * (c 10) ^ k
theorem lim_succ (c : Cf) (k : Nat) : lim c (k + 1) = lim c k * c 10 := by unfold lim; rw [Int.pow_succ, Int.mul_assoc]
theorem lim_bound {c : Cf} {n : Nat} (h : Cr c n) : ∀ k, k ≤ 3 → 4096 ≤ lim c k ∧ lim c k ≤ 16777216 * 1000 := by
  obtain ⟨b1, b2⟩ := h.ba
  obtain ⟨m1, m2⟩ := h.mu
  have e0 : lim c 0 = c 9 := by simp [lim]
  have s0 : 4096 ≤ lim c 0 ∧ lim c 0 ≤ 16777216 := by rw [e0]; exact ⟨b1, b2⟩
  have st : ∀ (k : Nat) (B : Int), 4096 ≤ lim c k ∧ lim c k ≤ B → 4096 ≤ lim c (k + 1) ∧ lim c (k + 1) ≤ B * 10 := by
    intro k B ⟨h1, h2⟩
    rw [lim_succ]
    constructor
    · have := Int.mul_le_mul h1 (show (1 : Int) ≤ c 10 by omega) (by omega) (by omega)
      omega
    · exact Int.mul_le_mul h2 m2 (by omega) (by omega)
  have s1 : 4096 ≤ lim c 1 ∧ lim c 1 ≤ 16777216 * 10 := st 0 _ s0
  have s2 : 4096 ≤ lim c 2 ∧ lim c 2 ≤ 16777216 * 10 * 10 := st 1 _ s1
  have s3 : 4096 ≤ lim c 3 ∧ lim c 3 ≤ 16777216 * 10 * 10 * 10 := st 2 _ s2
  intro k hk
  have : k = 0 ∨ k = 1 ∨ k = 2 ∨ k = 3 := by omega
  rcases this with rfl | rfl | rfl | rfl
  · omega
  · omega
  · omega
  · omega
set_option maxHeartbeats 1000000 in
theorem limit_any (c : Cf) (n i : Nat) (w : World) (hc : Cr c n) (h1 : 1 ≤ i) (h4 : i ≤ 4) : Calls Tryz.prog 83 #[.agg (cfgA c), .int .i64 (i : Int)] w fun e w' => e = .returned (.int .i64 (lim c (i - 1))) ∧ RowKit.Below w.heap.size w w' := by
  have hb0 : RowKit.Below w.heap.size w (w.alloc (Obj.cells (cfgA c) 23)) := (Below.refl _ _).alloc (Nat.le_refl _) _
  have c9 := (lc_new w c 23).cell 9 rfl
  have c10 := (lc_new w c 23).cell 10 rfl
  have q3 : IntKind.i64.wrap ((i : Int) - 1) = (i : Int) - 1 := IntWalk.i64_in _ (by omega)
  have HC : Hid (Cr c n) := hc
  have e0 : lim c 0 = c 9 := by simp [lim]
  clear hc
  go_enter Tryz.func83, Tryz.ntmps83
  go_wp2
  go_loopw [5, 10] (fun m j wr => ∃ k : Nat, k ≤ i - 1 ∧ m = .int .i64 (lim c k) ∧ j = .int .i64 (k : Int) ∧ wr = w.alloc (Obj.cells (cfgA c) 23)) (fun _ j _ => i - (intOf j).toNat)
  case atStart => exact ⟨0, Nat.zero_le _, by rw [e0], rfl, rfl⟩
  case round =>
    obtain ⟨k, hk, rfl, rfl, rfl⟩ := hrel
    by_cases hlt : k < i - 1
    · have q1 : (k : Int) < (i : Int) - 1 := by omega
      have hbd := lim_bound HC.out (k + 1) (by omega)
      rw [lim_succ] at hbd
      have q4 : IntKind.i64.wrap (lim c k * c 10) = lim c k * c 10 := IntWalk.i64_in _ (by omega)
      go_wp2
      go_roundw
      case rel => exact ⟨k + 1, by omega, by rw [lim_succ], by go_num, trivial⟩
      case measure => simp [intOf]; omega
    · have q1 : ¬ (k : Int) < (i : Int) - 1 := by omega
      have hk' : k = i - 1 := by omega
      have HK : Hid (k = i - 1) := hk'
      clear hk'
      go_wp2
      go_ret
      exact ⟨by rw [HK.out]; rfl, hb0⟩
end Vr
end Go.Proofs.YtaejjpbpnedblaaGreat
namespace Go.Proofs.YtaejjpbpnedblaaGreat
namespace Vr
open Go.Shelf Go.RowKit Go.Lib Go.Sort Go.Maps Go.ChangeMaps Go.MapKept Laws Irw Crw
set_option linter.unusedVariables false
set_option linter.unusedSimpArgs false
set_option maxRecDepth 20000
def WeV (V : Lv) : Prop := ∀ l ∈ V, WeOk l
theorem WeV.lev {V : Lv} (h : WeV V) (i : Int) : WeOk (lev V i) := by
  unfold Vr.lev
  split
  · cases e : V[i.toNat]? with
    | none => intro t ht; simp at ht
    | some l => exact h l (List.mem_of_getElem? e)
  · intro t ht; simp at ht
/-- a level's score -/
def scr (c : Cf) (V : Lv) (i : Nat) : Int := if i = 0 then 1000 * ((lev V 0).length : Int) / c 5 else 1000 * sumW (lev V (i : Int)) / lim c (i - 1)
set_option maxHeartbeats 2000000 in
theorem score0_any (c : Cf) (vb : Nat) (V : Lv) (w : World) (h : VAt w vb V) (hc : Cr c V.length) : Calls Tryz.prog 57 #[.agg (cfgA c), .pointer (some ⟨vb, 0, none⟩), .int .i64 0] w fun e w' => e = .returned (.int .i64 (scr c V 0)) ∧ RowKit.Below w.heap.size w w' := by
  have hlen := h.1.len 0
  have htr := hc.tr
  have hb0 : RowKit.Below w.heap.size w (w.alloc (Obj.cells (cfgA c) 23)) := (Below.refl _ _).alloc (Nat.le_refl _) _
  have hLc := lc_new w c 23
  have c5 := hLc.cell 5 rfl
  have HT : Hid (Calls Tryz.prog 16 #[.pointer (some ⟨vb, 0, none⟩), .int .i64 0] (w.alloc (Obj.cells (cfgA c) 23)).drew fun e w' => NewIs (w.alloc (Obj.cells (cfgA c) 23)).drew (lev V 0) e w') := tables_any vb V 0 _ (h.below hb0.drew)
  have HB0 : Hid (RowKit.Below w.heap.size w (w.alloc (Obj.cells (cfgA c) 23)) ∧ Lc (w.alloc (Obj.cells (cfgA c) 23)) w.heap.size c) := ⟨hb0, hLc⟩
  obtain ⟨m, hm⟩ : ∃ m, (lev V 0).length = m := ⟨_, rfl⟩
  have HM : Hid ((lev V 0).length = m) := hm
  rw [hm] at hlen
  have HS : Hid (∀ W : World, Calls Tryz.prog 81 #[.int .i64 (m : Int), .int .i64 (c 5)] W fun e w' => e = .returned (.int .i64 (scr c V 0)) ∧ w' = W) := fun W => by
    have := share_any (m : Int) (c 5) W (by omega) (by omega)
    unfold scr
    rw [if_pos rfl, hm]
    exact this
  clear hb0 hLc hm h
  go_enter Tryz.func57, Tryz.ntmps57
  go_wp2
  go_region_with (first
    | (go_at_call 16; go_loud (refine HT.out.mono ?_; rintro e w2 ⟨_, rfl, ⟨G, rfl, hG, hrow⟩, hb2⟩; rw [HM.out]; have HB2 : Hid (RowKit.Below w.heap.size w w2) := HB0.out.1.trans (RowKit.Below.mono ⟨hb2.os, hb2.tape, hb2.output, hb2.size, hb2.block⟩ HB0.out.1.size); have d5 := (HB0.out.2.keep (by simp) ⟨hb2.os, hb2.tape, hb2.output, hb2.size, hb2.block⟩ : Lc w2 w.heap.size c).cell 5 rfl; clear hrow hb2 hG; simp only [svV]))
    | (go_at_call 81; go_loud (refine (HS.out _).mono ?_; rintro e w3 ⟨rfl, rfl⟩)))
  all_goals
    go_wp2
    go_ret
    exact ⟨rfl, HB2.out⟩
end Vr
end Go.Proofs.YtaejjpbpnedblaaGreat
