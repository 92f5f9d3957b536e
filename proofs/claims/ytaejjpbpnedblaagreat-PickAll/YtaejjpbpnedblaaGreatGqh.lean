import Derived.Test.YtaejjpbpnedblaaGreatGq7
import Derived.Test.YtaejjpbpnedblaaGreatFo
import Derived.OrdersHeld
import Derived.Test.YtaejjpbpnedblaaGreatGq4
import Derived.Deep.CutRange
import Derived.Deep.CutBlock
import Derived.Deep.DeepCutAuto
import Derived.Test.YtaejjpbpnedblaaGreatXg
namespace Go.Proofs.YtaejjpbpnedblaaGreat
namespace Vr
open Go.Shelf Go.RowKit Go.Lib Go.Sort Go.Maps Go.ChangeMaps Go.MapKept Laws Irw Crw
set_option linter.unusedVariables false
set_option linter.unusedSimpArgs false
set_option maxRecDepth 20000
set_option maxHeartbeats 2000000 in
theorem inputsO_any (c : Cf) (vb : Nat) (V : Lv) (pv : Value) (at_ : Int) (w : World) (h : VAt w vb V) (hc : Cr c V.length) (hno : ¬ (0 ≤ at_ ∧ at_ + 1 < V.length)) :
    Calls Tryz.prog 18 #[.agg (cfgA c), .pointer (some ⟨vb, 0, none⟩), pv, .int .i64 at_] w fun e w' => e = .returned (.tuple #[jbV 0 nS nS ⟨#[]⟩ false, .bool false]) ∧ RowKit.Below w.heap.size w w' := by
  have hn5 := hc.n5
  have hn3 := hc.n3
  obtain ⟨W, hW⟩ : ∃ X, (w.alloc (Obj.cells (cfgA c) 23)).alloc (Obj.cells #[.int .i64 0, .slice none 0 0, .slice none 0 0, .string ⟨#[]⟩, .bool false] 62) = X := ⟨_, rfl⟩
  have HW : Hid (RowKit.Below w.heap.size w W ∧ Lc W w.heap.size c ∧ Zb W (w.heap.size + 1) (jbC 0 nS nS ⟨#[]⟩ false) ∧ w.heap.size + 1 < W.heap.size) := by
    subst hW
    exact ⟨((Below.refl _ _).alloc (Nat.le_refl _) _).alloc (by simp) _, (lc_new w c 23).keep (by simp) ((Below.refl _ _).alloc (Nat.le_refl _) _), Zb.new2 w _ _ _, by simp⟩
  have HA : Hid (VAt w vb V ∧ Cr c V.length) := ⟨h, hc⟩
  have HNO := hidV hno
  have hLW := HW.out.2.1
  clear h hc hno
  go_enter Tryz.func18, Tryz.ntmps18
  by_cases h0 : at_ < 0
  · have hd : decide (at_ < 0) = true := decide_eq_true h0
    have a0' := HW.out.2.2.1.2.1 0 _ rfl
    have a1' := HW.out.2.2.1.2.1 1 _ rfl
    have a2' := HW.out.2.2.1.2.1 2 _ rfl
    have a3' := HW.out.2.2.1.2.1 3 _ rfl
    have a4' := HW.out.2.2.1.2.1 4 _ rfl
    have g0 := HW.out.2.2.1.2.2
    go_upto_region 1 with fail
    (try rw [hW])
    clear hW
    have hz : Zb (sets W (w.heap.size + 1) 0 (jbC 0 nS nS ⟨#[]⟩ false)) (w.heap.size + 1) (jbC 0 nS nS ⟨#[]⟩ false) := HW.out.2.2.1.sets (by simp [jbC])
    have hbb := sets_below (w0 := w) (w := W) (w.heap.size + 1) (by omega) (jbC 0 nS nS ⟨#[]⟩ false) 0 HW.out.1
    have HE := hidV (And.intro hz hbb)
    clear hz hbb
    go_wp2
    exact bodyPost_ret (res_jb2 rfl _ _ (w.heap.size + 1) 0 nS nS ⟨#[]⟩ false rfl HE.out.1) rfl ⟨rfl, HE.out.2⟩
  · have hd : decide (at_ < 0) = false := decide_eq_false h0
    have hge : at_ ≥ (V.length : Int) - 1 := by have := HNO.out; omega
    go_upto_if 20 with (first
      | ((try rw [hW]); refine wpList_cfgG (by rfl) _ (by rfl) (by rfl) hLW ?_)
      | (go_at_call 56; go_loud ((try rw [hW]); refine (last_any c vb V _ (HA.out.1.below HW.out.1) HA.out.2).mono ?_; rintro e w1 ⟨rfl, hb1⟩; have HB1 : Hid (RowKit.Below W.heap.size W w1) := hb1; clear hb1)))
    clear hW hLW
    have HZ := hidV (HW.out.2.2.1.below HB1.out)
    have a0' := HZ.out.2.1 0 _ rfl
    have a1' := HZ.out.2.1 1 _ rfl
    have a2' := HZ.out.2.1 2 _ rfl
    have a3' := HZ.out.2.1 3 _ rfl
    have a4' := HZ.out.2.1 4 _ rfl
    have g0 := HZ.out.2.2
    have hz : Zb (sets w1 (w.heap.size + 1) 0 (jbC 0 nS nS ⟨#[]⟩ false)) (w.heap.size + 1) (jbC 0 nS nS ⟨#[]⟩ false) := HZ.out.sets (by simp [jbC])
    have hbb := sets_below (w0 := w) (w := w1) (w.heap.size + 1) (by omega) (jbC 0 nS nS ⟨#[]⟩ false) 0 (HW.out.1.trans (HB1.out.mono HW.out.1.size))
    have HE := hidV (And.intro hz hbb)
    clear hz hbb
    go_wp2
    exact bodyPost_ret (res_jb2 rfl _ _ (w.heap.size + 1) 0 nS nS ⟨#[]⟩ false rfl HE.out.1) rfl ⟨rfl, HE.out.2⟩
/-- what Inputs tells, of any level: a job as it lies, and whether there is one -/
def JnV (w : World) (x : Jb × Bool) (e : Ending) (w' : World) : Prop := ∃ us ls : Sv, e = .returned (.tuple #[jbV x.1.lv us ls x.1.cut x.1.mv, .bool x.2]) ∧ JAt w' us ls x.1 ∧ RowKit.Below w.heap.size w w'
theorem JnV.no {w : World} {e : Ending} {w' : World} (h : e = .returned (.tuple #[jbV 0 nS nS ⟨#[]⟩ false, .bool false]) ∧ RowKit.Below w.heap.size w w') : JnV w (noJ, false) e w' := ⟨nS, nS, h.1, noJ_at _, h.2⟩
theorem inputsV_any (c : Cf) (vb : Nat) (V : Lv) (pa : Option Addr) (pc : Nat) (ps : List ByteArray) (f : Nat) (at_ : Int) (w : World) (h : VAt w vb V) (hc : Cr c V.length) (hn : NumOk V) (hpp : Ls kT w (pa, ps.length, pc) ps) (hps : ps.length ≤ 1000000000) (hf : c 12 = f) :
    Calls Tryz.prog 18 #[.agg (cfgA c), .pointer (some ⟨vb, 0, none⟩), .slice pa ps.length pc, .int .i64 at_] w fun e w' => JnV w (InV f V ps at_) e w' := by
  unfold InV
  by_cases h1 : 0 ≤ at_ ∧ at_ + 1 < V.length
  · obtain ⟨i, rfl⟩ : ∃ i : Nat, at_ = i := ⟨at_.toNat, by omega⟩
    by_cases h2 : 0 < (lev V (i : Int)).length
    · rw [if_pos ⟨h1.1, h1.2, h2⟩]
      refine (inputsL_any c vb V pa pc ps i f _ w h hc hn hpp hps hf (by omega) (lev_some (by omega)) h2).mono ?_
      rintro e w' ⟨us, ls, he, hj, hb, _, _⟩
      exact ⟨us, ls, he, hj, hb⟩
    · rw [if_neg (fun h => h2 h.2.2)]
      exact (inputsE_any c vb V _ i w h hc (by omega) (by rw [lev_some (by omega), List.eq_nil_of_length_eq_zero (by omega : (lev V (i : Int)).length = 0)])).mono fun e w' h => JnV.no h
  · rw [if_neg (fun h => h1 ⟨h.1, h.2.1⟩)]
    exact (inputsO_any c vb V _ at_ w h hc h1).mono fun e w' h => JnV.no h
theorem rinputsV_any (c : Cf) (V : Lv) (la : Option Addr) (lc : Nat) (pa : Option Addr) (pc : Nat) (ps : List ByteArray) (f : Nat) (at_ : Int) (w : World) (h : LsAt w (la, V.length, lc) V) (hfit : Fits V) (hc : Cr c V.length) (hpp : Ls kT w (pa, ps.length, pc) ps) (hps : ps.length ≤ 1000000000) (hf : c 12 = f) :
    Calls Tryz.prog 34 #[.agg (cfgA c), .slice la V.length lc, .slice pa ps.length pc, .int .i64 at_] w fun e w' => JnV w (InV f V ps at_) e w' := by
  unfold InV
  by_cases h1 : 0 ≤ at_ ∧ at_ + 1 < V.length ∧ 0 < (lev V at_).length
  · obtain ⟨i, rfl⟩ : ∃ i : Nat, at_ = i := ⟨at_.toNat, by omega⟩
    rw [if_pos h1]
    by_cases h0 : i = 0
    · subst h0
      show Calls _ _ _ _ fun e w' => JnV w (jobL f V ps 0, true) e w'
      rw [show jobL f V ps 0 = whl V (lev V 0) from jobL_zero (lev_some (by omega))]
      refine (rinputsZ_any c V la lc _ w h hfit hc h1.2.2).mono ?_
      rintro e w' ⟨us, ls, he, hj, hb, _, _⟩
      exact ⟨us, ls, he, hj, hb⟩
    · refine (rinputsI_any c V la lc pa pc ps i f w h hfit hc hpp hps hf (by omega) (by omega) h1.2.2).mono ?_
      rintro e w' ⟨us, ls, he, hj, hb, _, _⟩
      exact ⟨us, ls, he, hj, hb⟩
  · rw [if_neg h1]
    exact (rinputs0_any c V la lc _ at_ w h hc h1).mono fun e w' h => JnV.no h
/-- is a table of the list locked? -/
def lockB (xs : List Int) (l : List Tb) : Bool := l.any fun t => decide ((t.no : Int) ∈ xs)
theorem hits_lock (xs : List Int) (j : Jb) : hitsL xs j = (lockB xs j.up || lockB xs j.lo) := by unfold hitsL lockB; rw [List.any_append]
set_option maxHeartbeats 4000000 in
theorem rlocked_any (a : Option Addr) (c : Nat) (l : List Tb) (la : Option Addr) (lc : Nat) (xs : List Int) (w : World) (h : Ls kTb w (a, l.length, c) l) (hlen : l.length ≤ 1000000) (hx : Ls kU w (la, xs.length, lc) xs) (hln : xs.length ≤ 17592186044416) :
    Calls Tryz.prog 75 #[.slice a l.length c, .slice la xs.length lc] w fun e w' => e = .returned (.bool (lockB xs l)) ∧ RowKit.Below w.heap.size w w' := by
  have HL := hidV (And.intro h hx)
  clear h hx
  go_enter Tryz.func75, Tryz.ntmps75
  go_wp2
  go_loopw [5] (fun i wr => ∃ k : Nat, k ≤ l.length ∧ i = .int .i64 (k : Int) ∧ Hid ((∀ (j : Nat) x, j < k → l[j]? = some x → ¬ (x.no : Int) ∈ xs) ∧ RowKit.Below w.heap.size w wr)) (fun i _ => l.length - (intOf i).toNat)
  case atStart => exact ⟨0, by omega, rfl, fun j x hj => absurd hj (Nat.not_lt_zero _), Below.refl _ _⟩
  case round =>
    obtain ⟨k, hk, rfl, HB⟩ := hrel
    rename World => wr
    by_cases hlt : k < l.length
    · obtain ⟨tb, to_, rfl, htb, t, ht, y0, y1, y2, y3, y4, y5⟩ := (HL.out.1.below HB.out.2).tb hlt
      have q1 : (k : Int) < (l.length : Int) := by omega
      have HT := hidV ht
      have htb' : Hid (tb < wr.heap.size) := htb
      have HY0 := hidV y0
      clear ht y0 y1 y2 y3 y4 y5 htb
      go_wp2
      go_loopw [6] (fun i wq => ∃ q : Nat, q ≤ xs.length ∧ i = .int .i64 (q : Int) ∧ Hid ((∀ (j : Nat) (x : Int), j < q → xs[j]? = some x → ¬ x = (t.no : Int)) ∧ RowKit.Below wr.heap.size wr wq)) (fun i _ => xs.length - (intOf i).toNat)
      case atStart => exact ⟨0, by omega, rfl, fun j x hj => absurd hj (Nat.not_lt_zero _), Below.refl _ _⟩
      case round =>
        obtain ⟨q, hq, rfl, HQ⟩ := hrel
        rename World => wq
        by_cases hlq : q < xs.length
        · have q2 : (q : Int) < (xs.length : Int) := by omega
          obtain ⟨x, hx⟩ : ∃ x, xs[q]? = some x := ⟨_, List.getElem?_eq_getElem hlq⟩
          have hbq : RowKit.Below w.heap.size w wq := HB.out.2.trans (HQ.out.2.mono HB.out.2.size)
          obtain ⟨xb, xo, rfl, hxb, xcell⟩ := (HL.out.2.below hbq).cell hx
          have HXC : Hid (wq.cell? ⟨xb, xo + q, none⟩ = some (.int .u64 x) ∧ wq.cell? ⟨tb, to_ + k * 6, none⟩ = some (.int .u64 (t.no : Int))) := by
            have h1 := xcell 0 _ rfl
            exact ⟨by simpa [kU] using h1, (HQ.out.2.cell (p := ⟨tb, to_ + k * 6, none⟩) htb'.out).trans HY0.out⟩
          have HX := hidV hx
          clear hx hbq hxb xcell
          by_cases he : (t.no : Int) = x
          · subst he
            go_wp2_with fail
            refine wp_region_held_drew (S := (fun Y => RowKit.Below wq.heap.size wq Y ∧ Y.cell? ⟨xb, xo + q, none⟩ = some (.int .u64 (t.no : Int)) ∧ Y.cell? ⟨tb, to_ + k * 6, none⟩ = some (.int .u64 (t.no : Int)))) (by kernel_rfl) ?_ (fun hHeld => ?_)
            · exact ⟨(Below.refl _ _).drew, HXC.out.1, HXC.out.2⟩
            refine wpAnyH_take (i := 0) (oi := { dst := some 19, op := Go.Op.move (Go.Operand.tmp 0), type := 58, pos := "screeref16.go:101", after := #[], guard := none }) (v := ?_) rfl (by kernel_rfl) (by kernel_rfl) (by kernel_rfl) (fun _ _ _ h => h) (Or.inl ⟨by rfl, ?_⟩) hHeld ?_
            rotate_left
            · (intro wq hSw; (try dsimp only at hSw); go_simp; try (with_reducible rfl))
            try simp only [Act.put, List.setIfInBounds_toArray, List.set_cons_zero, List.set_cons_succ]
            refine wpAnyH_take (i := 1) (oi := { dst := some 20, op := Go.Op.move (Go.Operand.tmp 5), type := 3, pos := "screeref16.go:101", after := #[], guard := none }) (v := ?_) rfl (by kernel_rfl) (by kernel_rfl) (by kernel_rfl) (fun _ _ _ h => h) (Or.inl ⟨by rfl, ?_⟩) hHeld ?_
            rotate_left
            · (intro wq hSw; (try dsimp only at hSw); go_simp; try (with_reducible rfl))
            try simp only [Act.put, List.setIfInBounds_toArray, List.set_cons_zero, List.set_cons_succ]
            refine wpAnyH_take (i := 2) (oi := { dst := some 21, op := Go.Op.indexAddr 58 (Go.Operand.tmp 19) (Go.Operand.tmp 20), type := 0, pos := "screeref16.go:101", after := #[{ on := 0, ground := Go.Ground.data }, { on := 1, ground := Go.Ground.data }], guard := none }) (v := ?_) rfl (by kernel_rfl) (by kernel_rfl) (by kernel_rfl) (fun _ _ _ h => h) (Or.inl ⟨by rfl, ?_⟩) hHeld ?_
            rotate_left
            · (intro wq hSw; (try dsimp only at hSw); go_simp; try (with_reducible rfl))
            try simp only [Act.put, List.setIfInBounds_toArray, List.set_cons_zero, List.set_cons_succ]
            refine wpAnyH_take (i := 3) (oi := { dst := some 22, op := Go.Op.fieldAddr 76 (Go.Operand.tmp 21) 0, type := 0, pos := "screeref16.go:101", after := #[{ on := 2, ground := Go.Ground.data }], guard := none }) (v := ?_) rfl (by kernel_rfl) (by kernel_rfl) (by kernel_rfl) (fun _ _ _ h => h) (Or.inl ⟨by rfl, ?_⟩) hHeld ?_
            rotate_left
            · (intro wq hSw; (try dsimp only at hSw); go_simp; try (with_reducible rfl))
            try simp only [Act.put, List.setIfInBounds_toArray, List.set_cons_zero, List.set_cons_succ]
            refine wpAnyH_take (i := 4) (oi := { dst := some 23, op := Go.Op.load 55 (Go.Operand.tmp 22), type := 55, pos := "screeref16.go:101", after := #[{ on := 3, ground := Go.Ground.data }], guard := none }) (v := ?_) rfl (by kernel_rfl) (by kernel_rfl) (by kernel_rfl) (fun _ _ _ h => h) (Or.inl ⟨by rfl, ?_⟩) hHeld ?_
            rotate_left
            · (intro wq hSw; (try dsimp only at hSw); go_simp; try (with_reducible rfl))
            try simp only [Act.put, List.setIfInBounds_toArray, List.set_cons_zero, List.set_cons_succ]
            refine wpAnyH_take (i := 5) (oi := { dst := some 24, op := Go.Op.move (Go.Operand.tmp 1), type := 26, pos := "screeref16.go:101", after := #[], guard := none }) (v := ?_) rfl (by kernel_rfl) (by kernel_rfl) (by kernel_rfl) (fun _ _ _ h => h) (Or.inl ⟨by rfl, ?_⟩) hHeld ?_
            rotate_left
            · (intro wq hSw; (try dsimp only at hSw); go_simp; try (with_reducible rfl))
            try simp only [Act.put, List.setIfInBounds_toArray, List.set_cons_zero, List.set_cons_succ]
            refine wpAnyH_take (i := 6) (oi := { dst := some 25, op := Go.Op.move (Go.Operand.tmp 6), type := 3, pos := "screeref16.go:101", after := #[], guard := none }) (v := ?_) rfl (by kernel_rfl) (by kernel_rfl) (by kernel_rfl) (fun _ _ _ h => h) (Or.inl ⟨by rfl, ?_⟩) hHeld ?_
            rotate_left
            · (intro wq hSw; (try dsimp only at hSw); go_simp; try (with_reducible rfl))
            try simp only [Act.put, List.setIfInBounds_toArray, List.set_cons_zero, List.set_cons_succ]
            refine wpAnyH_take (i := 7) (oi := { dst := some 26, op := Go.Op.indexAddr 26 (Go.Operand.tmp 24) (Go.Operand.tmp 25), type := 0, pos := "screeref16.go:101", after := #[{ on := 5, ground := Go.Ground.data }, { on := 6, ground := Go.Ground.data }], guard := none }) (v := ?_) rfl (by kernel_rfl) (by kernel_rfl) (by kernel_rfl) (fun _ _ _ h => h) (Or.inl ⟨by rfl, ?_⟩) hHeld ?_
            rotate_left
            · (intro wq hSw; (try dsimp only at hSw); go_simp; try (with_reducible rfl))
            try simp only [Act.put, List.setIfInBounds_toArray, List.set_cons_zero, List.set_cons_succ]
            refine wpAnyH_take (i := 8) (oi := { dst := some 27, op := Go.Op.load 55 (Go.Operand.tmp 26), type := 55, pos := "screeref16.go:101", after := #[{ on := 7, ground := Go.Ground.data }], guard := none }) (v := ?_) rfl (by kernel_rfl) (by kernel_rfl) (by kernel_rfl) (fun _ _ _ h => h) (Or.inl ⟨by rfl, ?_⟩) hHeld ?_
            rotate_left
            · (intro wq hSw; (try dsimp only at hSw); go_simp; try (with_reducible rfl))
            try simp only [Act.put, List.setIfInBounds_toArray, List.set_cons_zero, List.set_cons_succ]
            refine wpAnyH_take (i := 9) (oi := { dst := some 28, op := Go.Op.binOp Go.BinOp.eql 55 (Go.Operand.tmp 23) (Go.Operand.tmp 27) 55, type := 4, pos := "screeref16.go:101", after := #[{ on := 4, ground := Go.Ground.data }, { on := 8, ground := Go.Ground.data }], guard := none }) (v := .bool true) rfl (by kernel_rfl) (by kernel_rfl) (by kernel_rfl) (fun _ _ _ h => h) (Or.inl ⟨by rfl, ?_⟩) hHeld ?_
            · (intro wq hSw; (try dsimp only at hSw); go_simp)
            try simp only [Act.put, List.setIfInBounds_toArray, List.set_cons_zero, List.set_cons_succ]
            refine wpAnyH_done (by kernel_rfl) ?_ _
            go_wp2
            go_ret
            exact ⟨by rw [show lockB xs l = true from by unfold lockB; rw [List.any_eq_true]; exact ⟨t, List.mem_of_getElem? HT.out, decide_eq_true (List.mem_of_getElem? HX.out)⟩]; rfl, (HB.out.2.trans (HQ.out.2.mono HB.out.2.size)).drew⟩
          · go_wp2_with fail
            refine wp_region_held_drew (S := (fun Y => RowKit.Below wq.heap.size wq Y ∧ Y.cell? ⟨xb, xo + q, none⟩ = some (.int .u64 x) ∧ Y.cell? ⟨tb, to_ + k * 6, none⟩ = some (.int .u64 (t.no : Int)))) (by kernel_rfl) ?_ (fun hHeld => ?_)
            · exact ⟨(Below.refl _ _).drew, HXC.out.1, HXC.out.2⟩
            refine wpAnyH_take (i := 0) (oi := { dst := some 19, op := Go.Op.move (Go.Operand.tmp 0), type := 58, pos := "screeref16.go:101", after := #[], guard := none }) (v := ?_) rfl (by kernel_rfl) (by kernel_rfl) (by kernel_rfl) (fun _ _ _ h => h) (Or.inl ⟨by rfl, ?_⟩) hHeld ?_
            rotate_left
            · (intro wq hSw; (try dsimp only at hSw); go_simp; try (with_reducible rfl))
            try simp only [Act.put, List.setIfInBounds_toArray, List.set_cons_zero, List.set_cons_succ]
            refine wpAnyH_take (i := 1) (oi := { dst := some 20, op := Go.Op.move (Go.Operand.tmp 5), type := 3, pos := "screeref16.go:101", after := #[], guard := none }) (v := ?_) rfl (by kernel_rfl) (by kernel_rfl) (by kernel_rfl) (fun _ _ _ h => h) (Or.inl ⟨by rfl, ?_⟩) hHeld ?_
            rotate_left
            · (intro wq hSw; (try dsimp only at hSw); go_simp; try (with_reducible rfl))
            try simp only [Act.put, List.setIfInBounds_toArray, List.set_cons_zero, List.set_cons_succ]
            refine wpAnyH_take (i := 2) (oi := { dst := some 21, op := Go.Op.indexAddr 58 (Go.Operand.tmp 19) (Go.Operand.tmp 20), type := 0, pos := "screeref16.go:101", after := #[{ on := 0, ground := Go.Ground.data }, { on := 1, ground := Go.Ground.data }], guard := none }) (v := ?_) rfl (by kernel_rfl) (by kernel_rfl) (by kernel_rfl) (fun _ _ _ h => h) (Or.inl ⟨by rfl, ?_⟩) hHeld ?_
            rotate_left
            · (intro wq hSw; (try dsimp only at hSw); go_simp; try (with_reducible rfl))
            try simp only [Act.put, List.setIfInBounds_toArray, List.set_cons_zero, List.set_cons_succ]
            refine wpAnyH_take (i := 3) (oi := { dst := some 22, op := Go.Op.fieldAddr 76 (Go.Operand.tmp 21) 0, type := 0, pos := "screeref16.go:101", after := #[{ on := 2, ground := Go.Ground.data }], guard := none }) (v := ?_) rfl (by kernel_rfl) (by kernel_rfl) (by kernel_rfl) (fun _ _ _ h => h) (Or.inl ⟨by rfl, ?_⟩) hHeld ?_
            rotate_left
            · (intro wq hSw; (try dsimp only at hSw); go_simp; try (with_reducible rfl))
            try simp only [Act.put, List.setIfInBounds_toArray, List.set_cons_zero, List.set_cons_succ]
            refine wpAnyH_take (i := 4) (oi := { dst := some 23, op := Go.Op.load 55 (Go.Operand.tmp 22), type := 55, pos := "screeref16.go:101", after := #[{ on := 3, ground := Go.Ground.data }], guard := none }) (v := ?_) rfl (by kernel_rfl) (by kernel_rfl) (by kernel_rfl) (fun _ _ _ h => h) (Or.inl ⟨by rfl, ?_⟩) hHeld ?_
            rotate_left
            · (intro wq hSw; (try dsimp only at hSw); go_simp; try (with_reducible rfl))
            try simp only [Act.put, List.setIfInBounds_toArray, List.set_cons_zero, List.set_cons_succ]
            refine wpAnyH_take (i := 5) (oi := { dst := some 24, op := Go.Op.move (Go.Operand.tmp 1), type := 26, pos := "screeref16.go:101", after := #[], guard := none }) (v := ?_) rfl (by kernel_rfl) (by kernel_rfl) (by kernel_rfl) (fun _ _ _ h => h) (Or.inl ⟨by rfl, ?_⟩) hHeld ?_
            rotate_left
            · (intro wq hSw; (try dsimp only at hSw); go_simp; try (with_reducible rfl))
            try simp only [Act.put, List.setIfInBounds_toArray, List.set_cons_zero, List.set_cons_succ]
            refine wpAnyH_take (i := 6) (oi := { dst := some 25, op := Go.Op.move (Go.Operand.tmp 6), type := 3, pos := "screeref16.go:101", after := #[], guard := none }) (v := ?_) rfl (by kernel_rfl) (by kernel_rfl) (by kernel_rfl) (fun _ _ _ h => h) (Or.inl ⟨by rfl, ?_⟩) hHeld ?_
            rotate_left
            · (intro wq hSw; (try dsimp only at hSw); go_simp; try (with_reducible rfl))
            try simp only [Act.put, List.setIfInBounds_toArray, List.set_cons_zero, List.set_cons_succ]
            refine wpAnyH_take (i := 7) (oi := { dst := some 26, op := Go.Op.indexAddr 26 (Go.Operand.tmp 24) (Go.Operand.tmp 25), type := 0, pos := "screeref16.go:101", after := #[{ on := 5, ground := Go.Ground.data }, { on := 6, ground := Go.Ground.data }], guard := none }) (v := ?_) rfl (by kernel_rfl) (by kernel_rfl) (by kernel_rfl) (fun _ _ _ h => h) (Or.inl ⟨by rfl, ?_⟩) hHeld ?_
            rotate_left
            · (intro wq hSw; (try dsimp only at hSw); go_simp; try (with_reducible rfl))
            try simp only [Act.put, List.setIfInBounds_toArray, List.set_cons_zero, List.set_cons_succ]
            refine wpAnyH_take (i := 8) (oi := { dst := some 27, op := Go.Op.load 55 (Go.Operand.tmp 26), type := 55, pos := "screeref16.go:101", after := #[{ on := 7, ground := Go.Ground.data }], guard := none }) (v := ?_) rfl (by kernel_rfl) (by kernel_rfl) (by kernel_rfl) (fun _ _ _ h => h) (Or.inl ⟨by rfl, ?_⟩) hHeld ?_
            rotate_left
            · (intro wq hSw; (try dsimp only at hSw); go_simp; try (with_reducible rfl))
            try simp only [Act.put, List.setIfInBounds_toArray, List.set_cons_zero, List.set_cons_succ]
            refine wpAnyH_take (i := 9) (oi := { dst := some 28, op := Go.Op.binOp Go.BinOp.eql 55 (Go.Operand.tmp 23) (Go.Operand.tmp 27) 55, type := 4, pos := "screeref16.go:101", after := #[{ on := 4, ground := Go.Ground.data }, { on := 8, ground := Go.Ground.data }], guard := none }) (v := .bool false) rfl (by kernel_rfl) (by kernel_rfl) (by kernel_rfl) (fun _ _ _ h => h) (Or.inl ⟨by rfl, ?_⟩) hHeld ?_
            · (intro wq hSw; (try dsimp only at hSw); go_simp; try exact he)
            try simp only [Act.put, List.setIfInBounds_toArray, List.set_cons_zero, List.set_cons_succ]
            refine wpAnyH_done (by kernel_rfl) ?_ _
            go_wp2_with fail
            go_roundw
            case rel => exact ⟨q + 1, by omega, by (try go_num), fun j y hj hy => by
                by_cases hjq : j = q
                · rw [hjq, HX.out] at hy
                  injection hy with hy
                  rw [← hy]
                  exact fun e => he e.symm
                · exact HQ.out.1 j y (by omega) hy, HQ.out.2.drew⟩
            case measure => simp [intOf]; omega
        · have q2 : ¬ (q : Int) < (xs.length : Int) := by omega
          go_wp2_with fail
          go_roundw
          case rel => exact ⟨k + 1, by omega, by (try go_num), fun j x hj hx => by
            by_cases hjk : j = k
            · rw [hjk, HT.out] at hx
              injection hx with hx
              rw [← hx]
              intro hm
              obtain ⟨r, hr⟩ := List.getElem?_of_mem hm
              exact HQ.out.1 r _ (by have := (List.getElem?_eq_some_iff.1 hr).1; omega) hr rfl
            · exact HB.out.1 j x (by omega) hx, HB.out.2.trans (HQ.out.2.mono HB.out.2.size)⟩
          case measure => simp [intOf]; omega
    · have q1 : ¬ (k : Int) < (l.length : Int) := by omega
      have HK : Hid (lockB xs l = false) := by
        show _ = _
        unfold lockB
        rw [List.any_eq_false]
        intro x hx
        obtain ⟨r, hr⟩ := List.getElem?_of_mem hx
        simpa using HB.out.1 r x (by have := (List.getElem?_eq_some_iff.1 hr).1; omega) hr
      go_wp2
      go_ret
      exact ⟨by rw [HK.out]; rfl, HB.out.2⟩
end Vr
end Go.Proofs.YtaejjpbpnedblaaGreat
namespace Go.Proofs.YtaejjpbpnedblaaGreat
namespace Vr
open Go.Shelf Go.RowKit Go.Lib Go.Sort Go.Maps Go.ChangeMaps Go.MapKept Laws Irw Crw
set_option linter.unusedVariables false
set_option linter.unusedSimpArgs false
set_option maxRecDepth 20000
/-- which levels are reserved, as eight cells -/
def resC (r : Nat → Bool) : List Value := [.bool (r 0), .bool (r 1), .bool (r 2), .bool (r 3), .bool (r 4), .bool (r 5), .bool (r 6), .bool (r 7)]
theorem resC_get (r : Nat → Bool) {z : Nat} (h : z < 8) : (resC r)[z]? = some (.bool (r z)) := by
  obtain rfl | rfl | rfl | rfl | rfl | rfl | rfl | rfl : z = 0 ∨ z = 1 ∨ z = 2 ∨ z = 3 ∨ z = 4 ∨ z = 5 ∨ z = 6 ∨ z = 7 := by omega
  all_goals rfl
theorem resC_set (r : Nat → Bool) {z : Nat} (h : z + 1 < 8) : ((resC r).set z (.bool true)).set (z + 1) (.bool true) = resC (mkR r z) := by
  obtain rfl | rfl | rfl | rfl | rfl | rfl | rfl : z = 0 ∨ z = 1 ∨ z = 2 ∨ z = 3 ∨ z = 4 ∨ z = 5 ∨ z = 6 := by omega
  all_goals (unfold resC mkR; simp)
theorem InV_good {f : Nat} {V : Lv} {ps : List ByteArray} {z : Nat} (h1 : z + 1 < V.length) (h2 : 0 < (lev V (z : Int)).length) : InV f V ps (z : Int) = (jobL f V ps z, true) := by
  unfold InV
  rw [if_pos ⟨by omega, by omega, h2⟩]
  rfl
theorem ffJ_drop {xs : List Int} {r : Nat → Bool} {f : Nat} {V : Lv} {ps : List ByteArray} {od : List Nat} {k z : Nat} (hz : od[k]? = some z) : ffJ xs r ((od.drop k).map (jobL f V ps)) = if r z || r (z + 1) || hitsL xs (jobL f V ps z) then ffJ xs (mkR r z) ((od.drop (k + 1)).map (jobL f V ps)) else some (jobL f V ps z) := by
  obtain ⟨hk, e⟩ := List.getElem?_eq_some_iff.1 hz
  rw [List.drop_eq_getElem_cons hk, e, List.map_cons]
  have hl : (jobL f V ps z).lv.toNat = z := by rw [jobL_lv]; rfl
  conv => lhs; unfold ffJ
  rw [hl]
theorem rinputsL_any (c : Cf) (V : Lv) (la : Option Addr) (lc : Nat) (pa : Option Addr) (pc : Nat) (ps : List ByteArray) (i f : Nat) (w : World) (h : LsAt w (la, V.length, lc) V) (hfit : Fits V) (hc : Cr c V.length) (hpp : Ls kT w (pa, ps.length, pc) ps) (hps : ps.length ≤ 1000000000) (hf : c 12 = f) (h1 : i + 1 < V.length) (h2 : 0 < (lev V (i : Int)).length) :
    Calls Tryz.prog 34 #[.agg (cfgA c), .slice la V.length lc, .slice pa ps.length pc, .int .i64 (i : Int)] w fun e w' => JnIs w (jobL f V ps i) true e w' := by
  by_cases h0 : i = 0
  · subst h0
    rw [show jobL f V ps 0 = whl V (lev V 0) from jobL_zero (lev_some (by omega))]
    exact rinputsZ_any c V la lc _ w h hfit hc h2
  · exact rinputsI_any c V la lc pa pc ps i f w h hfit hc hpp hps hf (by omega) h1 h2
theorem nxt_some {f : Nat} {V : Lv} {ps : List ByteArray} {xs : List Int} {od : List Nat} {J : Jb} (h0 : 0 < od.length) (h : ffJ xs (fun _ => false) (od.map (jobL f V ps)) = some J) : nxt f V ps xs od = (J, 2) := by
  unfold nxt
  rw [if_neg (fun e => by rw [e] at h0; exact absurd h0 (Nat.lt_irrefl 0)), h]
theorem nxt_none {f : Nat} {V : Lv} {ps : List ByteArray} {xs : List Int} {od : List Nat} (h0 : 0 < od.length) (h : ffJ xs (fun _ => false) (od.map (jobL f V ps)) = none) : nxt f V ps xs od = (noJ, 1) := by
  unfold nxt
  rw [if_neg (fun e => by rw [e] at h0; exact absurd h0 (Nat.lt_irrefl 0)), h]
theorem nxt_nil {f : Nat} {V : Lv} {ps : List ByteArray} {xs : List Int} {od : List Nat} (h0 : od.length = 0) : nxt f V ps xs od = (noJ, 0) := by
  unfold nxt
  rw [if_pos (List.eq_nil_of_length_eq_zero h0)]
/-- what Next tells -/
def JnN (w : World) (x : Jb × Int) (e : Ending) (w' : World) : Prop := ∃ us ls : Sv, e = .returned (.tuple #[jbV x.1.lv us ls x.1.cut x.1.mv, .int .i64 x.2]) ∧ JAt w' us ls x.1 ∧ RowKit.Below w.heap.size w w'
set_option maxHeartbeats 8000000 in
theorem rnext_any (c : Cf) (V : Lv) (la : Option Addr) (lc : Nat) (pa : Option Addr) (pc : Nat) (ps : List ByteArray) (f : Nat) (xa : Option Addr) (xc : Nat) (xs : List Int) (w : World) (h : LsAt w (la, V.length, lc) V) (hfit : Fits V) (hw : WeV V) (hc : Cr c V.length) (hpp : Ls kT w (pa, ps.length, pc) ps) (hps : ps.length ≤ 1000000000) (hf : c 12 = f) (hx : Ls kU w (xa, xs.length, xc) xs) (hln : xs.length ≤ 17592186044416) (zs : List Nat) (hz1 : zs.Perm (dueL (scs c V))) (hz2 : zs.Pairwise (rk (scs c V))) :
    Calls Tryz.prog 37 #[.agg (cfgA c), .slice la V.length lc, .slice pa ps.length pc, .slice xa xs.length xc] w fun e w' => JnN w (nxt f V ps xs (ordL c V zs)) e w' := by
  have hn5 := hc.n5
  have hn3 := hc.n3
  obtain ⟨W, hW⟩ : ∃ X, (w.alloc (Obj.cells (cfgA c) 23)).alloc (Obj.cells #[.int .i64 0, .slice none 0 0, .slice none 0 0, .string ⟨#[]⟩, .bool false] 62) = X := ⟨_, rfl⟩
  have HW : Hid (RowKit.Below w.heap.size w W ∧ Lc W w.heap.size c ∧ Zb W (w.heap.size + 1) (jbC 0 nS nS ⟨#[]⟩ false) ∧ w.heap.size + 1 < W.heap.size) := by
    subst hW
    exact ⟨((Below.refl _ _).alloc (Nat.le_refl _) _).alloc (by simp) _, (lc_new w c 23).keep (by simp) ((Below.refl _ _).alloc (Nat.le_refl _) _), Zb.new2 w _ _ _, by simp⟩
  have hLW := HW.out.2.1
  have HOr : Hid (Calls Tryz.prog 33 #[.agg (cfgA c), .slice la V.length lc] W fun e w' => ∃ s : Sv, e = .returned (svV s) ∧ Ls kI w' s (zI (ordL c V zs)) ∧ RowKit.Below W.heap.size W w') := rorder_any c V la lc W (h.below HW.out.1) hfit hw hc zs hz1 hz2
  have HOD : Hid ((ordL c V zs).length ≤ 20 ∧ ∀ z ∈ ordL c V zs, z + 1 < V.length ∧ V[z]? = some (lev V (z : Int)) ∧ 0 < (lev V (z : Int)).length) := ⟨ord_len hc hz1, ord_good hc hz1⟩
  have HA := hidV (And.intro h (And.intro hfit (And.intro hc (And.intro hpp (And.intro hps (And.intro hf (And.intro hx hln)))))))
  obtain ⟨od, hod⟩ : ∃ od, ordL c V zs = od := ⟨_, rfl⟩
  rw [hod] at HOr HOD
  rw [hod]
  clear h hfit hw hc hpp hps hf hx hln hz1 hz2 hod
  obtain ⟨RS, hRS⟩ : ∃ RS, nxt f V ps xs od = RS := ⟨_, rfl⟩
  have HRS := hidV hRS
  rw [hRS]
  clear hRS
  go_enter Tryz.func37, Tryz.ntmps37
  go_upto_region 2 with (first
    | ((try rw [hW]); refine wpList_cfg (by rfl) _ (by rfl) (by rfl) hLW ?_)
    | (go_at_call 33; go_loud ((try rw [hW]); refine HOr.out.mono ?_; rintro e w1 ⟨⟨oa, on, oc⟩, rfl, hlo, hb1⟩; have H1 := hidV (And.intro hlo hb1); clear hlo hb1; simp only [svV])))
  clear hW hLW HOr
  have hon : on = od.length := by have := H1.out.1.2.1; rw [zI_len] at this; exact this
  subst hon
  have HB1 : Hid (RowKit.Below w.heap.size w w1 ∧ Lc w1 w.heap.size c ∧ Zb w1 (w.heap.size + 1) (jbC 0 nS nS ⟨#[]⟩ false)) := ⟨HW.out.1.trans (H1.out.2.mono HW.out.1.size), HW.out.2.1.keep (by have := HW.out.2.2.2; omega) H1.out.2, HW.out.2.2.1.below H1.out.2⟩
  go_upto_region 3 with fail
  obtain ⟨W2, hW2⟩ : ∃ X, w1.alloc (Obj.cells #[.bool false, .bool false, .bool false, .bool false, .bool false, .bool false, .bool false, .bool false] 126) = X := ⟨_, rfl⟩
  have H2 : Hid (RowKit.Below w1.heap.size w1 W2 ∧ Zb W2 w1.heap.size (resC fun _ => false)) := by
    subst hW2
    exact ⟨(Below.refl _ _).alloc (Nat.le_refl _) _, Zb.new w1 _ _⟩
  rw [hW2]
  clear hW2
  have hsz1 : w.heap.size + 1 < w1.heap.size := Nat.lt_of_lt_of_le HW.out.2.2.2 H1.out.2.size
  go_wp2_with fail
  go_loopw [12] (fun i wr => ∃ (k : Nat) (r : Nat → Bool), k ≤ od.length ∧ i = .int .i64 (k : Int) ∧ Hid (RowKit.Below w1.heap.size w1 wr ∧ Zb wr w1.heap.size (resC r) ∧ ffJ xs (fun _ => false) (od.map (jobL f V ps)) = ffJ xs r ((od.drop k).map (jobL f V ps)))) (fun i _ => od.length - (intOf i).toNat)
  case atStart => exact ⟨0, fun _ => false, Nat.zero_le _, rfl, H2.out.1, H2.out.2, rfl⟩
  case round =>
    obtain ⟨k, r, hk, rfl, HR⟩ := hrel
    rename World => wr
    have hlen20 := HOD.out.1
    have HBw : Hid (RowKit.Below w.heap.size w wr) := HB1.out.1.trans (HR.out.1.mono HB1.out.1.size)
    by_cases hlt : k < od.length
    · have q1 : (k : Int) < (od.length : Int) := by omega
      obtain ⟨z, hz⟩ : ∃ z, od[k]? = some z := ⟨_, List.getElem?_eq_getElem hlt⟩
      have hzg := HOD.out.2 z (List.mem_of_getElem? hz)
      have hz4 : z < 4 := by omega
      obtain ⟨ob, oo, rfl, hob, ocell⟩ := (H1.out.1.below HR.out.1).cell (i := k) (x := (z : Int)) (by unfold zI; rw [List.getElem?_map, hz]; rfl)
      have cz : wr.cell? ⟨ob, oo + k, none⟩ = some (.int .i64 (z : Int)) := by
        have := ocell 0 _ rfl
        simpa [kI] using this
      obtain ⟨J, hJ⟩ : ∃ J, jobL f V ps z = J := ⟨_, rfl⟩
      have HFF : Hid (ffJ xs r ((od.drop k).map (jobL f V ps)) = if r z || r (z + 1) || hitsL xs J then ffJ xs (mkR r z) ((od.drop (k + 1)).map (jobL f V ps)) else some J) := by
        rw [← hJ]
        exact ffJ_drop hz
      have HJl : Hid (J.lv = (z : Int) ∧ J.up.length ≤ 1000000 ∧ J.lo.length ≤ 1000000) := by
        rw [← hJ]
        exact ⟨jobL_lv, jobL_len HA.out.2.1⟩
      have HIn : Hid (Calls Tryz.prog 34 #[.agg (cfgA c), .slice la V.length lc, .slice pa ps.length pc, .int .i64 (z : Int)] wr fun e w' => JnIs wr J true e w') := by
        have := rinputsL_any c V la lc pa pc ps z f wr (HA.out.1.below HBw.out) HA.out.2.1 HA.out.2.2.1 (HA.out.2.2.2.1.below HBw.out) HA.out.2.2.2.2.1 HA.out.2.2.2.2.2.1 hzg.1 hzg.2.2
        rw [hJ] at this
        exact this
      have hLr : Lc wr w.heap.size c := HB1.out.2.1.keep (by omega) HR.out.1
      clear hz hzg ocell hJ hob
      go_upto_region 8 with (first
        | (refine wpList_cfg (by rfl) _ (by rfl) (by rfl) hLr ?_)
        | (go_at_call 34; go_loud (refine HIn.out.mono ?_; rintro e w2 ⟨⟨ua, un, uc⟩, ⟨va, vn, vc⟩, rfl, hj2, hb2, hfu, hfl⟩; have H3 : Hid (JAt w2 (ua, un, uc) (va, vn, vc) J ∧ RowKit.Below wr.heap.size wr w2) := ⟨hj2, hb2⟩; have HFU : Hid ((∀ b off, ua = some ⟨b, off, none⟩ → wr.heap.size ≤ b) ∧ ∀ b off, va = some ⟨b, off, none⟩ → wr.heap.size ≤ b) := ⟨hfu, hfl⟩; clear hj2 hb2 hfu hfl; unfold jbV; simp only)))
      obtain ⟨W3, hW3⟩ : ∃ X, w2.alloc (Obj.cells #[.int .i64 J.lv, .slice ua un uc, .slice va vn vc, .string J.cut, .bool J.mv] 62) = X := ⟨_, rfl⟩
      have H4 : Hid (Zb W3 w2.heap.size (jbC J.lv (ua, un, uc) (va, vn, vc) J.cut J.mv) ∧ RowKit.Below w2.heap.size w2 W3) := by
        subst hW3
        exact ⟨Zb.new w2 _ _, (Below.refl _ _).alloc (Nat.le_refl _) _⟩
      rw [hW3]
      clear hW3 hLr cz
      have HB3 : Hid (RowKit.Below wr.heap.size wr W3) := H3.out.2.trans (H4.out.2.mono H3.out.2.size)
      have HJ3 : Hid (JAt W3 (ua, un, uc) (va, vn, vc) J) := H3.out.1.below H4.out.2
      have e1 : un = J.up.length := HJ3.out.1.2.1
      have e2 : vn = J.lo.length := HJ3.out.2.2.1
      subst e1 e2
      have HRZ : Hid (Zb W3 w1.heap.size (resC r)) := HR.out.2.1.below HB3.out
      have HBw3 : Hid (RowKit.Below w.heap.size w W3) := HBw.out.trans (HB3.out.mono HBw.out.size)
      have y1 := H4.out.1.2.1 1 _ rfl
      have y2 := H4.out.1.2.1 2 _ rfl
      simp only at y1 y2
      have HLU : Hid (∀ X, RowKit.Below W3.heap.size W3 X → Calls Tryz.prog 75 #[.slice ua J.up.length uc, .slice xa xs.length xc] X fun e w' => e = .returned (.bool (lockB xs J.up)) ∧ RowKit.Below X.heap.size X w') := fun X hX => rlocked_any ua uc J.up xa xc xs X (HJ3.out.1.below hX) HJl.out.2.1 ((HA.out.2.2.2.2.2.2.1.below HBw3.out).below hX) HA.out.2.2.2.2.2.2.2
      have HLV : Hid (∀ X, RowKit.Below W3.heap.size W3 X → Calls Tryz.prog 75 #[.slice va J.lo.length vc, .slice xa xs.length xc] X fun e w' => e = .returned (.bool (lockB xs J.lo)) ∧ RowKit.Below X.heap.size X w') := fun X hX => rlocked_any va vc J.lo xa xc xs X (HJ3.out.2.below hX) HJl.out.2.2 ((HA.out.2.2.2.2.2.2.1.below HBw3.out).below hX) HA.out.2.2.2.2.2.2.2
      have cr0 : W3.cell? ⟨w1.heap.size, z, none⟩ = some (.bool (r z)) := HRZ.out.2.1 z _ (resC_get r (by omega))
      have cr1 : W3.cell? ⟨w1.heap.size, z + 1, none⟩ = some (.bool (r (z + 1))) := HRZ.out.2.1 (z + 1) _ (resC_get r (by omega))
      have hw1 : IntKind.i64.wrap ((z : Int) + 1) = (z : Int) + 1 := IntWalk.i64_in _ (by omega)
      have hz8 : (z : Int) < 8 := by omega
      have hz81 : (z : Int) + 1 < 8 := by omega
      have hz01 : (0 : Int) ≤ (z : Int) + 1 := by omega
      have HHL := hidV (hits_lock xs J)
      go_cut [64] (fun v wx => v = .bool (!(r z || r (z + 1) || hitsL xs J)) ∧ Hid (RowKit.Below W3.heap.size W3 wx))
      case first =>
        cases hr0 : r z with
        | true =>
          rw [hr0] at cr0
          go_wp2_with fail
          go_meet
          case rel => exact ⟨by rw [hr0]; simp, Below.refl _ _⟩
        | false =>
          rw [hr0] at cr0
          cases hr1 : r (z + 1) with
          | true =>
            rw [hr1] at cr1
            go_wp2_with fail
            go_meet
            case rel => exact ⟨by rw [hr0, hr1]; simp, Below.refl _ _⟩
          | false =>
            rw [hr1] at cr1
            cases hlu : lockB xs J.up with
            | true =>
              rw [hlu] at HLU
              go_wp2_with (go_at_call 75; go_loud (refine (HLU.out _ (Below.refl _ _)).mono ?_; rintro e w5 ⟨rfl, hb5⟩; have H5 := hidV hb5; clear hb5))
              go_meet
              case rel => exact ⟨by rw [hr0, hr1, HHL.out, hlu]; simp, H5.out⟩
            | false =>
              rw [hlu] at HLU
              have y2' : Hid (∀ X, RowKit.Below W3.heap.size W3 X → X.cell? ⟨w2.heap.size, 2, none⟩ = some (.slice va J.lo.length vc)) := fun X hX => (hX.cell (p := ⟨w2.heap.size, 2, none⟩) H4.out.1.1).trans y2
              clear y2
              cases hlv : lockB xs J.lo with
              | true =>
                rw [hlv] at HLV
                go_wp2_with (first
                  | (go_at_call_of 75 ua; go_loud (refine (HLU.out _ (Below.refl _ _)).mono ?_; rintro e w5 ⟨rfl, hb5⟩; have H5 := hidV hb5; have y25 := y2'.out _ hb5; clear hb5))
                  | (go_at_call_of 75 va; go_loud (refine (HLV.out _ H5.out).mono ?_; rintro e w6 ⟨rfl, hb6⟩; have H6 : Hid (RowKit.Below W3.heap.size W3 w6) := H5.out.trans (hb6.mono H5.out.size); clear hb6)))
                go_meet
                case rel => exact ⟨by rw [hr0, hr1, HHL.out, hlu, hlv]; simp, H6.out⟩
              | false =>
                rw [hlv] at HLV
                go_wp2_with (first
                  | (go_at_call_of 75 ua; go_loud (refine (HLU.out _ (Below.refl _ _)).mono ?_; rintro e w5 ⟨rfl, hb5⟩; have H5 := hidV hb5; have y25 := y2'.out _ hb5; clear hb5))
                  | (go_at_call_of 75 va; go_loud (refine (HLV.out _ H5.out).mono ?_; rintro e w6 ⟨rfl, hb6⟩; have H6 : Hid (RowKit.Below W3.heap.size W3 w6) := H5.out.trans (hb6.mono H5.out.size); clear hb6)))
                go_meet
                case rel => exact ⟨by rw [hr0, hr1, HHL.out, hlu, hlv]; simp, H6.out⟩
      case rest =>
        obtain ⟨rfl, HX⟩ := hcut
        rename World => W6
        clear y1 y2 cr0 cr1 HLU HLV HHL
        have hsr := HR.out.1.size
        have hs3 := HB3.out.size
        have HZ6 := hidV (HRZ.out.below HX.out)
        have HB6 : Hid (RowKit.Below w1.heap.size w1 W6) := HR.out.1.trans ((HB3.out.trans (HX.out.mono HB3.out.size)).mono HR.out.1.size)
        have hff := HR.out.2.2.trans HFF.out
        cases hd : (r z || r (z + 1) || hitsL xs J) with
        | true =>
          rw [hd, if_pos rfl] at hff
          have HFN := hidV hff
          clear hff
          have cr0 : W6.cell? ⟨w1.heap.size, z, none⟩ = some (.bool (r z)) := HZ6.out.2.1 z _ (resC_get r (by omega))
          have cr1 : W6.cell? ⟨w1.heap.size, z + 1, none⟩ = some (.bool (r (z + 1))) := HZ6.out.2.1 (z + 1) _ (resC_get r (by omega))
          have fr := HZ6.out.2.2
          go_wp2_with fail
          go_roundw
          case rel =>
            refine ⟨k + 1, mkR r z, by omega, by (try go_num), ?_, ?_, HFN.out⟩
            · exact (HB6.out.setCell (p := ⟨w1.heap.size, z, none⟩) (Nat.le_refl _) _).setCell (p := ⟨w1.heap.size, z + 1, none⟩) (Nat.le_refl _) _
            · rw [← resC_set r (by omega)]
              exact (HZ6.out.set z _).set (z + 1) _
          case measure => simp [intOf]; omega
        | false =>
          rw [hd, if_neg (by decide)] at hff
          have hRS : RS = (J, 2) := HRS.out.symm.trans (nxt_some (by omega) hff)
          subst hRS
          clear hff
          have HZJ := hidV (H4.out.1.below HX.out)
          have HZR := hidV ((HB1.out.2.2.below HR.out.1).below (HB3.out.trans (HX.out.mono HB3.out.size)))
          have y0 := HZJ.out.2.1 0 _ rfl
          have y1 := HZJ.out.2.1 1 _ rfl
          have y2 := HZJ.out.2.1 2 _ rfl
          have y3 := HZJ.out.2.1 3 _ rfl
          have y4 := HZJ.out.2.1 4 _ rfl
          have r0 := HZR.out.2.1 0 _ rfl
          have r1 := HZR.out.2.1 1 _ rfl
          have r2 := HZR.out.2.1 2 _ rfl
          have r3 := HZR.out.2.1 3 _ rfl
          have r4 := HZR.out.2.1 4 _ rfl
          have s0 := HZR.out.2.2
          simp only at y1 y2 r1 r2
          have hz9 : Zb (sets W6 (w.heap.size + 1) 0 (jbC J.lv (ua, J.up.length, uc) (va, J.lo.length, vc) J.cut J.mv)) (w.heap.size + 1) (jbC J.lv (ua, J.up.length, uc) (va, J.lo.length, vc) J.cut J.mv) := HZR.out.sets (by simp [jbC])
          have hbb := sets_below (w0 := w) (w := W6) (w.heap.size + 1) (by omega) (jbC J.lv (ua, J.up.length, uc) (va, J.lo.length, vc) J.cut J.mv) 0 (HB1.out.1.trans (HB6.out.mono HB1.out.1.size))
          have hja : JAt (sets W6 (w.heap.size + 1) 0 (jbC J.lv (ua, J.up.length, uc) (va, J.lo.length, vc) J.cut J.mv)) (ua, J.up.length, uc) (va, J.lo.length, vc) J := (HJ3.out.below HX.out).other (B := w.heap.size + 1) (fun b hb => sets_block W6 _ b hb _ 0) (by rw [sets_size]; exact Nat.le_refl _) (fun b off e => by have := HFU.out.1 b off e; omega) (fun b off e => by have := HFU.out.2 b off e; omega)
          have HE := hidV (And.intro hz9 (And.intro hbb hja))
          clear hz9 hbb hja
          go_wp2
          exact bodyPost_ret (res_jb2 rfl _ _ (w.heap.size + 1) J.lv (ua, J.up.length, uc) (va, J.lo.length, vc) J.cut J.mv rfl HE.out.1) rfl ⟨_, _, rfl, HE.out.2.2, HE.out.2.1⟩
    · have q1 : ¬ (k : Int) < (od.length : Int) := by omega
      have hkl : k = od.length := by omega
      have hff := HR.out.2.2
      rw [hkl, List.drop_length] at hff
      have HFN : Hid (ffJ xs (fun _ => false) (od.map (jobL f V ps)) = none) := hff
      clear hff hkl
      have HZR := hidV (HB1.out.2.2.below HR.out.1)
      have r0 := HZR.out.2.1 0 _ rfl
      have r1 := HZR.out.2.1 1 _ rfl
      have r2 := HZR.out.2.1 2 _ rfl
      have r3 := HZR.out.2.1 3 _ rfl
      have r4 := HZR.out.2.1 4 _ rfl
      have s0 := HZR.out.2.2
      have hz9 : Zb (sets wr (w.heap.size + 1) 0 (jbC 0 nS nS ⟨#[]⟩ false)) (w.heap.size + 1) (jbC 0 nS nS ⟨#[]⟩ false) := HZR.out.sets (by simp [jbC])
      have hbb := sets_below (w0 := w) (w := wr) (w.heap.size + 1) (by omega) (jbC 0 nS nS ⟨#[]⟩ false) 0 HBw.out
      have HE := hidV (And.intro hz9 hbb)
      clear hz9 hbb
      by_cases h0 : od.length = 0
      · have hRS : RS = (noJ, 0) := HRS.out.symm.trans (nxt_nil h0)
        subst hRS
        have h0' : ¬ (od.length : Int) > 0 := by omega
        clear h0
        go_wp2
        exact bodyPost_ret (res_jb2 rfl _ _ (w.heap.size + 1) 0 nS nS ⟨#[]⟩ false rfl HE.out.1) rfl ⟨nS, nS, rfl, noJ_at _, HE.out.2⟩
      · have hRS : RS = (noJ, 1) := HRS.out.symm.trans (nxt_none (by omega) HFN.out)
        subst hRS
        have h0' : (od.length : Int) > 0 := by omega
        clear h0
        go_wp2
        exact bodyPost_ret (res_jb2 rfl _ _ (w.heap.size + 1) 0 nS nS ⟨#[]⟩ false rfl HE.out.1) rfl ⟨nS, nS, rfl, noJ_at _, HE.out.2⟩
end Vr
end Go.Proofs.YtaejjpbpnedblaaGreat
namespace Go.Proofs.YtaejjpbpnedblaaGreat
namespace Vr
open Go.Shelf Go.RowKit Go.Lib Go.Sort Go.Maps Go.ChangeMaps Go.MapKept Laws Irw Crw
set_option linter.unusedVariables false
set_option linter.unusedSimpArgs false
set_option maxRecDepth 20000
/-- there is an order -/
theorem ord_ex (ss : List Int) : ∃ zs : List Nat, zs.Perm (dueL ss) ∧ zs.Pairwise (rk ss) := by
  classical
  refine ⟨(dueL ss).mergeSort (fun a b => !decide (rk ss b a)), List.mergeSort_perm _ _, ?_⟩
  have hs : ((dueL ss).mergeSort (fun a b => !decide (rk ss b a))).Pairwise (fun a b => (!decide (rk ss b a)) = true) := by
    refine List.pairwise_mergeSort (le := fun a b => !decide (rk ss b a)) ?_ ?_ _
    · intro a b c h1 h2
      simp only [Bool.not_eq_true', decide_eq_false_iff_not] at *
      unfold rk at *
      omega
    · intro a b
      simp only [Bool.or_eq_true, Bool.not_eq_true', decide_eq_false_iff_not]
      unfold rk
      omega
  have hn : ((dueL ss).mergeSort (fun a b => !decide (rk ss b a))).Nodup := by
    refine (List.mergeSort_perm _ _).nodup_iff.2 ?_
    unfold dueL dueK
    exact List.nodup_range.filter _
  refine (List.pairwise_and_iff.2 ⟨hs, hn⟩).imp ?_
  intro a b ⟨h1, h2⟩
  simp only [Bool.not_eq_true', decide_eq_false_iff_not] at h1
  unfold rk at *
  omega
set_option maxHeartbeats 4000000 in
theorem held_any (vb : Nat) (V : Lv) (la : Option Addr) (lc : Nat) (w : World) (h : VAt w vb V) (hl : LsAt w (la, V.length, lc) V) : Calls Tryz.prog 11 #[.pointer (some ⟨vb, 0, none⟩), .slice la V.length lc] w fun e w' => e = .returned (.bool true) ∧ RowKit.Below w.heap.size w w' := by
  have HV := hidV (And.intro h hl)
  have hn5 := h.1.1
  clear h hl
  go_enter Tryz.func11, Tryz.ntmps11
  go_wp2
  go_loopw [5] (fun i wr => ∃ k : Nat, k ≤ V.length ∧ i = .int .i64 (k : Int) ∧ Hid (RowKit.Below w.heap.size w wr)) (fun i _ => V.length - (intOf i).toNat)
  case atStart => exact ⟨0, Nat.zero_le _, rfl, Below.refl _ _⟩
  case round =>
    obtain ⟨k, hk, rfl, HB⟩ := hrel
    rename World => wr
    by_cases hlt : k < V.length
    · have q1 : (k : Int) < (V.length : Int) := by omega
      obtain ⟨lb, lo, ua, uc, rfl, hlb, hck, hLk⟩ := (HV.out.2.below HB.out).get hlt
      have hlen := HV.out.1.1.len (k : Int)
      have HTb : Hid (∀ X, RowKit.Below wr.heap.size wr X → Calls Tryz.prog 16 #[.pointer (some ⟨vb, 0, none⟩), .int .i64 (k : Int)] X fun e w' => ∃ a cc, e = .returned (.slice a (lev V (k : Int)).length cc) ∧ Ls kTb w' (a, (lev V (k : Int)).length, cc) (lev V (k : Int)) ∧ RowKit.Below X.heap.size X w') := fun X hX => (tables_any vb V (k : Int) X ((HV.out.1.below HB.out).below hX)).mono fun e w' ⟨s, he, ⟨G, hs, hG, hrow⟩, hb2⟩ => by
        rw [he, hs]
        exact ⟨_, _, rfl, Ls.row hrow rfl, hb2⟩
      have HSm : Hid (∀ X a cc, RowKit.Below wr.heap.size wr X → Ls kTb X (a, (lev V (k : Int)).length, cc) (lev V (k : Int)) → Calls Tryz.prog 38 #[.slice a (lev V (k : Int)).length cc, .slice ua (lev V (k : Int)).length uc] X fun e w' => e = .returned (.bool true) ∧ ∃ n, w' = X.drewN n) := fun X a cc hX hL => sameTables_true a ua cc uc _ _ X hL (hLk.below hX) rfl hlen
      have HC : Hid (wr.cell? ⟨lb, lo + k, none⟩ = some (.slice ua (lev V (k : Int)).length uc) ∧ lb < wr.heap.size) := ⟨hck, hlb⟩
      have HST : Hid (∀ X, RowKit.Below wr.heap.size wr X → RowKit.Below wr.heap.size wr X ∧ X.cell? ⟨lb, lo + k, none⟩ = some (.slice ua (lev V (k : Int)).length uc)) := fun X hX => ⟨hX, (hX.cell (p := ⟨lb, lo + k, none⟩) HC.out.2).trans HC.out.1⟩
      clear hLk hlen hck hlb
      go_wp2_with fail
      refine wp_region_held_drew (S := (fun X => RowKit.Below wr.heap.size wr X ∧ X.cell? ⟨lb, lo + k, none⟩ = some (.slice ua (lev V (k : Int)).length uc))) (by kernel_rfl) ?_ (fun hHeld => ?_)
      · exact HST.out _ (Below.refl _ _).drew
      refine wpAnyH_take (i := 0) (oi := { dst := some 12, op := Go.Op.move (Go.Operand.tmp 0), type := 29, pos := "exact.go:83", after := #[], guard := none }) (v := ?_) rfl (by kernel_rfl) (by kernel_rfl) (by kernel_rfl) (fun _ _ _ h => h) (Or.inl ⟨by rfl, ?_⟩) hHeld ?_
      rotate_left
      · (intro wq hSw; (try dsimp only at hSw); go_simp; try (with_reducible rfl))
      try simp only [Act.put, List.setIfInBounds_toArray, List.set_cons_zero, List.set_cons_succ]
      refine wpAnyH_take (i := 1) (oi := { dst := some 13, op := Go.Op.move (Go.Operand.tmp 5), type := 3, pos := "exact.go:83", after := #[], guard := none }) (v := ?_) rfl (by kernel_rfl) (by kernel_rfl) (by kernel_rfl) (fun _ _ _ h => h) (Or.inl ⟨by rfl, ?_⟩) hHeld ?_
      rotate_left
      · (intro wq hSw; (try dsimp only at hSw); go_simp; try (with_reducible rfl))
      try simp only [Act.put, List.setIfInBounds_toArray, List.set_cons_zero, List.set_cons_succ]
      refine wpAnyH_take (i := 3) (oi := { dst := some 15, op := Go.Op.move (Go.Operand.tmp 1), type := 30, pos := "exact.go:83", after := #[], guard := none }) (v := ?_) rfl (by kernel_rfl) (by kernel_rfl) (by kernel_rfl) (fun _ _ _ h => h) (Or.inl ⟨by rfl, ?_⟩) hHeld ?_
      rotate_left
      · (intro wq hSw; (try dsimp only at hSw); go_simp; try (with_reducible rfl))
      try simp only [Act.put, List.setIfInBounds_toArray, List.set_cons_zero, List.set_cons_succ]
      refine wpAnyH_take (i := 4) (oi := { dst := some 16, op := Go.Op.move (Go.Operand.tmp 5), type := 3, pos := "exact.go:83", after := #[], guard := none }) (v := ?_) rfl (by kernel_rfl) (by kernel_rfl) (by kernel_rfl) (fun _ _ _ h => h) (Or.inl ⟨by rfl, ?_⟩) hHeld ?_
      rotate_left
      · (intro wq hSw; (try dsimp only at hSw); go_simp; try (with_reducible rfl))
      try simp only [Act.put, List.setIfInBounds_toArray, List.set_cons_zero, List.set_cons_succ]
      refine wpAnyH_take (i := 5) (oi := { dst := some 17, op := Go.Op.indexAddr 30 (Go.Operand.tmp 15) (Go.Operand.tmp 16), type := 0, pos := "exact.go:83", after := #[{ on := 3, ground := Go.Ground.data }, { on := 4, ground := Go.Ground.data }], guard := none }) (v := ?_) rfl (by kernel_rfl) (by kernel_rfl) (by kernel_rfl) (fun _ _ _ h => h) (Or.inl ⟨by rfl, ?_⟩) hHeld ?_
      rotate_left
      · (intro wq hSw; (try dsimp only at hSw); go_simp; try (with_reducible rfl))
      try simp only [Act.put, List.setIfInBounds_toArray, List.set_cons_zero, List.set_cons_succ]
      refine wpAnyH_take (i := 6) (oi := { dst := some 18, op := Go.Op.load 58 (Go.Operand.tmp 17), type := 58, pos := "exact.go:83", after := #[{ on := 5, ground := Go.Ground.data }], guard := none }) (v := ?_) rfl (by kernel_rfl) (by kernel_rfl) (by kernel_rfl) (fun _ _ _ h => h) (Or.inl ⟨by rfl, ?_⟩) hHeld ?_
      rotate_left
      · (intro wq hSw; (try dsimp only at hSw); go_simp; try (with_reducible rfl))
      try simp only [Act.put, List.setIfInBounds_toArray, List.set_cons_zero, List.set_cons_succ]
      refine wpAnyH_ready (rs := [2]) (by kernel_rfl) (by simp) ?_
      refine (AllReadyH.cons (o := { dst := some 14, op := Go.Op.call { callee := Go.Callee.value (Go.Operand.func 16), args := #[Go.Operand.tmp 12, Go.Operand.tmp 13], argTypes := #[29, 3] }, type := 58, pos := "exact.go:83", after := #[{ on := 0, ground := Go.Ground.data }, { on := 1, ground := Go.Ground.data }], guard := none }) rfl (fun K hK => ?_) AllReadyH.nil)
      go_simp
      with_reducible refine (HTb.out _ hHeld.1).mono ?_
      rintro e w4 ⟨ta, tc, rfl, hL4, hb4⟩
      have HL4 := hidV hL4
      have HB4 : Hid (RowKit.Below wr.heap.size wr w4) := hHeld.1.trans (hb4.mono hHeld.1.size)
      clear hL4 hb4
      try dsimp only
      refine hK.out _ _ ?_ (fun hHeld => ?_)
      · exact HST.out _ HB4.out
      clear hK K
      try simp only [Act.put, List.setIfInBounds_toArray, List.set_cons_zero, List.set_cons_succ]
      refine wpAnyH_ready (rs := [7]) (by kernel_rfl) (by simp) ?_
      refine (AllReadyH.cons (o := { dst := some 19, op := Go.Op.call { callee := Go.Callee.value (Go.Operand.func 38), args := #[Go.Operand.tmp 14, Go.Operand.tmp 18], argTypes := #[58, 58] }, type := 4, pos := "exact.go:83", after := #[{ on := 2, ground := Go.Ground.data }, { on := 6, ground := Go.Ground.data }, { on := 2, ground := Go.Ground.chain }], guard := none }) rfl (fun K hK => ?_) AllReadyH.nil)
      go_simp
      with_reducible refine (HSm.out _ _ _ hHeld.1 HL4.out).mono ?_
      rintro e w5 ⟨rfl, d5, rfl⟩
      have HB5 : Hid (RowKit.Below wr.heap.size wr (w4.drewN d5)) := ⟨HB4.out.os, HB4.out.tape, HB4.out.output, HB4.out.size, HB4.out.block⟩
      try dsimp only
      refine hK.out _ _ ?_ (fun hHeld => ?_)
      · exact HST.out _ HB5.out
      clear hK K
      try simp only [Act.put, List.setIfInBounds_toArray, List.set_cons_zero, List.set_cons_succ]
      refine wpAnyH_take (i := 8) (oi := { dst := some 20, op := Go.Op.unOp Go.UnOp.not 4 (Go.Operand.tmp 19), type := 4, pos := "exact.go:83", after := #[{ on := 7, ground := Go.Ground.data }], guard := none }) (v := ?_) rfl (by kernel_rfl) (by kernel_rfl) (by kernel_rfl) (fun _ _ _ h => h) (Or.inl ⟨by rfl, ?_⟩) hHeld ?_
      rotate_left
      · (intro wq hSw; (try dsimp only at hSw); go_simp; try (with_reducible rfl))
      try simp only [Act.put, List.setIfInBounds_toArray, List.set_cons_zero, List.set_cons_succ]
      refine wpAnyH_done (by kernel_rfl) ?_ _
      go_wp2_with fail
      go_roundw
      case rel => exact ⟨k + 1, by omega, by (try go_num), HB.out.trans (HB5.out.mono HB.out.size)⟩
      case measure => simp [intOf]; omega
    · have q1 : ¬ (k : Int) < (V.length : Int) := by omega
      have HL : Hid (Calls Tryz.prog 39 #[.pointer (some ⟨vb, 0, none⟩)] wr fun e w' => e = .returned (.int .i64 (V.length : Int)) ∧ w' = wr) := levels_any vb V wr (HV.out.1.below HB.out)
      go_wp2_with (go_at_call 39; go_loud (refine HL.out.mono ?_; rintro e w5 ⟨rfl, hw5⟩; have hw6 := hw5.symm; clear hw5; subst hw6))
      go_ret
      exact ⟨by first | rfl | simp, HB.out⟩
end Vr
end Go.Proofs.YtaejjpbpnedblaaGreat
namespace Go.Proofs.YtaejjpbpnedblaaGreat
namespace Vr
open Go.Shelf Go.RowKit Go.Lib Go.Sort Go.Maps Go.ChangeMaps Go.MapKept Laws Irw Crw
set_option linter.unusedVariables false
set_option linter.unusedSimpArgs false
set_option maxRecDepth 20000
set_option maxHeartbeats 8000000 in
theorem asked_any (c : Cf) (vb : Nat) (V : Lv) (la : Option Addr) (lc : Nat) (pa : Option Addr) (pc : Nat) (ps : List ByteArray) (f : Nat) (xa : Option Addr) (xc : Nat) (xs : List Int) (lv : Int) (w : World) (h : VAt w vb V) (hl : LsAt w (la, V.length, lc) V) (hw : WeV V) (hc : Cr c V.length) (hno : NumOk V) (hpp : Ls kT w (pa, ps.length, pc) ps) (hps : ps.length ≤ 1000000000) (hf : c 12 = f) (hx : Ls kU w (xa, xs.length, xc) xs) (hln : xs.length ≤ 17592186044416) :
    Calls Tryz.prog 10 #[.agg (cfgA c), .pointer (some ⟨vb, 0, none⟩), .slice la V.length lc, .slice pa ps.length pc, .slice xa xs.length xc, .int .i64 lv] w fun e w' => e = .returned (.bool true) ∧ RowKit.Below w.heap.size w w' := by
  obtain ⟨zs, hz1, hz2⟩ := ord_ex (scs c V)
  have hn3 := hc.n3
  have hn5 := hc.n5
  obtain ⟨W, hW⟩ : ∃ X, w.alloc (Obj.cells (cfgA c) 23) = X := ⟨_, rfl⟩
  have HW : Hid (RowKit.Below w.heap.size w W ∧ Lc W w.heap.size c ∧ w.heap.size < W.heap.size) := by
    subst hW
    exact ⟨(Below.refl _ _).alloc (Nat.le_refl _) _, lc_new w c 23, by simp⟩
  have HX : Hid (VAt w vb V ∧ LsAt w (la, V.length, lc) V ∧ WeV V ∧ Cr c V.length ∧ NumOk V ∧ Ls kT w (pa, ps.length, pc) ps ∧ ps.length ≤ 1000000000 ∧ c 12 = f ∧ Ls kU w (xa, xs.length, xc) xs ∧ xs.length ≤ 17592186044416) := ⟨h, hl, hw, hc, hno, hpp, hps, hf, hx, hln⟩
  obtain ⟨SS, hSS⟩ : ∃ SS, scs c V = SS := ⟨_, rfl⟩
  obtain ⟨OD, hOD⟩ : ∃ OD, ordL c V zs = OD := ⟨_, rfl⟩
  have hol : OD.length ≤ 20 := by rw [← hOD]; exact ord_len hc hz1
  have hsl : SS.length ≤ 5 := by rw [← hSS, scs_len]; omega
  have HSc : Hid (∀ X, RowKit.Below W.heap.size W X → Calls Tryz.prog 15 #[.agg (cfgA c), .pointer (some ⟨vb, 0, none⟩)] X fun e w' => ∃ (sa : Option Addr) (sc : Nat), e = .returned (.slice sa SS.length sc) ∧ Ls kI w' (sa, SS.length, sc) SS ∧ RowKit.Below X.heap.size X w') := fun X hX => (scores_any c vb V X (h.below (HW.out.1.trans (hX.mono HW.out.1.size))) hw hc).mono fun e w' ⟨⟨sa, sn, sc⟩, T, he, ho, hold⟩ => by
    rw [hSS] at ho
    have hlo := Ls.own ho
    have : sn = SS.length := hlo.2.1
    subst this
    exact ⟨sa, sc, he, hlo, hold.below⟩
  have HRs : Hid (∀ X, RowKit.Below W.heap.size W X → Calls Tryz.prog 32 #[.agg (cfgA c), .slice la V.length lc] X fun e w' => ∃ (sa : Option Addr) (sc : Nat), e = .returned (.slice sa SS.length sc) ∧ Ls kI w' (sa, SS.length, sc) SS ∧ RowKit.Below X.heap.size X w') := fun X hX => (rscores_any c V la lc X (hl.below (HW.out.1.trans (hX.mono HW.out.1.size))) h.1 hw hc).mono fun e w' ⟨⟨sa, sn, sc⟩, T, he, ho, hold⟩ => by
    rw [hSS] at ho
    have hlo := Ls.own ho
    have : sn = SS.length := hlo.2.1
    subst this
    exact ⟨sa, sc, he, hlo, hold.below⟩
  have HOr : Hid (∀ X, RowKit.Below W.heap.size W X → Calls Tryz.prog 14 #[.agg (cfgA c), .pointer (some ⟨vb, 0, none⟩)] X fun e w' => ∃ (sa : Option Addr) (sc : Nat), e = .returned (.slice sa OD.length sc) ∧ Ls kI w' (sa, OD.length, sc) (zI OD) ∧ RowKit.Below X.heap.size X w') := fun X hX => (orderL_any c vb V X (h.below (HW.out.1.trans (hX.mono HW.out.1.size))) hw hc).mono fun e w' ⟨⟨sa, sn, sc⟩, ys, he, h1, h2, hlo, hb⟩ => by
    rw [ord_uniq h1 h2 hz1 hz2, hOD] at hlo
    have : sn = OD.length := by have := hlo.2.1; rw [zI_len] at this; exact this
    subst this
    exact ⟨sa, sc, he, hlo, hb⟩
  have HRo : Hid (∀ X, RowKit.Below W.heap.size W X → Calls Tryz.prog 33 #[.agg (cfgA c), .slice la V.length lc] X fun e w' => ∃ (sa : Option Addr) (sc : Nat), e = .returned (.slice sa OD.length sc) ∧ Ls kI w' (sa, OD.length, sc) (zI OD) ∧ RowKit.Below X.heap.size X w') := fun X hX => (rorder_any c V la lc X (hl.below (HW.out.1.trans (hX.mono HW.out.1.size))) h.1 hw hc zs hz1 hz2).mono fun e w' ⟨⟨sa, sn, sc⟩, he, hlo, hb⟩ => by
    rw [hOD] at hlo
    have : sn = OD.length := by have := hlo.2.1; rw [zI_len] at this; exact this
    subst this
    exact ⟨sa, sc, he, hlo, hb⟩
  obtain ⟨NX, hNX⟩ : ∃ NX, nxt f V ps xs OD = NX := ⟨_, rfl⟩
  have HNx : Hid (∀ X, RowKit.Below W.heap.size W X → Calls Tryz.prog 36 #[.agg (cfgA c), .pointer (some ⟨vb, 0, none⟩), .slice pa ps.length pc, .slice xa xs.length xc] X fun e w' => JnN X NX e w') := fun X hX => by
    have hb := HW.out.1.trans (hX.mono HW.out.1.size)
    refine (next_any c vb V pa pc ps f xa xs.length xc xs X (h.below hb) hw hc hno (hpp.below hb) hps hf (hx.below hb) hln).mono ?_
    rintro e w' ⟨ys, us, ls, h1, h2, h3, h4, h5⟩
    rw [ord_uniq h1 h2 hz1 hz2, hOD, hNX] at h3 h4
    exact ⟨us, ls, h3, h4, h5⟩
  have HRn : Hid (∀ X, RowKit.Below W.heap.size W X → Calls Tryz.prog 37 #[.agg (cfgA c), .slice la V.length lc, .slice pa ps.length pc, .slice xa xs.length xc] X fun e w' => JnN X NX e w') := fun X hX => by
    have hb := HW.out.1.trans (hX.mono HW.out.1.size)
    have := rnext_any c V la lc pa pc ps f xa xc xs X (hl.below hb) h.1 hw hc (hpp.below hb) hps hf (hx.below hb) hln zs hz1 hz2
    rw [hOD, hNX] at this
    exact this
  have HNl : Hid (NX.1.up.length ≤ 1000000 ∧ NX.1.lo.length ≤ 1000000) := by
    show _ ∧ _
    have hfx := nxt_fox (f := f) (V := V) (ps := ps) (xs := xs) (ordL_nodup (c := c) (V := V) hz2)
    rw [hOD] at hfx
    rw [← hNX]
    by_cases h2 : (nxt f V ps xs OD).2 = 2
    · obtain ⟨p, z, _, e, _⟩ := hfx.fnd h2
      rw [e]
      exact jobL_len h.1
    · rw [(hfx.non h2).1]
      exact ⟨Nat.zero_le _, Nat.zero_le _⟩
  have HIn : Hid (∀ X at_, RowKit.Below W.heap.size W X → Calls Tryz.prog 18 #[.agg (cfgA c), .pointer (some ⟨vb, 0, none⟩), .slice pa ps.length pc, .int .i64 at_] X fun e w' => JnV X (InV f V ps at_) e w') := fun X at_ hX => by
    have hb := HW.out.1.trans (hX.mono HW.out.1.size)
    exact inputsV_any c vb V pa pc ps f at_ X (h.below hb) hc hno (hpp.below hb) hps hf
  have HRi : Hid (∀ X at_, RowKit.Below W.heap.size W X → Calls Tryz.prog 34 #[.agg (cfgA c), .slice la V.length lc, .slice pa ps.length pc, .int .i64 at_] X fun e w' => JnV X (InV f V ps at_) e w') := fun X at_ hX => by
    have hb := HW.out.1.trans (hX.mono HW.out.1.size)
    exact rinputsV_any c V la lc pa pc ps f at_ X (hl.below hb) h.1 hc (hpp.below hb) hps hf
  have HIl : Hid (∀ at_, (InV f V ps at_).1.up.length ≤ 1000000 ∧ (InV f V ps at_).1.lo.length ≤ 1000000) := fun at_ => by
    unfold InV
    split
    · exact jobL_len h.1
    · exact ⟨Nat.zero_le _, Nat.zero_le _⟩
  have HZI : Hid ((zI OD).length = OD.length) := zI_len OD
  have HST : Hid (∀ X, RowKit.Below W.heap.size W X → Lc X w.heap.size c ∧ RowKit.Below W.heap.size W X) := fun X hX => ⟨HW.out.2.1.keep HW.out.2.2 hX, hX⟩
  have HC8 : Hid (c 8 = (V.length : Int)) := hc.lv
  clear h hl hw hc hno hpp hps hf hx hln hz1 hz2 hSS hOD hNX HX
  go_enter Tryz.func10, Tryz.ntmps10
  go_upto_region 1 with fail
  (try rw [hW])
  clear hW
  go_cut [40] (fun v wx => v = .bool false ∧ Hid (RowKit.Below W.heap.size W wx))
  case first =>
    refine wp_region_held_drew (S := (fun X => Lc X w.heap.size c ∧ RowKit.Below W.heap.size W X)) (by kernel_rfl) ?_ (fun hHeld => ?_)
    · exact HST.out _ (Below.refl _ _).drew
    refine wpAnyH_take (i := 0) (oi := { dst := some 23, op := Go.Op.load 23 (Go.Operand.tmp 6), type := 23, pos := "exact.go:134", after := #[], guard := none }) rfl (by kernel_rfl) (by kernel_rfl) (by kernel_rfl) (fun _ _ _ h => h) (yl_cfg (by rfl) _ (by rfl) (by rfl) (fun V h => h.1)) hHeld ?_
    try simp only [Act.put, List.setIfInBounds_toArray, List.set_cons_zero, List.set_cons_succ]
    refine wpAnyH_take (i := 1) (oi := { dst := some 24, op := Go.Op.move (Go.Operand.tmp 1), type := 29, pos := "exact.go:134", after := #[], guard := none }) (v := ?_) rfl (by kernel_rfl) (by kernel_rfl) (by kernel_rfl) (fun _ _ _ h => h) (Or.inl ⟨by rfl, ?_⟩) hHeld ?_
    rotate_left
    · (intro wq hSw; (try dsimp only at hSw); go_simp; try (with_reducible rfl))
    try simp only [Act.put, List.setIfInBounds_toArray, List.set_cons_zero, List.set_cons_succ]
    refine wpAnyH_take (i := 3) (oi := { dst := some 26, op := Go.Op.load 23 (Go.Operand.tmp 6), type := 23, pos := "exact.go:134", after := #[], guard := none }) rfl (by kernel_rfl) (by kernel_rfl) (by kernel_rfl) (fun _ _ _ h => h) (yl_cfg (by rfl) _ (by rfl) (by rfl) (fun V h => h.1)) hHeld ?_
    try simp only [Act.put, List.setIfInBounds_toArray, List.set_cons_zero, List.set_cons_succ]
    refine wpAnyH_take (i := 4) (oi := { dst := some 27, op := Go.Op.move (Go.Operand.tmp 2), type := 30, pos := "exact.go:134", after := #[], guard := none }) (v := ?_) rfl (by kernel_rfl) (by kernel_rfl) (by kernel_rfl) (fun _ _ _ h => h) (Or.inl ⟨by rfl, ?_⟩) hHeld ?_
    rotate_left
    · (intro wq hSw; (try dsimp only at hSw); go_simp; try (with_reducible rfl))
    try simp only [Act.put, List.setIfInBounds_toArray, List.set_cons_zero, List.set_cons_succ]
    refine wpAnyH_ready (rs := [2]) (by kernel_rfl) (by simp) ?_
    refine (AllReadyH.cons (o := { dst := some 25, op := Go.Op.call { callee := Go.Callee.value (Go.Operand.func 15), args := #[Go.Operand.tmp 23, Go.Operand.tmp 24], argTypes := #[23, 29] }, type := 35, pos := "exact.go:134", after := #[{ on := 0, ground := Go.Ground.data }, { on := 1, ground := Go.Ground.data }], guard := none }) rfl (fun K hK => ?_) AllReadyH.nil)
    go_simp
    with_reducible refine (HSc.out _ hHeld.2).mono ?_
    rintro e w2 ⟨sa, sc, rfl, hl2, hb2⟩
    have HL2 := hidV hl2
    have HB2 : Hid (RowKit.Below W.heap.size W w2) := hHeld.2.trans (hb2.mono hHeld.2.size)
    clear hl2 hb2
    try dsimp only
    refine hK.out _ _ ?_ (fun hHeld => ?_)
    · exact HST.out _ HB2.out
    clear hK K
    try simp only [Act.put, List.setIfInBounds_toArray, List.set_cons_zero, List.set_cons_succ]
    refine wpAnyH_ready (rs := [5]) (by kernel_rfl) (by simp) ?_
    refine (AllReadyH.cons (o := { dst := some 28, op := Go.Op.call { callee := Go.Callee.value (Go.Operand.func 32), args := #[Go.Operand.tmp 26, Go.Operand.tmp 27], argTypes := #[23, 30] }, type := 35, pos := "exact.go:134", after := #[{ on := 3, ground := Go.Ground.data }, { on := 4, ground := Go.Ground.data }, { on := 2, ground := Go.Ground.chain }], guard := none }) rfl (fun K hK => ?_) AllReadyH.nil)
    go_simp
    with_reducible refine (HRs.out _ hHeld.2).mono ?_
    rintro e w3 ⟨ra, rc, rfl, hl3, hb3⟩
    have HL3 : Hid (Ls kI w3 (sa, SS.length, sc) SS ∧ Ls kI w3 (ra, SS.length, rc) SS) := ⟨HL2.out.below hb3, hl3⟩
    have HB3 : Hid (RowKit.Below W.heap.size W w3) := hHeld.2.trans (hb3.mono hHeld.2.size)
    clear hl3 hb3
    try dsimp only
    refine hK.out _ _ ?_ (fun hHeld => ?_)
    · exact HST.out _ HB3.out
    clear hK K
    try simp only [Act.put, List.setIfInBounds_toArray, List.set_cons_zero, List.set_cons_succ]
    refine wpAnyH_ready (rs := [6]) (by kernel_rfl) (by simp) ?_
    refine (AllReadyH.cons (o := { dst := some 29, op := Go.Op.call { callee := Go.Callee.value (Go.Operand.func 31), args := #[Go.Operand.tmp 25, Go.Operand.tmp 28], argTypes := #[35, 35] }, type := 4, pos := "exact.go:134", after := #[{ on := 2, ground := Go.Ground.data }, { on := 5, ground := Go.Ground.data }, { on := 5, ground := Go.Ground.chain }], guard := none }) rfl (fun K hK => ?_) AllReadyH.nil)
    go_simp
    with_reducible refine (sameInts_true _ _ _ _ _ _ _ HL3.out.1 HL3.out.2 rfl (by omega)).mono ?_
    rintro e w4 ⟨rfl, d4, rfl⟩
    have HB4 : Hid (RowKit.Below W.heap.size W (w3.drewN d4)) := ⟨HB3.out.os, HB3.out.tape, HB3.out.output, HB3.out.size, HB3.out.block⟩
    try dsimp only
    refine hK.out _ _ ?_ (fun hHeld => ?_)
    · exact HST.out _ HB4.out
    clear hK K
    try simp only [Act.put, List.setIfInBounds_toArray, List.set_cons_zero, List.set_cons_succ]
    refine wpAnyH_take (i := 7) (oi := { dst := some 30, op := Go.Op.unOp Go.UnOp.not 4 (Go.Operand.tmp 29), type := 4, pos := "exact.go:134", after := #[{ on := 6, ground := Go.Ground.data }], guard := none }) (v := ?_) rfl (by kernel_rfl) (by kernel_rfl) (by kernel_rfl) (fun _ _ _ h => h) (Or.inl ⟨by rfl, ?_⟩) hHeld ?_
    rotate_left
    · (intro wq hSw; (try dsimp only at hSw); go_simp; try (with_reducible rfl))
    try simp only [Act.put, List.setIfInBounds_toArray, List.set_cons_zero, List.set_cons_succ]
    refine wpAnyH_take (i := 8) (oi := { dst := some 31, op := Go.Op.move (Go.Operand.tmp 30), type := 4, pos := "exact.go:134", after := #[{ on := 7, ground := Go.Ground.data }, { on := 6, ground := Go.Ground.chain }], guard := none }) (v := ?_) rfl (by kernel_rfl) (by kernel_rfl) (by kernel_rfl) (fun _ _ _ h => h) (Or.inl ⟨by rfl, ?_⟩) hHeld ?_
    rotate_left
    · (intro wq hSw; (try dsimp only at hSw); go_simp; try (with_reducible rfl))
    try simp only [Act.put, List.setIfInBounds_toArray, List.set_cons_zero, List.set_cons_succ]
    refine wpAnyH_take (i := 9) (oi := { dst := some 32, op := Go.Op.load 23 (Go.Operand.tmp 6), type := 23, pos := "exact.go:134", after := #[{ on := 8, ground := Go.Ground.guard }], guard := some (8, false) }) rfl (by kernel_rfl) (by kernel_rfl) (by kernel_rfl) (fun _ _ _ h => h) (yl_cfg (by rfl) _ (by rfl) (by rfl) (fun V h => h.1)) hHeld ?_
    try simp only [Act.put, List.setIfInBounds_toArray, List.set_cons_zero, List.set_cons_succ]
    refine wpAnyH_take (i := 10) (oi := { dst := some 33, op := Go.Op.move (Go.Operand.tmp 1), type := 29, pos := "exact.go:134", after := #[{ on := 8, ground := Go.Ground.guard }], guard := some (8, false) }) (v := ?_) rfl (by kernel_rfl) (by kernel_rfl) (by kernel_rfl) (fun _ _ _ h => h) (Or.inl ⟨by rfl, ?_⟩) hHeld ?_
    rotate_left
    · (intro wq hSw; (try dsimp only at hSw); go_simp; try (with_reducible rfl))
    try simp only [Act.put, List.setIfInBounds_toArray, List.set_cons_zero, List.set_cons_succ]
    refine wpAnyH_take (i := 12) (oi := { dst := some 35, op := Go.Op.load 23 (Go.Operand.tmp 6), type := 23, pos := "exact.go:134", after := #[{ on := 8, ground := Go.Ground.guard }], guard := some (8, false) }) rfl (by kernel_rfl) (by kernel_rfl) (by kernel_rfl) (fun _ _ _ h => h) (yl_cfg (by rfl) _ (by rfl) (by rfl) (fun V h => h.1)) hHeld ?_
    try simp only [Act.put, List.setIfInBounds_toArray, List.set_cons_zero, List.set_cons_succ]
    refine wpAnyH_take (i := 13) (oi := { dst := some 36, op := Go.Op.move (Go.Operand.tmp 2), type := 30, pos := "exact.go:134", after := #[{ on := 8, ground := Go.Ground.guard }], guard := some (8, false) }) (v := ?_) rfl (by kernel_rfl) (by kernel_rfl) (by kernel_rfl) (fun _ _ _ h => h) (Or.inl ⟨by rfl, ?_⟩) hHeld ?_
    rotate_left
    · (intro wq hSw; (try dsimp only at hSw); go_simp; try (with_reducible rfl))
    try simp only [Act.put, List.setIfInBounds_toArray, List.set_cons_zero, List.set_cons_succ]
    refine wpAnyH_ready (rs := [11]) (by kernel_rfl) (by simp) ?_
    refine (AllReadyH.cons (o := { dst := some 34, op := Go.Op.call { callee := Go.Callee.value (Go.Operand.func 14), args := #[Go.Operand.tmp 32, Go.Operand.tmp 33], argTypes := #[23, 29] }, type := 35, pos := "exact.go:134", after := #[{ on := 9, ground := Go.Ground.data }, { on := 10, ground := Go.Ground.data }, { on := 8, ground := Go.Ground.chain }, { on := 8, ground := Go.Ground.guard }], guard := some (8, false) }) rfl (fun K hK => ?_) AllReadyH.nil)
    go_simp
    with_reducible refine (HOr.out _ hHeld.2).mono ?_
    rintro e w5 ⟨oa, oc, rfl, hl5, hb5⟩
    have HL5 := hidV hl5
    have HB5 : Hid (RowKit.Below W.heap.size W w5) := hHeld.2.trans (hb5.mono hHeld.2.size)
    clear hl5 hb5
    try dsimp only
    refine hK.out _ _ ?_ (fun hHeld => ?_)
    · exact HST.out _ HB5.out
    clear hK K
    try simp only [Act.put, List.setIfInBounds_toArray, List.set_cons_zero, List.set_cons_succ]
    refine wpAnyH_ready (rs := [14]) (by kernel_rfl) (by simp) ?_
    refine (AllReadyH.cons (o := { dst := some 37, op := Go.Op.call { callee := Go.Callee.value (Go.Operand.func 33), args := #[Go.Operand.tmp 35, Go.Operand.tmp 36], argTypes := #[23, 30] }, type := 35, pos := "exact.go:134", after := #[{ on := 12, ground := Go.Ground.data }, { on := 13, ground := Go.Ground.data }, { on := 11, ground := Go.Ground.chain }, { on := 8, ground := Go.Ground.guard }], guard := some (8, false) }) rfl (fun K hK => ?_) AllReadyH.nil)
    go_simp
    with_reducible refine (HRo.out _ hHeld.2).mono ?_
    rintro e w6 ⟨qa, qc, rfl, hl6, hb6⟩
    have HL6 : Hid (Ls kI w6 (oa, OD.length, oc) (zI OD) ∧ Ls kI w6 (qa, OD.length, qc) (zI OD)) := ⟨HL5.out.below hb6, hl6⟩
    have HB6 : Hid (RowKit.Below W.heap.size W w6) := hHeld.2.trans (hb6.mono hHeld.2.size)
    clear hl6 hb6
    try dsimp only
    refine hK.out _ _ ?_ (fun hHeld => ?_)
    · exact HST.out _ HB6.out
    clear hK K
    try simp only [Act.put, List.setIfInBounds_toArray, List.set_cons_zero, List.set_cons_succ]
    refine wpAnyH_ready (rs := [15]) (by kernel_rfl) (by simp) ?_
    refine (AllReadyH.cons (o := { dst := some 38, op := Go.Op.call { callee := Go.Callee.value (Go.Operand.func 31), args := #[Go.Operand.tmp 34, Go.Operand.tmp 37], argTypes := #[35, 35] }, type := 4, pos := "exact.go:134", after := #[{ on := 11, ground := Go.Ground.data }, { on := 14, ground := Go.Ground.data }, { on := 14, ground := Go.Ground.chain }, { on := 8, ground := Go.Ground.guard }], guard := some (8, false) }) rfl (fun K hK => ?_) AllReadyH.nil)
    go_simp
    with_reducible refine (sameInts_true _ _ _ _ _ _ _ HL6.out.1 HL6.out.2 HZI.out (by omega)).mono ?_
    rintro e w7 ⟨rfl, d7, rfl⟩
    have HB7 : Hid (RowKit.Below W.heap.size W (w6.drewN d7)) := ⟨HB6.out.os, HB6.out.tape, HB6.out.output, HB6.out.size, HB6.out.block⟩
    try dsimp only
    refine hK.out _ _ ?_ (fun hHeld => ?_)
    · exact HST.out _ HB7.out
    clear hK K
    try simp only [Act.put, List.setIfInBounds_toArray, List.set_cons_zero, List.set_cons_succ]
    refine wpAnyH_take (i := 16) (oi := { dst := some 39, op := Go.Op.unOp Go.UnOp.not 4 (Go.Operand.tmp 38), type := 4, pos := "exact.go:134", after := #[{ on := 15, ground := Go.Ground.data }, { on := 8, ground := Go.Ground.guard }], guard := some (8, false) }) (v := ?_) rfl (by kernel_rfl) (by kernel_rfl) (by kernel_rfl) (fun _ _ _ h => h) (Or.inl ⟨by rfl, ?_⟩) hHeld ?_
    rotate_left
    · (intro wq hSw; (try dsimp only at hSw); go_simp; try (with_reducible rfl))
    try simp only [Act.put, List.setIfInBounds_toArray, List.set_cons_zero, List.set_cons_succ]
    refine wpAnyH_take (i := 17) (oi := { dst := some 40, op := Go.Op.pick (Go.Operand.tmp 31) (Go.Operand.const (Go.Value.bool true)) (Go.Operand.tmp 39), type := 4, pos := "exact.go:134", after := #[{ on := 8, ground := Go.Ground.data }, { on := 16, ground := Go.Ground.data }], guard := none }) (v := ?_) rfl (by kernel_rfl) (by kernel_rfl) (by kernel_rfl) (fun _ _ _ h => h) (Or.inl ⟨by rfl, ?_⟩) hHeld ?_
    rotate_left
    · (intro wq hSw; (try dsimp only at hSw); go_simp; try (with_reducible rfl))
    try simp only [Act.put, List.setIfInBounds_toArray, List.set_cons_zero, List.set_cons_succ]
    refine wpAnyH_done (by kernel_rfl) ?_ _
    go_wp2_with fail
    go_meet
    case rel => exact ⟨by first | rfl | simp, HB7.out⟩
  case rest =>
    obtain ⟨rfl, HB1⟩ := hcut
    rename World => W1
    clear HSc HRs HOr HRo
    go_wp2_with fail
    go_loopw [13] (fun iv wr => ∃ k : Nat, k ≤ V.length + 4 ∧ iv = .int .i64 ((k : Int) - 2) ∧ Hid (RowKit.Below W.heap.size W wr)) (fun iv _ => V.length + 4 - (intOf iv + 2).toNat)
    case atStart => exact ⟨0, Nat.zero_le _, by simp, HB1.out⟩
    case round =>
      obtain ⟨k, hk, rfl, HB⟩ := hrel
      rename World => wr
      have hLr : Lc wr w.heap.size c := (HST.out _ HB.out).1
      have l8 : wr.cell? ⟨w.heap.size, 8, none⟩ = some (.int .i64 (V.length : Int)) := hLr.cell 8 (by rw [← HC8.out]; rfl)
      have hw2 : IntKind.i64.wrap ((V.length : Int) + 2) = (V.length : Int) + 2 := IntWalk.i64_in _ (by omega)
      by_cases hlt : k < V.length + 4
      · have q1 : (k : Int) - 2 < (V.length : Int) + 2 := by omega
        obtain ⟨A, hA⟩ : ∃ A, (if k = 0 then lv else (k : Int) - 2) = A := ⟨_, rfl⟩
        go_upto_if 50 with fail
        go_cut [14] (fun v wx => v = .int .i64 A ∧ wx = wr)
        case first =>
          by_cases hk0 : k = 0
          · rw [if_pos hk0] at hA
            have hk0' : (k : Int) - 2 = -2 := by omega
            subst hA
            go_wp2_with fail
            go_meet
            case rel => exact ⟨rfl, by first | trivial | rfl⟩
          · rw [if_neg hk0] at hA
            have hk0' : ¬ (k : Int) - 2 = -2 := by omega
            subst hA
            go_wp2_with fail
            go_meet
            case rel => exact ⟨rfl, by first | trivial | rfl⟩
        case rest =>
          obtain ⟨rfl, hwx⟩ := hcut
          have hwx' := hwx.symm
          clear hwx
          subst hwx'
          clear hA l8 hw2
          have HI1 := hidV (HIn.out wr A HB.out)
          have HR1 : Hid (∀ X, RowKit.Below wr.heap.size wr X → Calls Tryz.prog 34 #[.agg (cfgA c), .slice la V.length lc, .slice pa ps.length pc, .int .i64 A] X fun e w' => JnV X (InV f V ps A) e w') := fun X hX => HRi.out X A (HB.out.trans (hX.mono HB.out.size))
          have HL1 := hidV (HIl.out A)
          obtain ⟨⟨J, ok⟩, hJ⟩ : ∃ J, InV f V ps A = J := ⟨_, rfl⟩
          rw [hJ] at HI1 HR1 HL1
          clear hJ
          simp only at HI1 HR1 HL1
          go_upto_region 10 with (first
            | (refine wpList_cfg (by rfl) _ (by rfl) (by rfl) hLr ?_)
            | (go_at_call 18; go_loud (refine HI1.out.mono ?_; rintro e w2 ⟨⟨ua, un, uc⟩, ⟨va, vn, vc⟩, rfl, hj2, hb2⟩; have H2 : Hid (JAt w2 (ua, un, uc) (va, vn, vc) J ∧ RowKit.Below wr.heap.size wr w2) := ⟨hj2, hb2⟩; clear hj2 hb2; unfold jbV; simp only)))
          obtain ⟨W3, hW3⟩ : ∃ X, w2.alloc (Obj.cells #[.int .i64 J.lv, .slice ua un uc, .slice va vn vc, .string J.cut, .bool J.mv] 62) = X := ⟨_, rfl⟩
          have H3 : Hid (Zb W3 w2.heap.size (jbC J.lv (ua, un, uc) (va, vn, vc) J.cut J.mv) ∧ RowKit.Below wr.heap.size wr W3 ∧ JAt W3 (ua, un, uc) (va, vn, vc) J) := by
            subst hW3
            have hb3 : RowKit.Below w2.heap.size w2 (w2.alloc (Obj.cells #[.int .i64 J.lv, .slice ua un uc, .slice va vn vc, .string J.cut, .bool J.mv] 62)) := (Below.refl _ _).alloc (Nat.le_refl _) _
            exact ⟨Zb.new w2 _ _, H2.out.2.trans (hb3.mono H2.out.2.size), H2.out.1.below hb3⟩
          rw [hW3]
          clear hW3 H2 HI1 hLr
          have hLr : Lc W3 w.heap.size c := (HST.out _ (HB.out.trans (H3.out.2.1.mono HB.out.size))).1
          have HR2 := hidV (HR1.out W3 H3.out.2.1)
          go_upto_region 11 with (first
            | (refine wpList_cfg (by rfl) _ (by rfl) (by rfl) hLr ?_)
            | (go_at_call 34; go_loud (refine HR2.out.mono ?_; rintro e w4 ⟨⟨xa4, xn4, xc4⟩, ⟨ya4, yn4, yc4⟩, rfl, hj4, hb4⟩; have H4 : Hid (JAt w4 (xa4, xn4, xc4) (ya4, yn4, yc4) J ∧ RowKit.Below W3.heap.size W3 w4) := ⟨hj4, hb4⟩; clear hj4 hb4; unfold jbV; simp only)))
          obtain ⟨W5, hW5⟩ : ∃ X, w4.alloc (Obj.cells #[.int .i64 J.lv, .slice xa4 xn4 xc4, .slice ya4 yn4 yc4, .string J.cut, .bool J.mv] 62) = X := ⟨_, rfl⟩
          have H5 : Hid (Zb W5 w4.heap.size (jbC J.lv (xa4, xn4, xc4) (ya4, yn4, yc4) J.cut J.mv) ∧ RowKit.Below W3.heap.size W3 W5 ∧ JAt W5 (xa4, xn4, xc4) (ya4, yn4, yc4) J) := by
            subst hW5
            have hb5 : RowKit.Below w4.heap.size w4 (w4.alloc (Obj.cells #[.int .i64 J.lv, .slice xa4 xn4 xc4, .slice ya4 yn4 yc4, .string J.cut, .bool J.mv] 62)) := (Below.refl _ _).alloc (Nat.le_refl _) _
            exact ⟨Zb.new w4 _ _, H4.out.2.trans (hb5.mono H4.out.2.size), H4.out.1.below hb5⟩
          rw [hW5]
          clear hW5 H4 HR1 HR2 hLr
          have HZ3 := hidV (H3.out.1.below H5.out.2.1)
          have y0 := HZ3.out.2.1 0 _ rfl
          have y1 := HZ3.out.2.1 1 _ rfl
          have y2 := HZ3.out.2.1 2 _ rfl
          have y3 := HZ3.out.2.1 3 _ rfl
          have y4 := HZ3.out.2.1 4 _ rfl
          have z0 := H5.out.1.2.1 0 _ rfl
          have z1 := H5.out.1.2.1 1 _ rfl
          have z2 := H5.out.1.2.1 2 _ rfl
          have z3 := H5.out.1.2.1 3 _ rfl
          have z4 := H5.out.1.2.1 4 _ rfl
          simp only at y1 y2 z1 z2
          have HSJ : Hid (Calls Tryz.prog 35 #[.agg #[.int .i64 J.lv, .slice ua un uc, .slice va vn vc, .string J.cut, .bool J.mv], .agg #[.int .i64 J.lv, .slice xa4 xn4 xc4, .slice ya4 yn4 yc4, .string J.cut, .bool J.mv]] W5 fun e w' => e = .returned (.bool true) ∧ RowKit.Below W5.heap.size W5 w') := sameJob_true J (ua, un, uc) (va, vn, vc) (xa4, xn4, xc4) (ya4, yn4, yc4) W5 (H3.out.2.2.below H5.out.2.1) H5.out.2.2 HL1.out
          have HB5 : Hid (RowKit.Below W.heap.size W W5) := HB.out.trans ((H3.out.2.1.trans (H5.out.2.1.mono H3.out.2.1.size)).mono HB.out.size)
          have hok : (ok != ok) = false := by cases ok <;> rfl
          go_wp2_with (go_at_call 35; go_loud (refine HSJ.out.mono ?_; rintro e w6 ⟨rfl, hb6⟩; have H6 := hidV hb6; clear hb6))
          go_roundw
          case rel => exact ⟨k + 1, by omega, by (try go_num); (try omega), HB5.out.trans (H6.out.mono HB5.out.size)⟩
          case measure => simp [intOf]; omega
      · have q1 : ¬ (k : Int) - 2 < (V.length : Int) + 2 := by omega
        have HN1 := hidV (HNx.out wr HB.out)
        have HN2 : Hid (∀ X, RowKit.Below wr.heap.size wr X → Calls Tryz.prog 37 #[.agg (cfgA c), .slice la V.length lc, .slice pa ps.length pc, .slice xa xs.length xc] X fun e w' => JnN X NX e w') := fun X hX => HRn.out X (HB.out.trans (hX.mono HB.out.size))
        obtain ⟨J, K⟩ := NX
        simp only at HNl
        go_upto_region 14 with (first
          | (refine wpList_cfg (by rfl) _ (by rfl) (by rfl) hLr ?_)
          | (go_at_call 36; go_loud (refine HN1.out.mono ?_; rintro e w2 ⟨⟨ua, un, uc⟩, ⟨va, vn, vc⟩, rfl, hj2, hb2⟩; have H2 : Hid (JAt w2 (ua, un, uc) (va, vn, vc) J ∧ RowKit.Below wr.heap.size wr w2) := ⟨hj2, hb2⟩; clear hj2 hb2; unfold jbV; simp only)))
        obtain ⟨W3, hW3⟩ : ∃ X, w2.alloc (Obj.cells #[.int .i64 J.lv, .slice ua un uc, .slice va vn vc, .string J.cut, .bool J.mv] 62) = X := ⟨_, rfl⟩
        have H3 : Hid (Zb W3 w2.heap.size (jbC J.lv (ua, un, uc) (va, vn, vc) J.cut J.mv) ∧ RowKit.Below wr.heap.size wr W3 ∧ JAt W3 (ua, un, uc) (va, vn, vc) J) := by
          subst hW3
          have hb3 : RowKit.Below w2.heap.size w2 (w2.alloc (Obj.cells #[.int .i64 J.lv, .slice ua un uc, .slice va vn vc, .string J.cut, .bool J.mv] 62)) := (Below.refl _ _).alloc (Nat.le_refl _) _
          exact ⟨Zb.new w2 _ _, H2.out.2.trans (hb3.mono H2.out.2.size), H2.out.1.below hb3⟩
        rw [hW3]
        clear hW3 H2 HN1 hLr l8
        have hLr : Lc W3 w.heap.size c := (HST.out _ (HB.out.trans (H3.out.2.1.mono HB.out.size))).1
        have HR2 := hidV (HN2.out W3 H3.out.2.1)
        go_upto_region 15 with (first
          | (refine wpList_cfg (by rfl) _ (by rfl) (by rfl) hLr ?_)
          | (go_at_call 37; go_loud (refine HR2.out.mono ?_; rintro e w4 ⟨⟨xa4, xn4, xc4⟩, ⟨ya4, yn4, yc4⟩, rfl, hj4, hb4⟩; have H4 : Hid (JAt w4 (xa4, xn4, xc4) (ya4, yn4, yc4) J ∧ RowKit.Below W3.heap.size W3 w4) := ⟨hj4, hb4⟩; clear hj4 hb4; unfold jbV; simp only)))
        obtain ⟨W5, hW5⟩ : ∃ X, w4.alloc (Obj.cells #[.int .i64 J.lv, .slice xa4 xn4 xc4, .slice ya4 yn4 yc4, .string J.cut, .bool J.mv] 62) = X := ⟨_, rfl⟩
        have H5 : Hid (Zb W5 w4.heap.size (jbC J.lv (xa4, xn4, xc4) (ya4, yn4, yc4) J.cut J.mv) ∧ RowKit.Below W3.heap.size W3 W5 ∧ JAt W5 (xa4, xn4, xc4) (ya4, yn4, yc4) J) := by
          subst hW5
          have hb5 : RowKit.Below w4.heap.size w4 (w4.alloc (Obj.cells #[.int .i64 J.lv, .slice xa4 xn4 xc4, .slice ya4 yn4 yc4, .string J.cut, .bool J.mv] 62)) := (Below.refl _ _).alloc (Nat.le_refl _) _
          exact ⟨Zb.new w4 _ _, H4.out.2.trans (hb5.mono H4.out.2.size), H4.out.1.below hb5⟩
        rw [hW5]
        clear hW5 H4 HN2 HR2 hLr
        have HZ3 := hidV (H3.out.1.below H5.out.2.1)
        have y0 := HZ3.out.2.1 0 _ rfl
        have y1 := HZ3.out.2.1 1 _ rfl
        have y2 := HZ3.out.2.1 2 _ rfl
        have y3 := HZ3.out.2.1 3 _ rfl
        have y4 := HZ3.out.2.1 4 _ rfl
        have z0 := H5.out.1.2.1 0 _ rfl
        have z1 := H5.out.1.2.1 1 _ rfl
        have z2 := H5.out.1.2.1 2 _ rfl
        have z3 := H5.out.1.2.1 3 _ rfl
        have z4 := H5.out.1.2.1 4 _ rfl
        simp only at y1 y2 z1 z2
        have HSJ : Hid (Calls Tryz.prog 35 #[.agg #[.int .i64 J.lv, .slice ua un uc, .slice va vn vc, .string J.cut, .bool J.mv], .agg #[.int .i64 J.lv, .slice xa4 xn4 xc4, .slice ya4 yn4 yc4, .string J.cut, .bool J.mv]] W5 fun e w' => e = .returned (.bool true) ∧ RowKit.Below W5.heap.size W5 w') := sameJob_true J (ua, un, uc) (va, vn, vc) (xa4, xn4, xc4) (ya4, yn4, yc4) W5 (H3.out.2.2.below H5.out.2.1) H5.out.2.2 HNl.out
        have HB5 : Hid (RowKit.Below W.heap.size W W5) := HB.out.trans ((H3.out.2.1.trans (H5.out.2.1.mono H3.out.2.1.size)).mono HB.out.size)
        go_wp2_with (go_at_call 35; go_loud (refine HSJ.out.mono ?_; rintro e w6 ⟨rfl, hb6⟩; have H6 := hidV hb6; clear hb6))
        go_ret
        exact ⟨rfl, HW.out.1.trans ((HB5.out.trans (H6.out.mono HB5.out.size)).mono HW.out.1.size)⟩
end Vr
end Go.Proofs.YtaejjpbpnedblaaGreat
