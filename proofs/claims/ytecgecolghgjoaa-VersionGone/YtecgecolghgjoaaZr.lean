import Derived.Test.YtecgecolghgjoaaZq
namespace Go.Proofs.Ytecgecolghgjoaa
namespace Vr
open Go.Shelf Go.RowKit Go.Lib Go.Sort Go.Maps Go.ChangeMaps Go.MapKept Laws Irw Crw
set_option linter.unusedVariables false
set_option linter.unusedSimpArgs false
set_option maxRecDepth 20000
/-- one block alone has turned -/
structure Only (b : Nat) (w w' : World) : Prop where
  os : w'.os = w.os
  tape : w'.tape = w.tape
  output : w'.output = w.output
  size : w'.heap.size = w.heap.size
  blk : ∀ c, c ≠ b → w'.heap[c]? = w.heap[c]?
theorem Only.refl (b : Nat) (w : World) : Only b w w := ⟨rfl, rfl, rfl, rfl, fun _ _ => rfl⟩
theorem Only.trans {b : Nat} {w w' w'' : World} (h : Only b w w') (k : Only b w' w'') : Only b w w'' := ⟨k.os.trans h.os, k.tape.trans h.tape, k.output.trans h.output, k.size.trans h.size, fun c hc => (k.blk c hc).trans (h.blk c hc)⟩
theorem Only.set (b j : Nat) (v : Value) (w : World) : Only b w (w.setCell ⟨b, j, none⟩ v) := by
  refine ⟨rfl, rfl, rfl, ?_, fun c hc => ?_⟩
  · rw [setCell_eq]; show (w.heap.modify b _).size = _; simp
  · rw [setCell_eq]; show (w.heap.modify b _)[c]? = _; rw [Array.getElem?_modify, if_neg (Ne.symm hc)]
theorem Only.below {b : Nat} {w0 w w' : World} (h : Only b w w') (hb : RowKit.Below w0.heap.size w0 w) (hc : w0.heap.size ≤ b) : RowKit.Below w0.heap.size w0 w' :=
  ⟨h.os.trans hb.os, h.tape.trans hb.tape, h.output.trans hb.output, by rw [h.size]; exact hb.size, fun c hc' => (h.blk c (by omega)).trans (hb.block c hc')⟩
theorem Only.zb {b c : Nat} {w w' : World} {vs : List Value} (h : Only b w w') (hz : Zb w c vs) (hc : c ≠ b) : Zb w' c vs := hz.keep (h.blk c hc) (by rw [h.size]; exact Nat.le_refl _)
theorem many_any (n : Int) (w : World) : Calls Try.prog 20 #[.int .i64 n] w fun e w' => e = .returned (.pointer (some ⟨w.heap.size, 0, none⟩)) ∧ Zb w' w.heap.size [.int .i64 n] ∧ RowKit.Below w.heap.size w w' := by
  go_enter Try.func20, Try.ntmps20
  go_wp2
  go_ret
  exact ⟨rfl, Zb.new w #[.int .i64 n] 87, (Below.refl _ _).alloc (Nat.le_refl _) _⟩
def cnt (m k : Int) : Int := if 0 ≤ m then m - k else m
def CtI (b : Nat) (m k : Int) (w : World) (e : Ending) (w' : World) : Prop := e = .returned (.bool (decide (0 ≤ cnt m k))) ∧ Zb w' b [.int .i64 (cnt m k)] ∧ Only b w w'
set_option maxHeartbeats 400000 in
theorem add_any (b : Nat) (m k : Int) (w : World) (h : Zb w b [.int .i64 m]) (hm : -9000000000000000000 ≤ m - k ∧ m ≤ 10000) (hk : 0 ≤ k) : Calls Try.prog 34 #[.pointer (some ⟨b, 0, none⟩), .int .i64 k] w fun e w' => CtI b m k w e w' := by
  have c0 := h.2.1 0 _ rfl
  have f0 := h.2.2 0
  have HZ : Hid (Zb w b [.int .i64 m]) := h
  clear h
  unfold CtI
  by_cases h0 : 0 ≤ m
  · have w1 : IntKind.i64.wrap (m - k) = m - k := IntWalk.i64_in _ (by omega)
    have e1 : cnt m k = m - k := by unfold cnt; rw [if_pos h0]
    rw [e1]
    have HE : Hid (Zb (w.setCell ⟨b, 0, none⟩ (.int .i64 (m - k))) b [.int .i64 (m - k)]) := HZ.out.set 0 _
    go_enter Try.func34, Try.ntmps34
    go_wp2
    go_ret
    exact ⟨by simp, HE.out, Only.set _ _ _ _⟩
  · have e1 : cnt m k = m := by unfold cnt; rw [if_neg h0]
    rw [e1]
    go_enter Try.func34, Try.ntmps34
    go_wp2
    go_ret
    exact ⟨by simp [h0], HZ.out, Only.refl _ _⟩
theorem ok_any (b : Nat) (m : Int) (w : World) (h : Zb w b [.int .i64 m]) : Calls Try.prog 22 #[.pointer (some ⟨b, 0, none⟩)] w fun e w' => e = .returned (.bool (decide (0 ≤ m))) ∧ w' = w := by
  have c0 := h.2.1 0 _ rfl
  clear h
  go_enter Try.func22, Try.ntmps22
  go_wp2
  go_ret
  exact ⟨rfl, rfl⟩
def Z48 : Nat := 281474976710656
set_option maxHeartbeats 400000 in
theorem text_any (b : Nat) (m : Int) (s : ByteArray) (w : World) (h : Zb w b [.int .i64 m]) (hm : -1000000000000000 ≤ m ∧ m ≤ 10000) (hs : s.size ≤ Z48) : Calls Try.prog 35 #[.pointer (some ⟨b, 0, none⟩), .string s] w fun e w' => e = .returned (.tuple #[]) ∧ Zb w' b [.int .i64 (cnt m (1 + (s.size : Int)))] ∧ Only b w w' := by
  unfold Z48 at hs
  have q1 : IntKind.i64.wrap (1 + (s.size : Int)) = 1 + (s.size : Int) := IntWalk.i64_in _ (by omega)
  have HC : Hid (Calls Try.prog 34 #[.pointer (some ⟨b, 0, none⟩), .int .i64 (1 + (s.size : Int))] w fun e w' => CtI b m (1 + (s.size : Int)) w e w') := add_any b m (1 + (s.size : Int)) w h (by omega) (by omega)
  clear h
  go_enter Try.func35, Try.ntmps35
  go_wp2_with (go_at_call 34; go_loud (refine HC.out.mono ?_; rintro e w1 ⟨rfl, hx⟩; have HX : Hid _ := hx; clear hx))
  go_end0
  exact ⟨rfl, HX.out⟩
theorem cnt_le {m k : Int} (hk : 0 ≤ k) : cnt m k ≤ m := by unfold cnt; split <;> omega
theorem cnt_pos {m k : Int} (hk : 0 ≤ k) (h : 0 ≤ cnt m k) : 0 ≤ m ∧ cnt m k = m - k := by
  unfold cnt at h ⊢
  split
  · rename_i h0; exact ⟨h0, rfl⟩
  · rename_i h0; rw [if_neg h0] at h; omega
theorem cnt_ge {m k B : Int} (hm : -B ≤ m) (hB : k ≤ B) : -B ≤ cnt m k := by unfold cnt; split <;> omega
/-- what the count of an edit says -/
def EcIs (w0 : World) (b : Nat) (O : List Pc) (l : List Pi) (pts : List ByteArray) (e : Ending) (w' : World) : Prop := e = .returned (.tuple #[]) ∧ ∃ m : Int, Zb w' b [.int .i64 m] ∧ RowKit.Below w0.heap.size w0 w' ∧ (0 ≤ m → O.length + l.length + pts.length ≤ 8192)
structure EcS (w0 : World) (b bx : Nat) (m : Int) (vs : List Value) (n : Nat) (wr : World) : Prop where
  c : Zb wr b [.int .i64 m]
  box : Zb wr bx vs
  bel : RowKit.Below w0.heap.size w0 wr
  sm : 0 ≤ m → m + (n : Int) ≤ 8192
theorem EcS.step {w0 : World} {b bx : Nat} {m k : Int} {vs : List Value} {n n' : Nat} {wr w' : World} (h : EcS w0 b bx m vs n wr) (hb : w0.heap.size ≤ b) (hbx : bx ≠ b) (hk : 0 ≤ k) (hn : (n' : Int) ≤ n + k) (hz : Zb w' b [.int .i64 (cnt m k)]) (ho : Only b wr w') : EcS w0 b bx (cnt m k) vs n' w' :=
  ⟨hz, ho.zb h.box hbx, ho.below h.bel hb, fun h0 => by
    obtain ⟨h1, h2⟩ := cnt_pos hk h0
    have := h.sm h1
    omega⟩
set_option maxHeartbeats 4000000 in
theorem edit_c (b : Nat) (x y z : Value) (oa : Option Addr) (oc : Nat) (O : List Pc) (ia : Option Addr) (ic : Nat) (l : List Pi) (pa : Option Addr) (pc : Nat) (pts : List ByteArray) (w0 w : World) (hb : RowKit.Below w0.heap.size w0 w) (hbb : w0.heap.size ≤ b) (hz : Zb w b [.int .i64 8192])
    (hl : Ls kPi w0 (ia, l.length, ic) l) (hp : Ls kT w0 (pa, pts.length, pc) pts) (hO : O.length ≤ Z48) (hll : l.length ≤ Z48) (hpl : pts.length ≤ Z48) (hls : ∀ p ∈ l, p.t.le.size ≤ Z48 ∧ p.t.gr.size ≤ Z48) (hps : ∀ p ∈ pts, p.size ≤ Z48) :
    Calls Try.prog 21 #[.pointer (some ⟨b, 0, none⟩), .agg #[x, y, z, .slice oa O.length oc, .slice ia l.length ic, .slice pa pts.length pc]] w fun e w' => EcIs w0 b O l pts e w' := by
  have HA : Hid (Ls kPi w0 (ia, l.length, ic) l ∧ Ls kT w0 (pa, pts.length, pc) pts ∧ (∀ p ∈ l, p.t.le.size ≤ Z48 ∧ p.t.gr.size ≤ Z48) ∧ ∀ p ∈ pts, p.size ≤ Z48) := ⟨hl, hp, hls, hps⟩
  have hZ48 : Z48 = 281474976710656 := rfl
  rw [hZ48] at hO hll hpl
  obtain ⟨W, hW⟩ : ∃ W, w.alloc (Obj.cells #[x, y, z, .slice oa O.length oc, .slice ia l.length ic, .slice pa pts.length pc] 38) = W := ⟨_, rfl⟩
  obtain ⟨bx, hbx⟩ : ∃ b, w.heap.size = b := ⟨_, rfl⟩
  have hb1 : RowKit.Below w.heap.size w W := by rw [← hW]; exact (Below.refl _ _).alloc (Nat.le_refl _) _
  have hbne : bx ≠ b := by have := hz.1; omega
  obtain ⟨vs, hvs⟩ : ∃ vs, [x, y, z, .slice oa O.length oc, .slice ia l.length ic, .slice pa pts.length pc] = vs := ⟨_, rfl⟩
  have HVS : Hid (vs[3]? = some (.slice oa O.length oc) ∧ vs[4]? = some (.slice ia l.length ic) ∧ vs[5]? = some (.slice pa pts.length pc)) := by rw [← hvs]; exact ⟨rfl, rfl, rfl⟩
  have HS : Hid (EcS w0 b bx 8192 vs 0 W) := ⟨hz.below hb1, by rw [← hW, ← hbx, ← hvs]; exact Zb.new _ _ _, hb.trans (hb1.mono hb.size), fun _ => by omega⟩
  have q1 : IntKind.i64.wrap (1 + (O.length : Int)) = 1 + (O.length : Int) := IntWalk.i64_in _ (by omega)
  have z3 := HS.out.box.2.1 3 _ HVS.out.1
  have HC : Hid (Calls Try.prog 34 #[.pointer (some ⟨b, 0, none⟩), .int .i64 (1 + (O.length : Int))] W fun e w' => CtI b 8192 (1 + (O.length : Int)) W e w') := add_any b 8192 _ W HS.out.c (by omega) (by omega)
  clear hl hp hls hps hz hb hb1 hZ48 hvs
  go_enter Try.func21, Try.ntmps21
  go_upto_region 1 with fail
  (try rw [hW])
  (try rw [hbx])
  clear hW hbx
  go_upto_region 2 with (go_at_call 34; go_loud (refine HC.out.mono ?_; rintro e w1 ⟨rfl, hz1, ho1⟩; have HS1 : Hid (EcS w0 b bx (cnt 8192 (1 + (O.length : Int))) vs (O.length + 0) w1) := HS.out.step hbb hbne (by omega) (by simp; omega) hz1 ho1; clear hz1 ho1))
  have hm1 : -1000000000000000 ≤ cnt 8192 (1 + (O.length : Int)) := cnt_ge (by omega) (by omega)
  have hm2 : cnt 8192 (1 + (O.length : Int)) ≤ 8192 := cnt_le (by omega)
  generalize cnt 8192 (1 + (O.length : Int)) = m1 at hm1 hm2 HS1
  clear HS HC z3 q1
  go_wp2_with fail
  go_loopw [4] (fun vi wr => ∃ (k : Nat) (m : Int), k ≤ l.length ∧ vi = .int .i64 (k : Int) ∧ -1000000000000000 ≤ m ∧ m ≤ 8192 ∧ Hid (EcS w0 b bx m vs (O.length + k) wr)) (fun vi _ => l.length - (intOf vi).toNat)
  case atStart => exact ⟨0, m1, Nat.zero_le _, rfl, hm1, hm2, HS1.out⟩
  case round =>
    clear HS1 hm1 hm2
    obtain ⟨k, m, hk, rfl, hm1, hm2, HX⟩ := hrel
    rename World => wr
    have z4 := HX.out.box.2.1 4 _ HVS.out.2.1
    have CK : Hid (Calls Try.prog 22 #[.pointer (some ⟨b, 0, none⟩)] wr fun e w' => e = .returned (.bool (decide (0 ≤ m))) ∧ w' = wr) := ok_any b m wr HX.out.c
    by_cases hlt : k < l.length
    · have q1 : (k : Int) < (l.length : Int) := by omega
      by_cases h0 : 0 ≤ m
      · have CK2 : Hid (Calls Try.prog 22 #[.pointer (some ⟨b, 0, none⟩)] wr fun e w' => e = .returned (.bool true) ∧ w' = wr) := by
          have := CK.out
          rw [decide_eq_true h0] at this
          exact this
        clear CK
        obtain ⟨c9, off, e9, hb9, p, hp, c0, c1, c2, c3, c4, c5, c6⟩ := (HA.out.1.below HX.out.bel).pi hlt
        subst e9
        obtain ⟨lv, tb⟩ := p
        simp only at c5 c6
        have hsz := HA.out.2.2.1 _ (List.mem_of_getElem? hp)
        obtain ⟨hs1, hs2⟩ := hsz
        simp only at hs1 hs2
        have hs3 : (tb.le.size : Int) ≤ 281474976710656 := by unfold Z48 at hs1; omega
        have hs4 : (tb.gr.size : Int) ≤ 281474976710656 := by unfold Z48 at hs2; omega
        have CT : Hid (Calls Try.prog 35 #[.pointer (some ⟨b, 0, none⟩), .string tb.le] wr fun e w' => e = .returned (.tuple #[]) ∧ Zb w' b [.int .i64 (cnt m (1 + (tb.le.size : Int)))] ∧ Only b wr w') := text_any b m tb.le wr HX.out.c (by omega) hs1
        have hn1 : -1000000000000000 ≤ cnt m (1 + (tb.le.size : Int)) := cnt_ge (by omega) (by omega)
        have hn2 : cnt m (1 + (tb.le.size : Int)) ≤ m := cnt_le (by omega)
        have HXT : Hid (∀ w', Zb w' b [.int .i64 (cnt m (1 + (tb.le.size : Int)))] → Only b wr w' → EcS w0 b bx (cnt m (1 + (tb.le.size : Int))) vs (O.length + (k + 1)) w') := fun w' hz ho => HX.out.step hbb hbne (by omega) (by omega) hz ho
        generalize cnt m (1 + (tb.le.size : Int)) = m2 at hn1 hn2 CT HXT
        clear hp c0 c1 c2 c3 c4 c6
        go_upto_region 6 with (first
          | (go_at_call 22; go_loud (refine CK2.out.mono ?_; rintro e w1 ⟨rfl, hw⟩; have hw := hw.symm; subst hw))
          | (go_at_call 35; go_loud (refine CT.out.mono ?_; rintro e w2 ⟨rfl, hz2, ho2⟩; have HX2 : Hid (EcS w0 b bx m2 vs (O.length + (k + 1)) w2) := HXT.out w2 hz2 ho2; clear hz2 ho2)))
        clear z4 c5
        have z4 := HX2.out.box.2.1 4 _ HVS.out.2.1
        obtain ⟨c8, off8, e8, hb8, p8, hp8, _, _, _, _, _, _, c6⟩ := (HA.out.1.below HX2.out.bel).pi hlt
        cases e8
        have CA : Hid (Calls Try.prog 34 #[.pointer (some ⟨b, 0, none⟩), .int .i64 (p8.t.gr.size : Int)] w2 fun e w' => CtI b m2 (p8.t.gr.size : Int) w2 e w') := by
          have hs := (HA.out.2.2.1 _ (List.mem_of_getElem? hp8)).2
          unfold Z48 at hs
          exact add_any b m2 _ w2 HX2.out.c (by omega) (by omega)
        have hg9 : (p8.t.gr.size : Int) ≤ 281474976710656 := by
          have hs := (HA.out.2.2.1 _ (List.mem_of_getElem? hp8)).2
          unfold Z48 at hs
          omega
        obtain ⟨g, hg⟩ : ∃ g, p8.t.gr = g := ⟨_, rfl⟩
        rw [hg] at c6 CA hg9
        clear hp8 hg
        go_wp2_with (go_at_call 34; go_loud (refine CA.out.mono ?_; rintro e w3 ⟨rfl, hz3, ho3⟩; have HX3 : Hid (EcS w0 b bx (cnt m2 (g.size : Int)) vs (O.length + (k + 1)) w3) := HX2.out.step hbb hbne (by omega) (by omega) hz3 ho3; clear hz3 ho3))
        go_roundw
        case rel => exact ⟨k + 1, _, by omega, by go_num, cnt_ge (by omega) (by omega), Int.le_trans (cnt_le (by omega)) (by omega), HX3.out⟩
        case measure => simp [intOf]; omega
      · have CK2 : Hid (Calls Try.prog 22 #[.pointer (some ⟨b, 0, none⟩)] wr fun e w' => e = .returned (.bool false) ∧ w' = wr) := by
          have := CK.out
          rw [decide_eq_false h0] at this
          exact this
        have HX9 : Hid (EcS w0 b bx m vs (O.length + l.length + 0) wr) := ⟨HX.out.c, HX.out.box, HX.out.bel, fun h => absurd h h0⟩
        clear CK h0
        go_wp2_with (go_at_call 22; go_loud (refine CK2.out.mono ?_; rintro e w1 ⟨rfl, hw⟩; have hw := hw.symm; subst hw))
        go_loopw [5] (fun vi wr => ∃ (j : Nat) (m : Int), j ≤ pts.length ∧ vi = .int .i64 (j : Int) ∧ -1000000000000000 ≤ m ∧ m ≤ 8192 ∧ Hid (EcS w0 b bx m vs (O.length + l.length + j) wr)) (fun vi _ => pts.length - (intOf vi).toNat)
        case atStart => exact ⟨0, m, Nat.zero_le _, rfl, hm1, hm2, HX9.out⟩
        case round =>
          clear HX9 HX hm1 hm2 z4
          obtain ⟨j, m, hj, rfl, hm1, hm2, HX⟩ := hrel
          rename World => wr
          have z5 := HX.out.box.2.1 5 _ HVS.out.2.2
          have CK : Hid (Calls Try.prog 22 #[.pointer (some ⟨b, 0, none⟩)] wr fun e w' => e = .returned (.bool (decide (0 ≤ m))) ∧ w' = wr) := ok_any b m wr HX.out.c
          by_cases hlj : j < pts.length
          · have q3 : (j : Int) < (pts.length : Int) := by omega
            by_cases h0 : 0 ≤ m
            · have CK3 : Hid (Calls Try.prog 22 #[.pointer (some ⟨b, 0, none⟩)] wr fun e w' => e = .returned (.bool true) ∧ w' = wr) := by
                have := CK.out
                rw [decide_eq_true h0] at this
                exact this
              clear CK
              obtain ⟨s, hs⟩ : ∃ s, pts[j]? = some s := ⟨_, List.getElem?_eq_getElem hlj⟩
              obtain ⟨c9, off, e9, hb9, hc⟩ := (HA.out.2.1.below HX.out.bel).cell hs
              have c0 := hc 0 _ rfl
              rw [show off + j * kT.size + 0 = off + j by show off + j * 1 + 0 = _; omega] at c0
              change pa = _ at e9
              subst e9
              have hs1 := HA.out.2.2.2 s (List.mem_of_getElem? hs)
              have hs3 : (s.size : Int) ≤ 281474976710656 := by unfold Z48 at hs1; omega
              have CT : Hid (Calls Try.prog 35 #[.pointer (some ⟨b, 0, none⟩), .string s] wr fun e w' => e = .returned (.tuple #[]) ∧ Zb w' b [.int .i64 (cnt m (1 + (s.size : Int)))] ∧ Only b wr w') := text_any b m s wr HX.out.c (by omega) hs1
              clear hc hs
              go_wp2_with (first
                | (go_at_call 22; go_loud (refine CK3.out.mono ?_; rintro e w1 ⟨rfl, hw⟩; have hw := hw.symm; subst hw))
                | (go_at_call 35; go_loud (refine CT.out.mono ?_; rintro e w2 ⟨rfl, hz2, ho2⟩; have HX2 : Hid (EcS w0 b bx (cnt m (1 + (s.size : Int))) vs (O.length + l.length + (j + 1)) w2) := HX.out.step hbb hbne (by omega) (by omega) hz2 ho2; clear hz2 ho2)))
              go_roundw
              case rel => exact ⟨j + 1, _, by omega, by go_num, cnt_ge (by omega) (by omega), Int.le_trans (cnt_le (by omega)) hm2, HX2.out⟩
              case measure => simp [intOf]; omega
            · have CK3 : Hid (Calls Try.prog 22 #[.pointer (some ⟨b, 0, none⟩)] wr fun e w' => e = .returned (.bool false) ∧ w' = wr) := by
                have := CK.out
                rw [decide_eq_false h0] at this
                exact this
              clear CK
              go_wp2_with (go_at_call 22; go_loud (refine CK3.out.mono ?_; rintro e w1 ⟨rfl, hw⟩; have hw := hw.symm; subst hw))
              go_end0
              exact ⟨rfl, m, HX.out.c, HX.out.bel, fun h => absurd h (by omega)⟩
          · have q3 : ¬ (j : Int) < (pts.length : Int) := by omega
            have q4 : decide ((j : Int) < (pts.length : Int)) = false := decide_eq_false q3
            go_wp2_with fail
            go_end0
            exact ⟨rfl, m, HX.out.c, HX.out.bel, fun h => by
              have := HX.out.sm h
              omega⟩
    · have q1 : ¬ (k : Int) < (l.length : Int) := by omega
      have q2 : decide ((k : Int) < (l.length : Int)) = false := decide_eq_false q1
      have HX9 : Hid (EcS w0 b bx m vs (O.length + l.length + 0) wr) := ⟨HX.out.c, HX.out.box, HX.out.bel, fun h => by
        have := HX.out.sm h
        omega⟩
      clear CK
      go_wp2_with fail
      go_loopw [5] (fun vi wr => ∃ (j : Nat) (m : Int), j ≤ pts.length ∧ vi = .int .i64 (j : Int) ∧ -1000000000000000 ≤ m ∧ m ≤ 8192 ∧ Hid (EcS w0 b bx m vs (O.length + l.length + j) wr)) (fun vi _ => pts.length - (intOf vi).toNat)
      case atStart => exact ⟨0, m, Nat.zero_le _, rfl, hm1, hm2, HX9.out⟩
      case round =>
        clear HX9 HX hm1 hm2 z4
        obtain ⟨j, m, hj, rfl, hm1, hm2, HX⟩ := hrel
        rename World => wr
        have z5 := HX.out.box.2.1 5 _ HVS.out.2.2
        have CK : Hid (Calls Try.prog 22 #[.pointer (some ⟨b, 0, none⟩)] wr fun e w' => e = .returned (.bool (decide (0 ≤ m))) ∧ w' = wr) := ok_any b m wr HX.out.c
        by_cases hlj : j < pts.length
        · have q3 : (j : Int) < (pts.length : Int) := by omega
          by_cases h0 : 0 ≤ m
          · have CK3 : Hid (Calls Try.prog 22 #[.pointer (some ⟨b, 0, none⟩)] wr fun e w' => e = .returned (.bool true) ∧ w' = wr) := by
              have := CK.out
              rw [decide_eq_true h0] at this
              exact this
            clear CK
            obtain ⟨s, hs⟩ : ∃ s, pts[j]? = some s := ⟨_, List.getElem?_eq_getElem hlj⟩
            obtain ⟨c9, off, e9, hb9, hc⟩ := (HA.out.2.1.below HX.out.bel).cell hs
            have c0 := hc 0 _ rfl
            rw [show off + j * kT.size + 0 = off + j by show off + j * 1 + 0 = _; omega] at c0
            change pa = _ at e9
            subst e9
            have hs1 := HA.out.2.2.2 s (List.mem_of_getElem? hs)
            have hs3 : (s.size : Int) ≤ 281474976710656 := by unfold Z48 at hs1; omega
            have CT : Hid (Calls Try.prog 35 #[.pointer (some ⟨b, 0, none⟩), .string s] wr fun e w' => e = .returned (.tuple #[]) ∧ Zb w' b [.int .i64 (cnt m (1 + (s.size : Int)))] ∧ Only b wr w') := text_any b m s wr HX.out.c (by omega) hs1
            clear hc hs
            go_wp2_with (first
              | (go_at_call 22; go_loud (refine CK3.out.mono ?_; rintro e w1 ⟨rfl, hw⟩; have hw := hw.symm; subst hw))
              | (go_at_call 35; go_loud (refine CT.out.mono ?_; rintro e w2 ⟨rfl, hz2, ho2⟩; have HX2 : Hid (EcS w0 b bx (cnt m (1 + (s.size : Int))) vs (O.length + l.length + (j + 1)) w2) := HX.out.step hbb hbne (by omega) (by omega) hz2 ho2; clear hz2 ho2)))
            go_roundw
            case rel => exact ⟨j + 1, _, by omega, by go_num, cnt_ge (by omega) (by omega), Int.le_trans (cnt_le (by omega)) hm2, HX2.out⟩
            case measure => simp [intOf]; omega
          · have CK3 : Hid (Calls Try.prog 22 #[.pointer (some ⟨b, 0, none⟩)] wr fun e w' => e = .returned (.bool false) ∧ w' = wr) := by
              have := CK.out
              rw [decide_eq_false h0] at this
              exact this
            clear CK
            go_wp2_with (go_at_call 22; go_loud (refine CK3.out.mono ?_; rintro e w1 ⟨rfl, hw⟩; have hw := hw.symm; subst hw))
            go_end0
            exact ⟨rfl, m, HX.out.c, HX.out.bel, fun h => absurd h (by omega)⟩
        · have q3 : ¬ (j : Int) < (pts.length : Int) := by omega
          have q4 : decide ((j : Int) < (pts.length : Int)) = false := decide_eq_false q3
          go_wp2_with fail
          go_end0
          exact ⟨rfl, m, HX.out.c, HX.out.bel, fun h => by
            have := HX.out.sm h
            omega⟩
/-- what small answers -/
def SmI (O : List Pc) (l : List Pi) (pts : List ByteArray) (w : World) (e : Ending) (w' : World) : Prop := ∃ bo : Bool, e = .returned (.bool bo) ∧ (bo = true → O.length + l.length + pts.length ≤ 8192) ∧ RowKit.Below w.heap.size w w'
set_option maxHeartbeats 1000000 in
theorem small_any (x y z : Value) (oa : Option Addr) (oc : Nat) (O : List Pc) (ia : Option Addr) (ic : Nat) (l : List Pi) (pa : Option Addr) (pc : Nat) (pts : List ByteArray) (w : World)
    (hl : Ls kPi w (ia, l.length, ic) l) (hp : Ls kT w (pa, pts.length, pc) pts) (hO : O.length ≤ Z48) (hll : l.length ≤ Z48) (hpl : pts.length ≤ Z48) (hls : ∀ p ∈ l, p.t.le.size ≤ Z48 ∧ p.t.gr.size ≤ Z48) (hps : ∀ p ∈ pts, p.size ≤ Z48) :
    Calls Try.prog 8 #[.agg #[x, y, z, .slice oa O.length oc, .slice ia l.length ic, .slice pa pts.length pc]] w fun e w' => SmI O l pts w e w' := by
  obtain ⟨W, hW⟩ : ∃ W, w.alloc (Obj.cells #[x, y, z, .slice oa O.length oc, .slice ia l.length ic, .slice pa pts.length pc] 38) = W := ⟨_, rfl⟩
  have HW : Hid (RowKit.Below w.heap.size w W ∧ Zb W w.heap.size [x, y, z, .slice oa O.length oc, .slice ia l.length ic, .slice pa pts.length pc]) := by
    rw [← hW]
    exact ⟨(Below.refl _ _).alloc (Nat.le_refl _) _, Zb.new _ _ _⟩
  obtain ⟨bx, hbx⟩ : ∃ b, w.heap.size = b := ⟨_, rfl⟩
  have CM : Hid (∀ W, Calls Try.prog 20 #[.int .i64 8192] W fun e w' => e = .returned (.pointer (some ⟨W.heap.size, 0, none⟩)) ∧ Zb w' W.heap.size [.int .i64 8192] ∧ RowKit.Below W.heap.size W w') := fun W => many_any 8192 W
  have CE : Hid (∀ b W, RowKit.Below w.heap.size w W → w.heap.size ≤ b → Zb W b [.int .i64 8192] → Calls Try.prog 21 #[.pointer (some ⟨b, 0, none⟩), .agg #[x, y, z, .slice oa O.length oc, .slice ia l.length ic, .slice pa pts.length pc]] W fun e w' => EcIs w b O l pts e w') := fun b W h1 h2 h3 => edit_c b x y z oa oc O ia ic l pa pc pts w W h1 h2 h3 hl hp hO hll hpl hls hps
  clear hl hp hO hll hpl hls hps
  go_enter Try.func8, Try.ntmps8
  go_upto_region 1 with fail
  (try rw [hW])
  (try rw [hbx])
  have HB : Hid (w.heap.size = bx) := hbx
  clear hW hbx
  go_upto_region 2 with (go_at_call 20; go_loud (refine (CM.out _).mono ?_; rintro e w1 ⟨rfl, hz1, hb1⟩; have HZ : Hid (Zb w1 W.heap.size [.int .i64 8192] ∧ RowKit.Below w.heap.size w w1 ∧ Zb w1 bx [x, y, z, .slice oa O.length oc, .slice ia l.length ic, .slice pa pts.length pc] ∧ w.heap.size ≤ W.heap.size) := ⟨hz1, HW.out.1.trans (hb1.mono HW.out.1.size), by rw [← HB.out]; exact HW.out.2.below hb1, HW.out.1.size⟩; clear hz1 hb1))
  generalize W.heap.size = bc at HZ
  have z0 := HZ.out.2.2.1.2.1 0 _ rfl
  have z1 := HZ.out.2.2.1.2.1 1 _ rfl
  have z2 := HZ.out.2.2.1.2.1 2 _ rfl
  have z3 := HZ.out.2.2.1.2.1 3 _ rfl
  have z4 := HZ.out.2.2.1.2.1 4 _ rfl
  have z5 := HZ.out.2.2.1.2.1 5 _ rfl
  go_upto_region 3 with (go_at_call 21; go_loud (refine (CE.out bc w1 HZ.out.2.1 HZ.out.2.2.2 HZ.out.1).mono ?_; rintro e w2 ⟨rfl, m, hz2, hb2, hs2⟩; have HX : Hid (Zb w2 bc [.int .i64 m] ∧ RowKit.Below w.heap.size w w2 ∧ (0 ≤ m → O.length + l.length + pts.length ≤ 8192)) := ⟨hz2, hb2, hs2⟩; clear hz2 hb2 hs2))
  have CK : Hid (Calls Try.prog 22 #[.pointer (some ⟨bc, 0, none⟩)] w2 fun e w' => e = .returned (.bool (decide (0 ≤ m))) ∧ w' = w2) := ok_any bc m w2 HX.out.1
  go_wp2_with (go_at_call 22; go_loud (refine CK.out.mono ?_; rintro e w3 ⟨rfl, hw⟩; have hw := hw.symm; subst hw))
  go_ret
  exact ⟨_, rfl, fun h => HX.out.2.2 (by simpa using h), HX.out.2.1⟩
end Vr
end Go.Proofs.Ytecgecolghgjoaa
