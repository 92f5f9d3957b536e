import Derived.Test.YtjbnnhephagdmaaDoorMb2
namespace Go.Proofs.YtjbnnhephagdmaaDoor
namespace Mnf
open Go.RowKit CMath Byt Cod Crw Irw Laws
set_option linter.unusedVariables false
set_option linter.unusedSimpArgs false
set_option maxRecDepth 20000
/-- a list as it lies, wherever an empty one lies -/
def Lw {α : Type} (K : Knd α) (w : World) (s : Sv) (l : List α) : Prop := IsK K w s.1 l ∧ s.2.1 = l.length ∧ (s.1 = none → s.2.2 = 0) ∧ l.length ≤ s.2.2
theorem Lw.below {α : Type} {K : Knd α} {w w' : World} {s : Sv} {l : List α} (h : Lw K w s l) (hb : Below w.heap.size w w') : Lw K w' s l := ⟨h.1.below hb, h.2⟩
def EdAw (w : World) (v : Ev) (e : Ed) : Prop := (v.1 = e.log ∧ v.2.1 = e.nxt ∧ v.2.2.1 = e.seq) ∧ Lw kPl w v.2.2.2.1 e.out ∧ Lw kPd w v.2.2.2.2.1 e.inn ∧ Lw kT w v.2.2.2.2.2 e.ptr
theorem EdAw.below {w w' : World} {v : Ev} {e : Ed} (h : EdAw w v e) (hb : Below w.heap.size w w') : EdAw w' v e := ⟨h.1, h.2.1.below hb, h.2.2.1.below hb, h.2.2.2.below hb⟩
def EdsAw (w : World) (s : Sv) (es : List Ed) : Prop := ∃ vs : List Ev, vs.length = es.length ∧ s.2.1 = es.length ∧ (s.1 = none → s.2.2 = 0) ∧ es.length ≤ s.2.2 ∧ IsK kE w s.1 vs ∧ ∀ (j : Nat) v e, vs[j]? = some v → es[j]? = some e → EdAw w v e
theorem EdsAw.below {w w' : World} {s : Sv} {es : List Ed} (h : EdsAw w s es) (hb : Below w.heap.size w w') : EdsAw w' s es := by
  obtain ⟨vs, h1, h2, h2b, h2c, h3, h4⟩ := h
  exact ⟨vs, h1, h2, h2b, h2c, h3.below hb, fun j v e hv he => (h4 j v e hv he).below hb⟩
theorem eds_aw {w : World} {s : Sv} {es : List Ed} (h : EdsAw w s es) {k : Nat} {e : Ed} (hk : es[k]? = some e) : ∃ b off v, s.1 = some ⟨b, off, none⟩ ∧ b < w.heap.size ∧ (∀ j u, (kE.cs v)[j]? = some u → w.cell? ⟨b, off + k * 6 + j, none⟩ = some u) ∧ EdAw w v e := by
  obtain ⟨vs, h1, h2, h3, h4, h5, h6⟩ := h
  have hl : k < es.length := (List.getElem?_eq_some_iff.1 hk).1
  obtain ⟨b, off, e1, r⟩ := h5 (by rintro rfl; simp at h1; omega)
  have hv : vs[k]? = some (vs[k]'(by omega)) := List.getElem?_eq_getElem _
  exact ⟨b, off, _, e1, r.1, fun j u hu => r.2 k _ hv j u hu, h6 k _ e hv hk⟩
def bulkT (e : Ed) : Nat := 1 + e.out.length + e.inn.length + e.ptr.length
/-- while an edit is counted -/
def Ec (w0 : World) (C B : Nat) (vs : List Value) (x : Int) (m : Nat) (z : Int) (wr : World) : Prop := Zb wr B vs ∧ Ct C wr z ∧ (0 ≤ z → 0 ≤ x ∧ z + (m : Int) ≤ x) ∧ Below w0.heap.size w0 wr
theorem Ec.step {w0 wr w' : World} {C B m n : Nat} {vs : List Value} {x z : Int} (h : Ec w0 C B vs x m z wr) (hBC : B ≠ C) (hC : w0.heap.size ≤ C) (hz : ∃ z', Ct C w' z' ∧ (0 ≤ z' → 0 ≤ z ∧ z' = z - n) ∧ OnlyC C wr w') : ∃ z', Ec w0 C B vs x (m + n) z' w' := by
  obtain ⟨z', h1, h2, h3⟩ := hz
  refine ⟨z', h3.2 B vs hBC h.1, h1, fun h0 => ?_, h3.1 w0 hC h.2.2.2⟩
  have k1 := h2 h0
  have k2 := h.2.2.1 k1.1
  omega
theorem Ec.le {w0 wr : World} {C B m n : Nat} {vs : List Value} {x z : Int} (h : Ec w0 C B vs x m z wr) (hn : n ≤ m) : Ec w0 C B vs x n z wr := ⟨h.1, h.2.1, fun h0 => by have := h.2.2.1 h0; omega, h.2.2.2⟩
theorem Ec.neg {w0 wr : World} {C B m : Nat} {vs : List Value} {x z : Int} (h : Ec w0 C B vs x m z wr) (hz : ¬ 0 ≤ z) (n : Nat) : Ec w0 C B vs x n z wr := ⟨h.1, h.2.1, fun h0 => absurd h0 hz, h.2.2.2⟩
set_option maxHeartbeats 2000000 in
theorem edit_c (C : Nat) (w0 w : World) (x : Int) (ed : Ed) (lg nx sq : Nat) (o i p : Sv) (lo : Lw kPl w0 o ed.out) (li : Lw kPd w0 i ed.inn) (lp : Lw kT w0 p ed.ptr) (hz : o.2.1 ≤ 9223372036854775807 ∧ i.2.1 ≤ 9223372036854775807 ∧ p.2.1 ≤ 9223372036854775807) (hs : ∀ q ∈ ed.inn, q.le.size ≤ 9223372036854775807 ∧ q.gr.size ≤ 9223372036854775807) (hp : ∀ s ∈ ed.ptr, s.size ≤ 9223372036854775807) (h : Ct C w x) (hC : w0.heap.size ≤ C) (hb : Below w0.heap.size w0 w) :
    Calls Tryd.prog 31 #[.pointer (some ⟨C, 0, none⟩), evV lg nx sq o i p] w fun r w' => (∃ v, r = .returned v) ∧ ∃ z, Ct C w' z ∧ (0 ≤ z → 0 ≤ x ∧ z + (bulkT ed : Int) ≤ x) ∧ Below w0.heap.size w0 w' := by
  obtain ⟨oa, ol, oc⟩ := o
  obtain ⟨ia, il, ic⟩ := i
  obtain ⟨pa, pl, pc⟩ := p
  obtain ⟨hz1, hz2, hz3⟩ := hz
  dsimp only at hz1 hz2 hz3
  have HL : Hid (IsK kPl w0 oa ed.out ∧ IsK kPd w0 ia ed.inn ∧ IsK kT w0 pa ed.ptr ∧ ol = ed.out.length ∧ il = ed.inn.length ∧ pl = ed.ptr.length) := ⟨lo.1, li.1, lp.1, lo.2.1, li.2.1, lp.2.1⟩
  have HS : Hid ((∀ q ∈ ed.inn, q.le.size ≤ 9223372036854775807 ∧ q.gr.size ≤ 9223372036854775807) ∧ ∀ s ∈ ed.ptr, s.size ≤ 9223372036854775807) := ⟨hs, hp⟩
  have hBC : w.heap.size ≠ C := by have := h.1; omega
  have hb1 : Below w.heap.size w (w.alloc (.cells #[.int .u64 (lg : Int), .int .u64 (nx : Int), .int .u64 (sq : Int), .slice oa ol oc, .slice ia il ic, .slice pa pl pc] 34)) := (Below.refl _ _).alloc (Nat.le_refl _) _
  have HE0 : Hid (Ec w0 C w.heap.size [.int .u64 (lg : Int), .int .u64 (nx : Int), .int .u64 (sq : Int), .slice oa ol oc, .slice ia il ic, .slice pa pl pc] x 0 x (w.alloc (.cells #[.int .u64 (lg : Int), .int .u64 (nx : Int), .int .u64 (sq : Int), .slice oa ol oc, .slice ia il ic, .slice pa pl pc] 34))) := ⟨Zb.new w _ _, ⟨Nat.lt_of_lt_of_le h.1 hb1.size, (hb1.cell (p := ⟨C, 0, none⟩) h.1).trans h.2.1, (hb1.frozen (p := ⟨C, 0, none⟩) h.1).trans h.2.2.1, h.2.2.2⟩, fun h0 => ⟨h0, by omega⟩, bl_go hb hb1⟩
  clear lo li lp hs hp h hb hb1
  unfold evV
  dsimp only
  go_enter Tryd.func31, Tryd.ntmps31
  go_upto_region 1 with (fail)
  obtain ⟨W1, hW1⟩ : ∃ W, w.alloc (.cells #[.int .u64 (lg : Int), .int .u64 (nx : Int), .int .u64 (sq : Int), .slice oa ol oc, .slice ia il ic, .slice pa pl pc] 34) = W := ⟨_, rfl⟩
  rw [hW1] at HE0 ⊢
  clear hW1
  have a3 := HE0.out.1.2.1 3 _ rfl
  go_upto_region 2 with (go_at_call 46; refine (add_w C W1 x ol _ (by first | rfl | (rw [IntKind.wrap_i64]; omega) | (unfold wrap64; rw [IntKind.wrap_i64])) hz1 HE0.out.2.1).mono ?_; rintro r w2 ⟨⟨v2, rfl⟩, hz4⟩)
  obtain ⟨z2, h2⟩ := HE0.out.step hBC hC hz4
  have HX0 : Hid (Ec w0 C w.heap.size [.int .u64 (lg : Int), .int .u64 (nx : Int), .int .u64 (sq : Int), .slice oa ol oc, .slice ia il ic, .slice pa pl pc] x (1 + ol + 0) z2 w2) := h2.le (by omega)
  clear a3 hz4 h2 HE0
  go_wp2
  go_loopw [4] (fun j wr => ∃ (k : Nat) (z : Int), k ≤ il ∧ j = .int .i64 (k : Int) ∧ Hid (Ec w0 C w.heap.size [.int .u64 (lg : Int), .int .u64 (nx : Int), .int .u64 (sq : Int), .slice oa ol oc, .slice ia il ic, .slice pa pl pc] x (1 + ol + k) z wr)) (fun j _ => il - (intOf j).toNat)
  case atStart => exact ⟨0, z2, Nat.zero_le _, rfl, HX0.out⟩
  case round =>
    clear HX0
    obtain ⟨k, z, hk, rfl, HK⟩ := hrel
    rename World => wr
    have a4 := HK.out.1.2.1 4 _ rfl
    have x2 := HK.out.2.1.2.1
    by_cases hlt : k < il
    · have q1 : (k : Int) < (il : Int) := by omega
      by_cases hx0 : 0 ≤ z
      · have hkl : k < ed.inn.length := by rw [← HL.out.2.2.2.2.1]; exact hlt
        obtain ⟨b1, o1, rfl, c1, c2, c3, c4, c5, c6, c7⟩ := pd_at (HL.out.2.1.below HK.out.2.2.2) hkl
        have hsz := HS.out.1 _ (List.getElem_mem hkl)
        obtain ⟨X, hX⟩ : ∃ X, ed.inn[k] = X := ⟨_, rfl⟩
        have HPC : Hid (∀ W, Below w0.heap.size w0 W → W.cell? ⟨b1, o1 + k * 7 + 6, none⟩ = some (.string X.gr)) := fun W hW => by
          obtain ⟨b', o', e', _, _, _, _, _, _, d7⟩ := pd_at (HL.out.2.1.below hW) hkl
          cases e'
          rw [hX] at d7
          exact d7
        rw [hX] at c6 hsz
        have HTX : Hid (Calls Tryd.prog 54 #[.pointer (some ⟨C, 0, none⟩), .string X.le] wr fun r w' => CtIs C wr z (1 + X.le.size) r w') := text_w C wr z X.le hsz.1 HK.out.2.1
        have hgs := hsz.2
        clear c1 c2 c3 c4 c5 c7 hX hkl hsz
        go_wp2_with (first | (go_at_call 18; refine (ok_x C _ z true x2 (decide_eq_true hx0)).mono ?_; rintro r w3 ⟨rfl, rfl⟩) | (go_at_call 54; go_loud (refine HTX.out.mono ?_; rintro r w4 ⟨⟨v4, rfl⟩, hz4⟩; obtain ⟨z4, h4⟩ := HK.out.step hBC hC hz4; have HK4 : Hid (Ec w0 C w.heap.size _ x (1 + ol + k + (1 + X.le.size)) z4 w4) := h4; have a44 := HK4.out.1.2.1 4 _ rfl; have c64 := HPC.out w4 HK4.out.2.2.2; clear hz4 h4)) | (go_at_call 46; go_loud (refine (add_n C w4 z4 X.gr.size _ rfl hgs HK4.out.2.1).mono ?_; rintro r w5 ⟨⟨v5, rfl⟩, hz5⟩)))
        go_roundw
        case rel =>
          obtain ⟨z5, h5⟩ := HK4.out.step hBC hC hz5
          exact ⟨k + 1, z5, by omega, by go_num, h5.le (by omega)⟩
        case measure => simp [intOf]; omega
      · have HX : Hid (Ec w0 C w.heap.size [.int .u64 (lg : Int), .int .u64 (nx : Int), .int .u64 (sq : Int), .slice oa ol oc, .slice ia il ic, .slice pa pl pc] x (1 + ol + il + 0) z wr) := HK.out.neg (by omega) _
        clear HK
        go_wp2_with (go_at_call 18; refine (ok_x C _ z false x2 (decide_eq_false hx0)).mono ?_; rintro r w3 ⟨rfl, rfl⟩)
        (try go_wp2)
        go_loopw [5] (fun j wr => ∃ (k : Nat) (z : Int), k ≤ pl ∧ j = .int .i64 (k : Int) ∧ Hid (Ec w0 C w.heap.size [.int .u64 (lg : Int), .int .u64 (nx : Int), .int .u64 (sq : Int), .slice oa ol oc, .slice ia il ic, .slice pa pl pc] x (1 + ol + il + k) z wr)) (fun j _ => pl - (intOf j).toNat)
        case atStart => exact ⟨0, z, Nat.zero_le _, rfl, HX.out⟩
        case round =>
          clear HX
          obtain ⟨k, z, hk, rfl, HK⟩ := hrel
          rename World => wr
          have a5 := HK.out.1.2.1 5 _ rfl
          have x2 := HK.out.2.1.2.1
          by_cases hlt : k < pl
          · have q1 : (k : Int) < (pl : Int) := by omega
            by_cases hx0 : 0 ≤ z
            · have hkl : k < ed.ptr.length := by rw [← HL.out.2.2.2.2.2]; exact hlt
              obtain ⟨b1, o1, rfl, r1⟩ := (HL.out.2.2.1.below HK.out.2.2.2).at_ (by omega)
              have c1 := r1.2 k _ (List.getElem?_eq_getElem hkl) 0 _ rfl
              have e1 : o1 + k * kT.size + 0 = o1 + k := by show o1 + k * 1 + 0 = _; omega
              rw [e1] at c1
              have hsz := HS.out.2 _ (List.getElem_mem hkl)
              obtain ⟨s, hs⟩ : ∃ s, ed.ptr[k] = s := ⟨_, rfl⟩
              rw [hs] at c1 hsz
              have HTX : Hid (Calls Tryd.prog 54 #[.pointer (some ⟨C, 0, none⟩), .string s] wr fun r w' => CtIs C wr z (1 + s.size) r w') := text_w C wr z s hsz HK.out.2.1
              clear r1 e1 hs hkl hsz
              go_wp2_with (first | (go_at_call 18; refine (ok_x C _ z true x2 (decide_eq_true hx0)).mono ?_; rintro r w3 ⟨rfl, rfl⟩) | (go_at_call 54; refine HTX.out.mono ?_; rintro r w4 ⟨⟨v4, rfl⟩, hz4⟩))
              go_roundw
              case rel =>
                obtain ⟨z4, h4⟩ := HK.out.step hBC hC hz4
                exact ⟨k + 1, z4, by omega, by go_num, h4.le (by omega)⟩
              case measure => simp [intOf]; omega
            · go_wp2_with (go_at_call 18; refine (ok_x C _ z false x2 (decide_eq_false hx0)).mono ?_; rintro r w3 ⟨rfl, rfl⟩)
              go_end0
              exact ⟨⟨_, rfl⟩, z, HK.out.2.1, fun h => absurd h (by omega), HK.out.2.2.2⟩
          · obtain rfl : k = pl := by omega
            go_wp2
            go_end0
            refine ⟨⟨_, rfl⟩, z, HK.out.2.1, fun h => ?_, HK.out.2.2.2⟩
            have h1 := HK.out.2.2.1 h
            have h2 := HL.out.2.2.2
            refine ⟨h1.1, ?_⟩
            unfold bulkT
            have h3 : ed.ptr.length = k := h2.2.2.symm
            have h4 : ed.inn.length = il := h2.2.1.symm
            have h5 : ed.out.length = ol := h2.1.symm
            rw [h3, h4, h5]
            have := h1.2
            omega
    · have hki : k = il := by omega
      have q1 : ¬ (k : Int) < (il : Int) := by omega
      have HX : Hid (Ec w0 C w.heap.size [.int .u64 (lg : Int), .int .u64 (nx : Int), .int .u64 (sq : Int), .slice oa ol oc, .slice ia il ic, .slice pa pl pc] x (1 + ol + il + 0) z wr) := HK.out.le (by omega)
      clear HK hki
      go_wp2
      go_loopw [5] (fun j wr => ∃ (k : Nat) (z : Int), k ≤ pl ∧ j = .int .i64 (k : Int) ∧ Hid (Ec w0 C w.heap.size [.int .u64 (lg : Int), .int .u64 (nx : Int), .int .u64 (sq : Int), .slice oa ol oc, .slice ia il ic, .slice pa pl pc] x (1 + ol + il + k) z wr)) (fun j _ => pl - (intOf j).toNat)
      case atStart => exact ⟨0, z, Nat.zero_le _, rfl, HX.out⟩
      case round =>
        clear HX
        obtain ⟨k, z, hk, rfl, HK⟩ := hrel
        rename World => wr
        have a5 := HK.out.1.2.1 5 _ rfl
        have x2 := HK.out.2.1.2.1
        by_cases hlt : k < pl
        · have q1 : (k : Int) < (pl : Int) := by omega
          by_cases hx0 : 0 ≤ z
          · have hkl : k < ed.ptr.length := by rw [← HL.out.2.2.2.2.2]; exact hlt
            obtain ⟨b1, o1, rfl, r1⟩ := (HL.out.2.2.1.below HK.out.2.2.2).at_ (by omega)
            have c1 := r1.2 k _ (List.getElem?_eq_getElem hkl) 0 _ rfl
            have e1 : o1 + k * kT.size + 0 = o1 + k := by show o1 + k * 1 + 0 = _; omega
            rw [e1] at c1
            have hsz := HS.out.2 _ (List.getElem_mem hkl)
            obtain ⟨s, hs⟩ : ∃ s, ed.ptr[k] = s := ⟨_, rfl⟩
            rw [hs] at c1 hsz
            have HTX : Hid (Calls Tryd.prog 54 #[.pointer (some ⟨C, 0, none⟩), .string s] wr fun r w' => CtIs C wr z (1 + s.size) r w') := text_w C wr z s hsz HK.out.2.1
            clear r1 e1 hs hkl hsz
            go_wp2_with (first | (go_at_call 18; refine (ok_x C _ z true x2 (decide_eq_true hx0)).mono ?_; rintro r w3 ⟨rfl, rfl⟩) | (go_at_call 54; refine HTX.out.mono ?_; rintro r w4 ⟨⟨v4, rfl⟩, hz4⟩))
            go_roundw
            case rel =>
              obtain ⟨z4, h4⟩ := HK.out.step hBC hC hz4
              exact ⟨k + 1, z4, by omega, by go_num, h4.le (by omega)⟩
            case measure => simp [intOf]; omega
          · go_wp2_with (go_at_call 18; refine (ok_x C _ z false x2 (decide_eq_false hx0)).mono ?_; rintro r w3 ⟨rfl, rfl⟩)
            go_end0
            exact ⟨⟨_, rfl⟩, z, HK.out.2.1, fun h => absurd h (by omega), HK.out.2.2.2⟩
        · obtain rfl : k = pl := by omega
          go_wp2
          go_end0
          refine ⟨⟨_, rfl⟩, z, HK.out.2.1, fun h => ?_, HK.out.2.2.2⟩
          have h1 := HK.out.2.2.1 h
          have h2 := HL.out.2.2.2
          refine ⟨h1.1, ?_⟩
          unfold bulkT
          have h3 : ed.ptr.length = k := h2.2.2.symm
          have h4 : ed.inn.length = il := h2.2.1.symm
          have h5 : ed.out.length = ol := h2.1.symm
          rw [h3, h4, h5]
          have := h1.2
          omega
end Mnf
end Go.Proofs.YtjbnnhephagdmaaDoor
