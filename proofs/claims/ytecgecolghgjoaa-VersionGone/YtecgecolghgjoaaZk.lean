import Derived.Test.YtecgecolghgjoaaZi
namespace Go.Proofs.Ytecgecolghgjoaa
namespace Vr
open Go.Shelf Go.RowKit Go.Lib Go.Sort Go.Maps Go.ChangeMaps Go.MapKept Laws Irw Crw
set_option linter.unusedVariables false
set_option linter.unusedSimpArgs false
set_option maxRecDepth 20000
theorem edit_cnt {V V' : Lv} {l : List Pi} (h : edit V l = .ok V') : (nums V').length = (nums V).length + l.length := by
  unfold edit at h
  cases hb : bring V l with
  | error e => rw [hb] at h; cases h
  | ok V1 =>
    rw [hb] at h
    dsimp only at h
    split at h
    · cases h
    · cases h
      rw [ordered_cnt, bring_cnt hb]
/-- what an edit makes -/
structure E2F (V : Lv) (l : List Pi) (V' : Lv) : Prop where
  good : Good V'
  num : NumOk V'
  len : V'.length = V.length
  cnt : (nums V').length ≤ (nums V).length + l.length
theorem edit2_facts {V V' : Lv} {O : List Pc} {l : List Pi} (h : edit2 V O l = .ok V') (hh : Half V) (hn : NumOk V) (hp : PiOk l) : E2F V l V' := by
  unfold edit2 at h
  cases ht : takes V.length (prs V 0) O with
  | error e => rw [ht] at h; cases h
  | ok Q =>
    rw [ht] at h
    dsimp only at h
    refine ⟨edit_good (stay_half hh _) h, (edit_sub h).2 (stay_num hn _) hp, by rw [edit_len h, List.length_map], ?_⟩
    rw [edit_cnt h]
    have := stay_le V (Q.map Prod.fst)
    omega
/-- what Apply answers -/
def A2Is (T : Nat → Nat) (w : World) (sb vb mb : Nat) (V : Lv) (P : List Pn) (O : List Pc) (l : List Pi) (e : Ending) (w' : World) : Prop :=
  match edit2 V O l with
  | .error x => e = .returned (.tuple #[.slice none 0 0, .int .i64 x]) ∧ RowKit.Below w.heap.size w w' ∧ x ≠ 0
  | .ok V' => ∃ (nb : Nat) (s : Sv) (T' : Nat → Nat), e = .returned (.tuple #[svV s, .int .i64 0]) ∧ PAt T' w' sb nb mb V' P ∧ OwnK kU 7 T' w' (svV s) (goneL nb V' P vb V) ∧ Goes (fun t => t = 1 ∨ t = 2 ∨ t = 7) T w T' w' ∧ w.heap.size ≤ nb
theorem VT.lt {T : Nat → Nat} {w : World} {vb : Nat} {V : Lv} (h : VT T w vb V) : vb < w.heap.size := h.at_.lt
set_option maxHeartbeats 4000000 in
theorem apply2_any {T : Nat → Nat} {w : World} {sb vb mb : Nat} {V : Lv} {P : List Pn} (x y z : Int) (oa : Option Addr) (oc : Nat) (O : List Pc) (ia : Option Addr) (ic : Nat) (pa : Option Addr) (pc : Nat) (l : List Pi) (pts : List ByteArray) (h : PAt T w sb vb mb V P) (hsz : Sz V P) (hz : ∀ b, w.heap.size ≤ b → T b = 0) (hh : Half V) (h2 : 1 ≤ V.length) (hsm : (nums V).length + l.length ≤ 2500000) (hl : Ls kPi w (ia, l.length, ic) l) (hp : PiOk l) (hpt : Isk kT T w (pa, V.length, pc) pts) (hO : Ls kPc w (oa, O.length, oc) O) (hOn : ∀ p ∈ O, p.no < U64) (hol : O.length ≤ 3000000) :
    Calls Try.prog 9 #[.pointer (some ⟨sb, 0, none⟩), .agg #[.int .u64 x, .int .u64 y, .int .u64 z, .slice oa O.length oc, .slice ia l.length ic, .slice pa V.length pc]] w fun e w' => A2Is T w sb vb mb V P O l e w' := by
  have hv5 := h.ver.1.1
  obtain ⟨W, hW⟩ : ∃ W, w.alloc (Obj.cells #[.int .u64 x, .int .u64 y, .int .u64 z, .slice oa O.length oc, .slice ia l.length ic, .slice pa V.length pc] 38) = W := ⟨_, rfl⟩
  have HW : Hid (RowKit.Below w.heap.size w W ∧ Zb W w.heap.size [.int .u64 x, .int .u64 y, .int .u64 z, .slice oa O.length oc, .slice ia l.length ic, .slice pa V.length pc]) := by
    rw [← hW]
    exact ⟨(Below.refl _ _).alloc (Nat.le_refl _) _, Zb.new _ _ _⟩
  obtain ⟨pl, ps, hbox, hown⟩ := h.box
  have hn := hsz.num
  have HOO : Hid (Ls kPc w (oa, O.length, oc) O ∧ (∀ p ∈ O, p.no < U64) ∧ OwnK kPn 6 T w (svV pl) P ∧ Sz V P) := ⟨hO, hOn, hown, hsz⟩
  have HA : Hid (PAt T w sb vb mb V P ∧ (∀ b, w.heap.size ≤ b → T b = 0) ∧ NumOk V ∧ Half V ∧ Ls kPi w (ia, l.length, ic) l ∧ PiOk l ∧ Isk kT T w (pa, V.length, pc) pts ∧ Zb w sb [.pointer (some ⟨vb, 0, none⟩), svV pl, svV ps, .map (some mb)]) := ⟨h, hz, hn, hh, hl, hp, hpt, hbox⟩
  have c0 := (hbox.below HW.out.1).2.1 0 _ rfl
  have z5 := HW.out.2.2.1 5 _ rfl
  have HL : Hid (∀ d, Calls Try.prog 23 #[.pointer (some ⟨vb, 0, none⟩)] (W.drewN d) fun e w' => e = .returned (.int .i64 (V.length : Int)) ∧ w' = W.drewN d) := fun d => levels_any vb V (W.drewN d) (h.ver.at_.below (bl_dn HW.out.1 d))
  clear h hz hn hh hl hp hpt hbox hown hO hOn hsz
  go_enter Try.func9, Try.ntmps9
  go_upto_region 1 with (fail)
  (try rw [hW])
  obtain ⟨bx, hbx⟩ : ∃ b, w.heap.size = b := ⟨_, rfl⟩
  rw [hbx] at z5
  rw [hbx]
  have HBX : Hid (w.heap.size = bx) := hbx
  clear hW hbx
  go_wp2
  go_quiet ((go_at_call 23; exact Calls.quiet_of_same (HL.out _)))
  go_upto_region 4 with (fail)
  obtain ⟨W1, hW1⟩ : ∃ X, W.drewN nq = X := ⟨_, rfl⟩
  have HB1 : Hid (RowKit.Below w.heap.size w W1 ∧ Zb W1 bx [.int .u64 x, .int .u64 y, .int .u64 z, .slice oa O.length oc, .slice ia l.length ic, .slice pa V.length pc]) := by
    rw [← hW1, ← HBX.out]
    exact ⟨bl_dn HW.out.1 _, HW.out.2.below (bl_dn (Below.refl _ _) _)⟩
  rw [hW1]
  clear hW1 c0 z5 HL
  have y0 := HB1.out.2.2.1 0 _ rfl
  have y1 := HB1.out.2.2.1 1 _ rfl
  have y2 := HB1.out.2.2.1 2 _ rfl
  have y3 := HB1.out.2.2.1 3 _ rfl
  have y4 := HB1.out.2.2.1 4 _ rfl
  have y5 := HB1.out.2.2.1 5 _ rfl
  have HE := edited2_any vb V W1 x y z oa oc O ia ic pa V.length pc l (HA.out.1.ver.at_.below HB1.out.1) HA.out.2.2.1 HA.out.2.2.2.1 h2 (by omega) (HA.out.2.2.2.2.1.below HB1.out.1) HA.out.2.2.2.2.2.1 (HOO.out.1.below HB1.out.1) HOO.out.2.1 hol
  cases hed : edit2 V O l with
  | error er =>
    have HC : Hid (Calls Try.prog 24 #[.pointer (some ⟨vb, 0, none⟩), .agg #[.int .u64 x, .int .u64 y, .int .u64 z, .slice oa O.length oc, .slice ia l.length ic, .slice pa V.length pc]] W1 fun e w' => e = .returned (.tuple #[.pointer none, .int .i64 er]) ∧ er ≠ 0 ∧ RowKit.Below W1.heap.size W1 w') := HE.mono fun e w' hp => by
      unfold E2Is at hp; rw [hed] at hp; exact ⟨hp.2.1, hp.2.2, hp.1⟩
    have HED : Hid (edit2 V O l = .error er) := hed
    clear HE hed
    go_wp2_with (go_at_call 24; go_loud (refine HC.out.mono ?_; rintro e w2 ⟨rfl, hne, hb2⟩; have HB2 : Hid (RowKit.Below W1.heap.size W1 w2) := hb2; clear hb2))
    go_ret2
    unfold A2Is
    rw [HED.out]
    exact ⟨rfl, HB1.out.1.trans (HB2.out.mono HB1.out.1.size), hne⟩
  | ok V' =>
    have HC : Hid (Calls Try.prog 24 #[.pointer (some ⟨vb, 0, none⟩), .agg #[.int .u64 x, .int .u64 y, .int .u64 z, .slice oa O.length oc, .slice ia l.length ic, .slice pa V.length pc]] W1 fun e w' => ∃ nb, e = .returned (.tuple #[.pointer (some ⟨nb, 0, none⟩), .int .i64 0]) ∧ VT (lowT W1.heap.size) w' nb V' ∧ RowKit.Below W1.heap.size W1 w') := HE.mono fun e w' hp => by
      unfold E2Is at hp; rw [hed] at hp
      obtain ⟨h1, nb, h3, h4⟩ := hp
      exact ⟨nb, h3, h4, h1⟩
    have HED : Hid (edit2 V O l = .ok V') := hed
    clear HE hed
    go_upto_region 7 with (go_at_call 24; go_loud (refine HC.out.mono ?_; rintro e w2 ⟨nb, rfl, hv2, hb2⟩; have HB2 : Hid (RowKit.Below W1.heap.size W1 w2 ∧ VT (lowT W1.heap.size) w2 nb V') := ⟨hb2, hv2⟩; clear hb2 hv2))
    have HB3 : Hid (RowKit.Below w.heap.size w w2 ∧ Zb w2 bx [.int .u64 x, .int .u64 y, .int .u64 z, .slice oa O.length oc, .slice ia l.length ic, .slice pa V.length pc] ∧ Zb w2 sb [.pointer (some ⟨vb, 0, none⟩), svV pl, svV ps, .map (some mb)]) := by
      have hb := HB1.out.1.trans (HB2.out.1.mono HB1.out.1.size)
      exact ⟨hb, HB1.out.2.below HB2.out.1, HA.out.2.2.2.2.2.2.2.below hb⟩
    have HT : Hid (T sb = 1 ∧ T mb = 2 ∧ T bx = 0 ∧ VT T w2 nb V' ∧ vb ≠ nb) := by
      refine ⟨HA.out.1.ts, HA.out.1.tm, HA.out.2.1 bx (by rw [HBX.out]; exact Nat.le_refl _), HB2.out.2.re fun b hb h0 => HA.out.2.1 b (Nat.le_trans HB1.out.1.size (lowT_ge h0)), ?_⟩
      have h1 := HA.out.1.ver.at_.lt
      have h3 : W1.heap.size ≤ nb := lowT_ge HB2.out.2.2.1
      have h4 := HB1.out.1.size
      omega
    have g0 := HB3.out.2.2.2.1 0 _ rfl
    have g1 := HB3.out.2.2.2.2 0
    have HB4 : Hid (Zb (w2.setCell ⟨sb, 0, none⟩ (.pointer (some ⟨nb, 0, none⟩))) sb [.pointer (some ⟨nb, 0, none⟩), svV pl, svV ps, .map (some mb)] ∧ Zb (w2.setCell ⟨sb, 0, none⟩ (.pointer (some ⟨nb, 0, none⟩))) bx [.int .u64 x, .int .u64 y, .int .u64 z, .slice oa O.length oc, .slice ia l.length ic, .slice pa V.length pc] ∧ Goes (· = 1) T w T (w2.setCell ⟨sb, 0, none⟩ (.pointer (some ⟨nb, 0, none⟩))) ∧ Goes (· = 1) T w2 T (w2.setCell ⟨sb, 0, none⟩ (.pointer (some ⟨nb, 0, none⟩)))) := by
      have gs := Goes.setCell (t := (· = 1)) (T := T) (w := w2) (p := sb) (j := 0) (v := .pointer (some ⟨nb, 0, none⟩)) HT.out.1
      exact ⟨HB3.out.2.2.set 0 _, HB3.out.2.1.goes gs (by rw [HT.out.2.2.1]; decide), (Goes.below (t := (· = 1)) HB3.out.1).trans gs, gs⟩
    go_upto_region 8 with (fail)
    obtain ⟨w3, hw3⟩ : ∃ X, w2.setCell ⟨sb, 0, none⟩ (.pointer (some ⟨nb, 0, none⟩)) = X := ⟨_, rfl⟩
    rw [hw3] at HB4
    rw [hw3]
    clear hw3 g0 g1 y0 y1 y2 y3 y4 y5
    have f5 := HB4.out.2.1.2.1 5 _ rfl
    have HCL : Hid (Calls Try.prog 25 #[.slice pa V.length pc] w3 fun e w' => (∃ s : Sv, e = .returned (svV s)) ∧ RowKit.Below w3.heap.size w3 w') := clone_any pa V.length pc pts w3 (HA.out.2.2.2.2.2.2.1.goes HB4.out.2.2.1 (by decide)).ls (by omega) hv5
    go_upto_region 9 with (go_at_call 25; go_loud (refine HCL.out.mono ?_; rintro e w4 ⟨⟨⟨s1, s2, s3⟩, rfl⟩, hb4⟩; have HB5 : Hid (RowKit.Below w3.heap.size w3 w4 ∧ Zb w4 sb [.pointer (some ⟨nb, 0, none⟩), svV pl, svV ps, .map (some mb)]) := ⟨hb4, HB4.out.1.below hb4⟩; have k0 := HB5.out.2.2.1 2 _ rfl; have k1 := HB5.out.2.2.2 2; clear hb4; simp only [svV]))
    obtain ⟨w5, hw5⟩ : ∃ X, w4.setCell ⟨sb, 2, none⟩ (.slice s1 s2 s3) = X := ⟨_, rfl⟩
    have HG5 : Hid (Goes (· = 1) T w T w5 ∧ Goes (· = 1) T w2 T w5 ∧ Zb w5 sb [.pointer (some ⟨nb, 0, none⟩), svV pl, svV (s1, s2, s3), .map (some mb)]) := by
      have g4 := Goes.below (t := (· = 1)) (T := T) HB5.out.1
      have gs := Goes.setCell (t := (· = 1)) (T := T) (w := w4) (p := sb) (j := 2) (v := .slice s1 s2 s3) HT.out.1
      rw [← hw5]
      exact ⟨(HB4.out.2.2.1.trans g4).trans gs, (HB4.out.2.2.2.trans g4).trans gs, HB5.out.2.set 2 _⟩
    rw [hw5]
    clear hw5 k0 k1
    have hlow : w.heap.size ≤ nb := Nat.le_trans HB1.out.1.size (lowT_ge HB2.out.2.2.1)
    have EF := edit2_facts HED.out HA.out.2.2.2.1 HA.out.2.2.1 HA.out.2.2.2.2.2.1
    have HPA : Hid (PAt T w5 sb nb mb V' P ∧ Sz V' P) := by
      obtain ⟨m, D, hm⟩ := HA.out.1.map
      refine ⟨⟨HT.out.1, HT.out.2.1, ⟨pl, _, HG5.out.2.2, HOO.out.2.2.1.goes HG5.out.1 (by decide)⟩, HT.out.2.2.2.1.goes HG5.out.2.1 (by decide), fun p hp => (HA.out.1.pin p hp).goes HG5.out.1 (by decide), m, D, OwnM.block hm (HG5.out.1.block mb hm.lt (by rw [HT.out.2.1]; decide))⟩, EF.num, ?_, HOO.out.2.2.2.nums, HOO.out.2.2.2.pins⟩
      have := EF.cnt
      omega
    have HGN : Hid (Calls Try.prog 26 #[.pointer (some ⟨sb, 0, none⟩), .pointer (some ⟨vb, 0, none⟩)] w5 fun e w' => GzIs T w5 mb (goneL nb V' P vb V) e w') :=
      gone2_any HPA.out.1 HPA.out.2 (HA.out.1.ver.goes HG5.out.1 (by decide)) HA.out.2.2.1 HOO.out.2.2.2.len
    clear EF
    go_wp2_with (go_at_call 26; go_loud (refine HGN.out.mono ?_; rintro e w6 ⟨⟨q1, q2, q3⟩, T6, rfl, ho6, hg6, ht6, hm6⟩; have HG6 : Hid (Goes (fun t => t = 2 ∨ t = 7) T w5 T6 w6 ∧ (∃ m D, OwnM w6 mb m D) ∧ OwnK kU 7 T6 w6 (svV (q1, q2, q3)) (goneL nb V' P vb V) ∧ T6 mb = 2) := ⟨hg6, hm6, ho6, ht6⟩; clear hg6 hm6 ho6 ht6; simp only [svV]))
    go_ret2
    unfold A2Is
    rw [HED.out]
    obtain ⟨p1, p2, p3, p4⟩ := HPA.out.1.box
    have hsb : sb < w5.heap.size := p3.1
    refine ⟨nb, (q1, q2, q3), T6, rfl, ⟨(HG6.out.1.tag sb hsb (by rw [HT.out.1]; decide)).trans HT.out.1, HG6.out.2.2.2, ⟨p1, p2, p3.goes HG6.out.1 (by rw [HT.out.1]; decide), p4.goes HG6.out.1 (by decide)⟩, HPA.out.1.ver.goes HG6.out.1 (by decide), fun p hp => (HPA.out.1.pin p hp).goes HG6.out.1 (by decide), HG6.out.2.1⟩, HG6.out.2.2.1, (HG5.out.1.mono fun _ h => .inl h).trans (HG6.out.1.mono fun _ h => .inr h), hlow⟩
end Vr
end Go.Proofs.Ytecgecolghgjoaa
namespace Go.Proofs.Ytecgecolghgjoaa
namespace Vr
open Go.Shelf Go.RowKit Go.Lib Go.Sort Go.Maps Go.ChangeMaps Go.MapKept Laws Irw Crw
set_option linter.unusedVariables false
set_option linter.unusedSimpArgs false
set_option maxRecDepth 20000
theorem zeroPn (w : World) : (zeroValue 79).run Try.prog w = .ok (.agg #[.pointer none, .int .i64 0]) w := by kernel_rfl
/-- clear of one pin -/
theorem run_clearPn (w : World) (b o c : Nat) (hc : ∀ j, j < 2 → (w.cell? ⟨b, o + j, none⟩).isSome = true) (hf : ∀ j, j < 2 → w.frozen? ⟨b, o + j, none⟩ = false) (ty : TypeId) :
    (Builtin.clear_ #[67] ty #[.slice (some ⟨b, o, none⟩) 1 c]).run Try.prog w = .ok (.tuple #[]) (sets w b o [.pointer none, .int .i64 0]) := by
  have hzc : (Builtin.zeroCells (Value.agg #[.pointer none, .int .i64 0]).cells 1).toList = [.pointer none, .int .i64 0] := by
    show (Builtin.zeroCells #[.pointer none, .int .i64 0] 1).toList = _
    simp [Builtin.zeroCells]
    rfl
  have hst := run_storeCells_cells (P := Try.prog) b o [.pointer none, .int .i64 0] 0 w (by simpa using hc) (by simpa using hf) (by intro v hv; simp at hv; rcases hv with rfl | rfl <;> rfl)
  simp only [Nat.add_zero, setC_sets] at hst
  have hz := zeroPn w
  obtain ⟨z, hz2⟩ : ∃ z, (Value.agg #[.pointer none, .int .i64 0]) = z := ⟨_, rfl⟩
  rw [hz2] at hz hzc
  simp [Builtin.clear_, run_underlying Try.underlying67, hz, hzc, hst]
theorem erase_is {P : List Pn} {i : Nat} (h : i < P.length) : P.take i ++ P.drop (i + 1) = P.eraseIdx i := (List.eraseIdx_eq_take_drop_succ P i).symm
/-- the first part, with what lies behind the hole laid on -/
theorem app_fits {T : Nat → Nat} {w : World} {G k c i : Nat} {P : List Pn} (hk : P.length = k + 1) (h : OwnK kPn 6 T w (.slice (some ⟨G, 0, none⟩) (k + 1) c) P) (hi : i ≤ k) (a : Addr) (c2 : Nat) (ha : i < k → a = ⟨G, (i + 1) * 2, none⟩) :
    ∃ w', (∀ ty, (Builtin.append_ #[67, 67] ty #[.slice (some ⟨G, 0, none⟩) i c, .slice (some a) (k - i) c2]).run Try.prog w = .ok (.slice (some ⟨G, 0, none⟩) k c) w') ∧
      OwnK kPn 6 T w' (.slice (some ⟨G, 0, none⟩) k c) (P.eraseIdx i) ∧ Goes (· = 6) T w T w' := by
  obtain ⟨iz, hi0, hz0, hz1, hz2⟩ := info_parts infoPn
  have hG := h.2 G rfl
  have hcut := ownK_cut h (m := i) (by omega)
  have hlt : (P.take i).length = i := by rw [List.length_take]; omega
  have hsk := OwnK.sk (s := (some ⟨G, 0, none⟩, k + 1, c)) h
  have hkc : k + 1 ≤ c := by have := hsk.2.2.1; rw [hk] at this; exact this
  have h1 := hcut.1
  rw [hlt] at h1
  have hdl : (P.drop (i + 1)).length = k - i := by rw [List.length_drop]; omega
  obtain ⟨w', hr, ho, hg⟩ := run_append_fits (P := Try.prog) w 0 67 0 79 iz 2 Try.underlying67 hi0 hz1 G i c _ h1 a (k - i) c2 (kPn.cells (P.drop (i + 1))) (by rw [kPn.cells_length, hdl]; rfl) (fun j u hu => by
      have hj : j < (k - i) * 2 := by
        have := (List.getElem?_eq_some_iff.1 hu).1
        rw [kPn.cells_length, hdl] at this
        exact this
      have hik : i < k := by omega
      rw [ha hik]
      have hd : j / 2 < (P.drop (i + 1)).length := by rw [hdl]; omega
      have hq := kPn.cells_get (P.drop (i + 1)) (j / 2) _ (List.getElem?_eq_getElem hd) (j % 2) (Nat.mod_lt _ (by decide))
      rw [show j / 2 * kPn.size + j % 2 = j by show j / 2 * 2 + j % 2 = j; omega, hu] at hq
      have hd2 : P[i + 1 + j / 2]? = some ((P.drop (i + 1))[j / 2]) := by
        rw [← List.getElem?_drop, List.getElem?_eq_getElem hd]
      obtain ⟨b, off, e, _, hc⟩ := (Ls.own (s := (some ⟨G, 0, none⟩, k + 1, c)) h).cell hd2
      cases e
      have := hc (j % 2) u hq.symm
      rw [show 0 + (i + 1 + j / 2) * kPn.size + j % 2 = (i + 1) * 2 + j by show 0 + (i + 1 + j / 2) * 2 + j % 2 = (i + 1) * 2 + j; omega] at this
      rw [Addr.add_lit]
      exact this) (fun u hu => kPn.cells_one _ u hu) (by omega)
  have hik2 : i + (k - i) = k := by omega
  rw [hik2] at hr ho
  refine ⟨w', fun ty => hr, ⟨?_, h.2⟩, hg.os, hg.tape, hg.output, hg.size, fun b hb ht => hg.block b hb (fun e => ht (by cases e; exact hG)), fun _ _ _ => rfl, fun _ _ h => h⟩
  have hel : (P.eraseIdx i).length = k := by rw [List.length_eraseIdx_of_lt (by omega)]; omega
  rw [hel, ← erase_is (by omega), kPn.cells_append]
  exact ho
end Vr
end Go.Proofs.Ytecgecolghgjoaa
