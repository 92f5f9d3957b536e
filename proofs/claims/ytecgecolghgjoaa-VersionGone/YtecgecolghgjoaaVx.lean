import Derived.Test.YtecgecolghgjoaaVw
namespace Go.Proofs.Ytecgecolghgjoaa
namespace Vr
open Go.Shelf Go.RowKit Go.Lib Go.Sort Go.Maps Go.ChangeMaps Go.MapKept Laws Irw Crw
set_option linter.unusedVariables false
set_option linter.unusedSimpArgs false
set_option maxRecDepth 20000
theorem edit_sub {V V' : Lv} {l : List Pi} (h : edit V l = .ok V') : (∀ x, x ∈ nums V → x ∈ nums V') ∧ (NumOk V → PiOk l → NumOk V') := by
  unfold edit at h
  cases hb : bring V l with
  | error e => rw [hb] at h; cases h
  | ok V1 =>
    rw [hb] at h
    dsimp only at h
    split at h
    · cases h
    · cases h
      have key : ∀ {V V1 : Lv} {l : List Pi}, bring V l = .ok V1 → (∀ x, x ∈ V.flatten → x ∈ V1.flatten) ∧ (∀ x, x ∈ V1.flatten → x ∈ V.flatten ∨ ∃ p ∈ l, p.t = x) := by
        intro V V1 l
        induction l generalizing V with
        | nil => intro h; simp [bring] at h; subst h; exact ⟨fun _ h => h, fun _ h => .inl h⟩
        | cons p r ih =>
          intro h
          rw [bring_cons] at h
          split at h
          · rename_i h1
            split at h
            · cases h
            · split at h
              · cases h
              · have hp := flatten_modify V p.lv.toNat p.t (by omega)
                obtain ⟨i1, i2⟩ := ih h
                refine ⟨fun x hx => i1 x (hp.mem_iff.2 (List.mem_append_left _ hx)), fun x hx => ?_⟩
                rcases i2 x hx with hx | ⟨q, hq, e⟩
                · rcases List.mem_append.1 (hp.mem_iff.1 hx) with hx | hx
                  · exact .inl hx
                  · simp at hx
                    exact .inr ⟨p, by simp, hx.symm⟩
                · exact .inr ⟨q, by simp [hq], e⟩
          · cases h
      obtain ⟨k1, k2⟩ := key hb
      have hpo := flatten_ordered V1
      refine ⟨fun x hx => ?_, fun hn hp l' hl' t ht => ?_⟩
      · obtain ⟨t, ht, rfl⟩ := List.mem_map.1 hx
        exact List.mem_map_of_mem (hpo.mem_iff.2 (k1 t ht))
      · have ht' := hpo.mem_iff.1 (List.mem_flatten.2 ⟨l', hl', ht⟩)
        rcases k2 t ht' with h | ⟨p, hp', rfl⟩
        · obtain ⟨l'', h1, h2⟩ := List.mem_flatten.1 h
          exact hn l'' h1 t h2
        · exact hp p hp'
set_option maxHeartbeats 3000000 in
theorem clone_any (a : Option Addr) (n c : Nat) (pts : List ByteArray) (w : World) (h : Ls kT w (a, n, c) pts) (h1 : 1 ≤ n) (h5 : n ≤ 5) : Calls Try.prog 25 #[.slice a n c] w fun e w' => (∃ s : Sv, e = .returned (svV s)) ∧ RowKit.Below w.heap.size w w' := by
  have hn : n = pts.length := h.2.1
  obtain ⟨b, off, e, hr⟩ := h.1.at_ (by omega)
  change a = _ at e
  subst e
  have hcon := Any.slices_Clone_string Try.cloneS b off n c pts w (by omega) (by omega) (fun j hj => by
    have := hr.2 j _ (List.getElem?_eq_getElem hj) 0 _ rfl
    rw [show off + j * kT.size + 0 = off + j by show off + j * 1 + 0 = _; omega] at this
    rw [this]
    simp [List.getD, hj])
  change Calls Try.prog 25 _ _ _ at hcon
  refine hcon.mono ?_
  rintro e w' ⟨v', rfl, ho, _, hb⟩
  refine ⟨?_, hb⟩
  rcases ho.2 with ⟨e1, _⟩ | ⟨g, cap, cur, hv, _⟩
  · exact ⟨nS, by rw [e1]; rfl⟩
  · exact ⟨(some ⟨g, 0, none⟩, n, cap), by rw [hv]; rfl⟩
/-- what Apply answers -/
def ApIs (T : Nat → Nat) (w : World) (sb vb mb : Nat) (V : Lv) (l : List Pi) (e : Ending) (w' : World) : Prop :=
  match edit V l with
  | .error x => e = .returned (.tuple #[.slice none 0 0, .int .i64 x]) ∧ RowKit.Below w.heap.size w w'
  | .ok V' => e = .returned (.tuple #[.slice none 0 0, .int .i64 0]) ∧ (∃ nb, SAt T w' sb nb mb V') ∧ Goes (fun t => t = 1 ∨ t = 2) T w T w'
set_option maxHeartbeats 4000000 in
theorem apply_any {T : Nat → Nat} {w : World} {sb vb mb : Nat} {V : Lv} (x y z : Int) (ia : Option Addr) (ic : Nat) (pa : Option Addr) (pc : Nat) (l : List Pi) (pts : List ByteArray) (h : SAt T w sb vb mb V) (hz : ∀ b, w.heap.size ≤ b → T b = 0) (hn : NumOk V) (hh : Half V) (h2 : 2 ≤ V.length) (hsm : (nums V).length + l.length ≤ 3000000) (hl : Ls kPi w (ia, l.length, ic) l) (hp : PiOk l) (hpt : Isk kT T w (pa, V.length, pc) pts) :
    Calls Try.prog 9 #[.pointer (some ⟨sb, 0, none⟩), .agg #[.int .u64 x, .int .u64 y, .int .u64 z, .slice none 0 0, .slice ia l.length ic, .slice pa V.length pc]] w fun e w' => ApIs T w sb vb mb V l e w' := by
  have hv5 := h.ver.1.1
  obtain ⟨W, hW⟩ : ∃ W, w.alloc (Obj.cells #[.int .u64 x, .int .u64 y, .int .u64 z, .slice none 0 0, .slice ia l.length ic, .slice pa V.length pc] 38) = W := ⟨_, rfl⟩
  have HW : Hid (RowKit.Below w.heap.size w W ∧ Zb W w.heap.size [.int .u64 x, .int .u64 y, .int .u64 z, .slice none 0 0, .slice ia l.length ic, .slice pa V.length pc]) := by
    rw [← hW]
    exact ⟨(Below.refl _ _).alloc (Nat.le_refl _) _, Zb.new _ _ _⟩
  obtain ⟨ps, hbox⟩ := h.box
  have HA : Hid (SAt T w sb vb mb V ∧ (∀ b, w.heap.size ≤ b → T b = 0) ∧ NumOk V ∧ Half V ∧ Ls kPi w (ia, l.length, ic) l ∧ PiOk l ∧ Isk kT T w (pa, V.length, pc) pts ∧ Zb w sb [.pointer (some ⟨vb, 0, none⟩), .slice none 0 0, svV ps, .map (some mb)]) := ⟨h, hz, hn, hh, hl, hp, hpt, hbox⟩
  have c0 := (hbox.below HW.out.1).2.1 0 _ rfl
  have z5 := HW.out.2.2.1 5 _ rfl
  have HL : Hid (∀ d, Calls Try.prog 23 #[.pointer (some ⟨vb, 0, none⟩)] (W.drewN d) fun e w' => e = .returned (.int .i64 (V.length : Int)) ∧ w' = W.drewN d) := fun d => levels_any vb V (W.drewN d) (h.ver.at_.below (bl_dn HW.out.1 d))
  clear h hz hn hh hl hp hpt hbox
  go_enter Try.func9, Try.ntmps9
  go_upto_region 1 with (fail)
  (try rw [hW])
  obtain ⟨bx, hbx⟩ : ∃ b, w.heap.size = b := ⟨_, rfl⟩
  rw [hbx] at z5
  rw [hbx]
  have HBX : Hid (w.heap.size = bx) := hbx
  clear hW hbx
  go_wp2
  go_quiet ((go_at_call 23; exact Calls.quiet_of_same (HL.out _)))
  go_upto_region 4 with (fail)
  obtain ⟨W1, hW1⟩ : ∃ X, W.drewN nq = X := ⟨_, rfl⟩
  have HB1 : Hid (RowKit.Below w.heap.size w W1 ∧ Zb W1 bx [.int .u64 x, .int .u64 y, .int .u64 z, .slice none 0 0, .slice ia l.length ic, .slice pa V.length pc]) := by
    rw [← hW1, ← HBX.out]
    exact ⟨bl_dn HW.out.1 _, HW.out.2.below (bl_dn (Below.refl _ _) _)⟩
  rw [hW1]
  clear hW1 c0 z5 HL
  have y0 := HB1.out.2.2.1 0 _ rfl
  have y1 := HB1.out.2.2.1 1 _ rfl
  have y2 := HB1.out.2.2.1 2 _ rfl
  have y3 := HB1.out.2.2.1 3 _ rfl
  have y4 := HB1.out.2.2.1 4 _ rfl
  have y5 := HB1.out.2.2.1 5 _ rfl
  have HE := edited_any vb V W1 x y z ia ic pa V.length pc l (HA.out.1.ver.at_.below HB1.out.1) HA.out.2.2.1 HA.out.2.2.2.1 h2 hsm (HA.out.2.2.2.2.1.below HB1.out.1) HA.out.2.2.2.2.2.1
  cases hed : edit V l with
  | error er =>
    have HC : Hid (Calls Try.prog 24 #[.pointer (some ⟨vb, 0, none⟩), .agg #[.int .u64 x, .int .u64 y, .int .u64 z, .slice none 0 0, .slice ia l.length ic, .slice pa V.length pc]] W1 fun e w' => e = .returned (.tuple #[.pointer none, .int .i64 er]) ∧ er ≠ 0 ∧ RowKit.Below W1.heap.size W1 w') := HE.mono fun e w' hp => by
      unfold EdIs at hp; rw [hed] at hp; exact ⟨hp.2.1, hp.2.2, hp.1⟩
    have HED : Hid (edit V l = .error er) := hed
    clear HE hed
    go_wp2_with (go_at_call 24; go_loud (refine HC.out.mono ?_; rintro e w2 ⟨rfl, hne, hb2⟩; have HB2 : Hid (RowKit.Below W1.heap.size W1 w2) := hb2; clear hb2))
    go_ret2
    unfold ApIs
    rw [HED.out]
    exact ⟨rfl, HB1.out.1.trans (HB2.out.mono HB1.out.1.size)⟩
  | ok V' =>
    have HC : Hid (Calls Try.prog 24 #[.pointer (some ⟨vb, 0, none⟩), .agg #[.int .u64 x, .int .u64 y, .int .u64 z, .slice none 0 0, .slice ia l.length ic, .slice pa V.length pc]] W1 fun e w' => ∃ nb, e = .returned (.tuple #[.pointer (some ⟨nb, 0, none⟩), .int .i64 0]) ∧ VT (lowT W1.heap.size) w' nb V' ∧ RowKit.Below W1.heap.size W1 w') := HE.mono fun e w' hp => by
      unfold EdIs at hp; rw [hed] at hp
      obtain ⟨h1, nb, h3, h4⟩ := hp
      exact ⟨nb, h3, h4, h1⟩
    have HED : Hid (edit V l = .ok V') := hed
    clear HE hed
    go_upto_region 7 with (go_at_call 24; go_loud (refine HC.out.mono ?_; rintro e w2 ⟨nb, rfl, hv2, hb2⟩; have HB2 : Hid (RowKit.Below W1.heap.size W1 w2 ∧ VT (lowT W1.heap.size) w2 nb V') := ⟨hb2, hv2⟩; clear hb2 hv2))
    have HB3 : Hid (RowKit.Below w.heap.size w w2 ∧ Zb w2 bx [.int .u64 x, .int .u64 y, .int .u64 z, .slice none 0 0, .slice ia l.length ic, .slice pa V.length pc] ∧ Zb w2 sb [.pointer (some ⟨vb, 0, none⟩), .slice none 0 0, svV ps, .map (some mb)]) := by
      have hb := HB1.out.1.trans (HB2.out.1.mono HB1.out.1.size)
      exact ⟨hb, HB1.out.2.below HB2.out.1, HA.out.2.2.2.2.2.2.2.below hb⟩
    have HT : Hid (T sb = 1 ∧ T mb = 2 ∧ T bx = 0 ∧ VT T w2 nb V' ∧ vb ≠ nb) := by
      refine ⟨HA.out.1.ts, HA.out.1.tm, HA.out.2.1 bx (by rw [HBX.out]; exact Nat.le_refl _), HB2.out.2.re fun b hb h0 => HA.out.2.1 b (Nat.le_trans HB1.out.1.size (lowT_ge h0)), ?_⟩
      have h1 := HA.out.1.ver.at_.lt
      have h3 : W1.heap.size ≤ nb := lowT_ge HB2.out.2.2.1
      have h4 := HB1.out.1.size
      omega
    have g0 := HB3.out.2.2.2.1 0 _ rfl
    have g1 := HB3.out.2.2.2.2 0
    have HB4 : Hid (Zb (w2.setCell ⟨sb, 0, none⟩ (.pointer (some ⟨nb, 0, none⟩))) sb [.pointer (some ⟨nb, 0, none⟩), .slice none 0 0, svV ps, .map (some mb)] ∧ Zb (w2.setCell ⟨sb, 0, none⟩ (.pointer (some ⟨nb, 0, none⟩))) bx [.int .u64 x, .int .u64 y, .int .u64 z, .slice none 0 0, .slice ia l.length ic, .slice pa V.length pc] ∧ Goes (· = 1) T w T (w2.setCell ⟨sb, 0, none⟩ (.pointer (some ⟨nb, 0, none⟩))) ∧ Goes (· = 1) T w2 T (w2.setCell ⟨sb, 0, none⟩ (.pointer (some ⟨nb, 0, none⟩)))) := by
      have gs := Goes.setCell (t := (· = 1)) (T := T) (w := w2) (p := sb) (j := 0) (v := .pointer (some ⟨nb, 0, none⟩)) HT.out.1
      exact ⟨HB3.out.2.2.set 0 _, HB3.out.2.1.goes gs (by rw [HT.out.2.2.1]; decide), (Goes.below (t := (· = 1)) HB3.out.1).trans gs, gs⟩
    go_upto_region 8 with (fail)
    obtain ⟨w3, hw3⟩ : ∃ X, w2.setCell ⟨sb, 0, none⟩ (.pointer (some ⟨nb, 0, none⟩)) = X := ⟨_, rfl⟩
    rw [hw3] at HB4
    rw [hw3]
    clear hw3 g0 g1 y0 y1 y2 y3 y4 y5
    have f5 := HB4.out.2.1.2.1 5 _ rfl
    have HCL : Hid (Calls Try.prog 25 #[.slice pa V.length pc] w3 fun e w' => (∃ s : Sv, e = .returned (svV s)) ∧ RowKit.Below w3.heap.size w3 w') := clone_any pa V.length pc pts w3 (HA.out.2.2.2.2.2.2.1.goes HB4.out.2.2.1 (by decide)).ls (by omega) hv5
    go_upto_region 9 with (go_at_call 25; go_loud (refine HCL.out.mono ?_; rintro e w4 ⟨⟨⟨s1, s2, s3⟩, rfl⟩, hb4⟩; have HB5 : Hid (RowKit.Below w3.heap.size w3 w4 ∧ Zb w4 sb [.pointer (some ⟨nb, 0, none⟩), .slice none 0 0, svV ps, .map (some mb)]) := ⟨hb4, HB4.out.1.below hb4⟩; have k0 := HB5.out.2.2.1 2 _ rfl; have k1 := HB5.out.2.2.2 2; clear hb4; simp only [svV]))
    obtain ⟨w5, hw5⟩ : ∃ X, w4.setCell ⟨sb, 2, none⟩ (.slice s1 s2 s3) = X := ⟨_, rfl⟩
    have HG5 : Hid (Goes (· = 1) T w T w5 ∧ Goes (· = 1) T w2 T w5 ∧ Zb w5 sb [.pointer (some ⟨nb, 0, none⟩), .slice none 0 0, svV (s1, s2, s3), .map (some mb)]) := by
      have g4 := Goes.below (t := (· = 1)) (T := T) HB5.out.1
      have gs := Goes.setCell (t := (· = 1)) (T := T) (w := w4) (p := sb) (j := 2) (v := .slice s1 s2 s3) HT.out.1
      rw [← hw5]
      exact ⟨(HB4.out.2.2.1.trans g4).trans gs, (HB4.out.2.2.2.trans g4).trans gs, HB5.out.2.set 2 _⟩
    rw [hw5]
    clear hw5 k0 k1
    have HGN : Hid (Calls Try.prog 26 #[.pointer (some ⟨sb, 0, none⟩), .pointer (some ⟨vb, 0, none⟩)] w5 fun e w' => GnIs T w5 mb e w') := by
      obtain ⟨m, D, hm⟩ := HA.out.1.map
      have hs := edit_sub HED.out
      exact gone_none HT.out.1 HT.out.2.1 HG5.out.2.2 (HT.out.2.2.2.1.goes HG5.out.2.1 (by decide)) (HA.out.1.ver.goes HG5.out.1 (by decide)) (OwnM.block hm (HG5.out.1.block mb hm.lt (by rw [HT.out.2.1]; decide))) (hs.2 HA.out.2.2.1 HA.out.2.2.2.2.2.1) HT.out.2.2.2.2 hs.1
    go_wp2_with (go_at_call 26; go_loud (refine HGN.out.mono ?_; rintro e w6 ⟨rfl, hg6, hm6⟩; have HG6 : Hid (Goes (· = 2) T w5 T w6 ∧ ∃ m D, OwnM w6 mb m D) := ⟨hg6, hm6⟩; clear hg6 hm6))
    go_ret2
    unfold ApIs
    rw [HED.out]
    refine ⟨rfl, ⟨nb, HT.out.1, HT.out.2.1, ⟨_, HG5.out.2.2.goes HG6.out.1 (by rw [HT.out.1]; decide)⟩, (HT.out.2.2.2.1.goes HG5.out.2.1 (by decide)).goes HG6.out.1 (by decide), HG6.out.2⟩, (HG5.out.1.mono fun _ h => .inl h).trans (HG6.out.1.mono fun _ h => .inr h)⟩
end Vr
end Go.Proofs.Ytecgecolghgjoaa
