import Derived.Test.YtaejjpbpnedblaaGreatVv
import Derived.LaidEqlPtr
namespace Go.Proofs.YtaejjpbpnedblaaGreat
namespace Vr
open Go.Shelf Go.RowKit Go.Lib Go.Sort Go.Maps Go.ChangeMaps Go.MapKept Laws Irw Crw
set_option linter.unusedVariables false
set_option linter.unusedSimpArgs false
set_option maxRecDepth 20000
theorem infoVer : (Tryz.prog.info? 112).map (fun i => (i.zero, i.size, i.bytes)) = some (some (.agg #[.slice none 0 0]), 1, 24) := by kernel_rfl
/-- gone, where nothing has gone -/
def GnIs (T : Nat → Nat) (w : World) (mb : Nat) (e : Ending) (w' : World) : Prop := e = .returned (.slice none 0 0) ∧ Goes (· = 2) T w T w' ∧ ∃ m D, OwnM w' mb m D
set_option maxHeartbeats 4000000 in
theorem gone_none {T : Nat → Nat} {w : World} {sb vb nb mb m : Nat} {D : Dat} {ps : Sv} {V V' : Lv} (hts : T sb = 1) (htm : T mb = 2) (hbox : Zb w sb [.pointer (some ⟨nb, 0, none⟩), .slice none 0 0, svV ps, .map (some mb)]) (hv' : VT T w nb V') (hv : VT T w vb V) (hm : OwnM w mb m D) (hno : NumOk V') (hne : vb ≠ nb) (hsub : ∀ x, x ∈ nums V → x ∈ nums V') :
    Calls Tryz.prog 68 #[.pointer (some ⟨sb, 0, none⟩), .pointer (some ⟨vb, 0, none⟩)] w fun e w' => GnIs T w mb e w' := by
  have hlt : nb < w.heap.size := by obtain ⟨_, _, _, s, hz, _⟩ := hv'; exact hz.1
  have c0 := hbox.2.1 0 _ rfl
  have hpe : (binOp .eql 29 (.pointer (some ⟨vb, 0, none⟩)) (.pointer (some ⟨nb, 0, none⟩))).run Tryz.prog w = .ok (.bool false) w := by
    obtain ⟨_, _, ⟨c1, t1, k1⟩, _⟩ := hv
    obtain ⟨_, _, ⟨c2, t2, k2⟩, _⟩ := hv'
    obtain ⟨j, hj, _, hjs, _⟩ := info_parts infoVer
    exact run_eql_ptr_other w Tryz.underlying29 hj (by rw [hjs]; decide) (fun e => hne (by injection e)) k1 k2
  have HF : Hid (Calls Tryz.prog 93 #[.pointer (some ⟨sb, 0, none⟩), .pointer (some ⟨vb, 0, none⟩)] w fun e w' => e = .returned (.int .i64 (-1)) ∧ RowKit.Below w.heap.size w w') := find_nil sb vb _ _ _ w hbox
  have HA : Hid (T sb = 1 ∧ T mb = 2 ∧ Zb w sb [.pointer (some ⟨nb, 0, none⟩), .slice none 0 0, svV ps, .map (some mb)] ∧ VT T w nb V' ∧ VT T w vb V ∧ OwnM w mb m D ∧ NumOk V' ∧ (∀ x, x ∈ nums V → x ∈ nums V') ∧ NumOk V) := ⟨hts, htm, hbox, hv', hv, hm, hno, hsub, fun l hl t ht => by
    obtain ⟨t', ht', e⟩ := List.mem_map.1 (hsub _ (mem_nums hl ht))
    obtain ⟨l', hl', ht''⟩ := List.mem_flatten.1 ht'
    rw [← e]
    exact hno l' hl' t' ht''⟩
  clear hts htm hbox hv' hv hm hno hsub
  go_enter Tryz.func68, Tryz.ntmps68
  go_upto_region 3 with (go_at_call 93; go_loud (refine HF.out.mono ?_; rintro e w1 ⟨rfl, hb1⟩; have HB1 : Hid (RowKit.Below w.heap.size w w1) := hb1; clear hb1))
  have HR : Hid (Calls Tryz.prog 94 #[.pointer (some ⟨sb, 0, none⟩)] w1 fun e w' => CtIs T w1 mb (nums V') e w') := by
    have hg := Goes.below (t := fun _ => False) (T := T) HB1.out
    exact recount_any HA.out.1 HA.out.2.1 (HA.out.2.2.1.below HB1.out) (HA.out.2.2.2.1.goes hg (fun z => z)) (HA.out.2.2.2.2.2.1.block (HB1.out.block mb HA.out.2.2.2.2.2.1.lt)) HA.out.2.2.2.2.2.2.1
  go_upto_region 4 with (go_at_call 94; go_loud (refine HR.out.mono ?_; rintro e w2 ⟨rfl, hg2, hc2⟩; have HX : Hid (Goes (· = 2) T w T w2 ∧ CAt T w2 2 mb (nums V')) := ⟨(Goes.below (t := (· = 2)) HB1.out).trans hg2, hc2⟩; clear hg2 hc2))
  clear HR HF c0 HB1
  obtain ⟨hf, hvt, _, ⟨sa, sn, sc⟩, hz, hlv⟩ := HA.out.2.2.2.2.1
  have hn := hlv.1
  change sn = V.length at hn
  subst hn
  have hv5 := hf.1
  have c0 := (hz.goes HX.out.1 (by rw [hvt]; decide)).2.1 0 _ rfl
  simp only [svV] at c0
  have HV : Hid (LvT T w (sa, V.length, sc) V ∧ Fits V) := ⟨hlv, hf⟩
  clear hlv hf hz hvt
  go_wp2
  go_loopw [5, 29] (fun o i wr => ∃ k : Nat, k ≤ V.length ∧ o = .slice none 0 0 ∧ i = .int .i64 (k : Int) ∧ Hid (Goes (· = 2) T w T wr ∧ CAt T wr 2 mb (nums V'))) (fun _ i _ => V.length - (intOf i).toNat)
  case atStart => exact ⟨0, Nat.zero_le _, rfl, rfl, HX.out⟩
  case round =>
    clear HX c0
    obtain ⟨k, hk, rfl, rfl, HX⟩ := hrel
    rename World => wr
    by_cases hlt : k < V.length
    · have q1 : (k : Int) < (V.length : Int) := by omega
      obtain ⟨l, hl⟩ : ∃ l, V[k]? = some l := ⟨_, List.getElem?_eq_getElem hlt⟩
      obtain ⟨lb, off, rfl, hlb, htl, ⟨va, vn, vc⟩, hc, hi⟩ := HV.out.1.cell hl
      have hvn := hi.2.1
      change vn = l.length at hvn
      subst hvn
      have hc2 := (HX.out.1.cell hlb (by rw [htl]; decide)).trans hc
      simp only [svV] at hc2
      have HI : Hid (Isk kTb T w (va, l.length, vc) l ∧ V[k]? = some l) := ⟨hi, hl⟩
      have hll := HV.out.2.2 l (List.mem_of_getElem? hl)
      clear hc hi hl
      go_wp2
      go_loopw [5, 35] (fun o i wr => ∃ j : Nat, j ≤ l.length ∧ o = .slice none 0 0 ∧ i = .int .i64 (j : Int) ∧ Hid (Goes (· = 2) T w T wr ∧ CAt T wr 2 mb (nums V'))) (fun _ i _ => l.length - (intOf i).toNat)
      case atStart => exact ⟨0, Nat.zero_le _, rfl, rfl, HX.out⟩
      case round =>
        clear HX hc2
        obtain ⟨j, hj, rfl, rfl, HY⟩ := hrel
        rename World => wq
        by_cases hlj : j < l.length
        · have q2 : (j : Int) < (l.length : Int) := by omega
          obtain ⟨b, off2, rfl, hb, t, ht, y0, y1, y2, y3, y4, y5⟩ := (isk_goes2 HI.out.1 HY.out.1).ls.tb hlj
          have hb1 : RowKit.Below wq.heap.size wq (wq.alloc (Obj.cells #[.int .u64 (t.no : Int), .int .i64 t.we, .int .i64 t.by_, .int .i64 t.en, .string t.le, .string t.gr] 76)) := (Below.refl _ _).alloc (Nat.le_refl _) _
          have hml := List.mem_of_getElem? HI.out.2
          have hmt := List.mem_of_getElem? ht
          have htn : t.no < U64 := HA.out.2.2.2.2.2.2.2.2 l hml t hmt
          have x0 := ((HA.out.2.2.1.goes HY.out.1 (by rw [HA.out.1]; decide)).below hb1).2.1 3 _ rfl
          have hlk := (HY.out.2.below hb1.drew).look t.no htn
          have hpos : 0 < (nums V').count t.no := List.count_pos_iff.2 (HA.out.2.2.2.2.2.2.2.1 _ (mem_nums hml hmt))
          obtain ⟨q, hq⟩ : ∃ q, (nums V').count t.no = q := ⟨_, rfl⟩
          rw [hq] at hlk hpos
          have q3 : ¬ (q : Int) = 0 := by omega
          have q4 : ((q : Int) == 0) = false := by simpa using q3
          clear hq
          go_wp2
          go_region
          all_goals
            go_wp2
            go_roundw
            case rel => exact ⟨j + 1, by omega, rfl, by go_num, HY.out.1.trans (Goes.below (t := (· = 2)) hb1.drew), HY.out.2.below hb1.drew⟩
            case measure => simp [intOf]; omega
        · have q2 : ¬ (j : Int) < (l.length : Int) := by omega
          go_wp2
          go_roundw
          case rel => exact ⟨k + 1, by omega, rfl, by go_num, HY.out⟩
          case measure => simp [intOf]; omega
    · have q1 : ¬ (k : Int) < (V.length : Int) := by omega
      go_wp2_with (go_at_call 95; go_loud (refine (sort64_nil _).mono ?_; rintro e w9 ⟨rfl, hw⟩; have hw := hw.symm; subst hw))
      go_ret
      obtain ⟨m', D', h1, _⟩ := HX.out.2.own
      exact ⟨rfl, HX.out.1, m', D', h1⟩
end Vr
end Go.Proofs.YtaejjpbpnedblaaGreat
namespace Go.Proofs.YtaejjpbpnedblaaGreat
namespace Vr
open Go.Shelf Go.RowKit Go.Lib Go.Sort Go.Maps Go.ChangeMaps Go.MapKept Laws Irw Crw
set_option linter.unusedVariables false
set_option linter.unusedSimpArgs false
set_option maxRecDepth 20000
theorem edit_sub {V V' : Lv} {l : List Pi} (h : edit V l = .ok V') : (∀ x, x ∈ nums V → x ∈ nums V') ∧ (NumOk V → PiOk l → NumOk V') := by
  unfold edit at h
  cases hb : bring V l with
  | error e => rw [hb] at h; cases h
  | ok V1 =>
    rw [hb] at h
    dsimp only at h
    split at h
    · cases h
    · cases h
      have key : ∀ {V V1 : Lv} {l : List Pi}, bring V l = .ok V1 → (∀ x, x ∈ V.flatten → x ∈ V1.flatten) ∧ (∀ x, x ∈ V1.flatten → x ∈ V.flatten ∨ ∃ p ∈ l, p.t = x) := by
        intro V V1 l
        induction l generalizing V with
        | nil => intro h; simp [bring] at h; subst h; exact ⟨fun _ h => h, fun _ h => .inl h⟩
        | cons p r ih =>
          intro h
          rw [bring_cons] at h
          split at h
          · rename_i h1
            split at h
            · cases h
            · split at h
              · cases h
              · have hp := flatten_modify V p.lv.toNat p.t (by omega)
                obtain ⟨i1, i2⟩ := ih h
                refine ⟨fun x hx => i1 x (hp.mem_iff.2 (List.mem_append_left _ hx)), fun x hx => ?_⟩
                rcases i2 x hx with hx | ⟨q, hq, e⟩
                · rcases List.mem_append.1 (hp.mem_iff.1 hx) with hx | hx
                  · exact .inl hx
                  · simp at hx
                    exact .inr ⟨p, by simp, hx.symm⟩
                · exact .inr ⟨q, by simp [hq], e⟩
          · cases h
      obtain ⟨k1, k2⟩ := key hb
      have hpo := flatten_ordered V1
      refine ⟨fun x hx => ?_, fun hn hp l' hl' t ht => ?_⟩
      · obtain ⟨t, ht, rfl⟩ := List.mem_map.1 hx
        exact List.mem_map_of_mem (hpo.mem_iff.2 (k1 t ht))
      · have ht' := hpo.mem_iff.1 (List.mem_flatten.2 ⟨l', hl', ht⟩)
        rcases k2 t ht' with h | ⟨p, hp', rfl⟩
        · obtain ⟨l'', h1, h2⟩ := List.mem_flatten.1 h
          exact hn l'' h1 t h2
        · exact hp p hp'
set_option maxHeartbeats 1000000 in
theorem clone_any (a : Option Addr) (n c : Nat) (pts : List ByteArray) (w : World) (h : Ls kT w (a, n, c) pts) (h1 : 1 ≤ n) (h5 : n ≤ 5) : Calls Tryz.prog 67 #[.slice a n c] w fun e w' => (∃ s : Sv, e = .returned (svV s)) ∧ RowKit.Below w.heap.size w w' := by
  have hn : n = pts.length := h.2.1
  obtain ⟨b, off, e, hr⟩ := h.1.at_ (by omega)
  change a = _ at e
  subst e
  have hcon := Any.slices_Clone_string Tryz.cloneS b off n c pts w (by omega) (by omega) (fun j hj => by
    have := hr.2 j _ (List.getElem?_eq_getElem hj) 0 _ rfl
    rw [show off + j * kT.size + 0 = off + j by show off + j * 1 + 0 = _; omega] at this
    rw [this]
    simp [List.getD, hj])
  change Calls Tryz.prog 67 _ _ _ at hcon
  refine hcon.mono ?_
  rintro e w' ⟨v', rfl, ho, _, hb⟩
  refine ⟨?_, hb⟩
  rcases ho.2 with ⟨e1, _⟩ | ⟨g, cap, cur, hv, _⟩
  · exact ⟨nS, by rw [e1]; rfl⟩
  · exact ⟨(some ⟨g, 0, none⟩, n, cap), by rw [hv]; rfl⟩
/-- what Apply answers -/
def ApIs (T : Nat → Nat) (w : World) (sb vb mb : Nat) (V : Lv) (l : List Pi) (e : Ending) (w' : World) : Prop :=
  match edit V l with
  | .error x => e = .returned (.tuple #[.slice none 0 0, .int .i64 x]) ∧ RowKit.Below w.heap.size w w'
  | .ok V' => e = .returned (.tuple #[.slice none 0 0, .int .i64 0]) ∧ (∃ nb, SAt T w' sb nb mb V') ∧ Goes (fun t => t = 1 ∨ t = 2) T w T w'
set_option maxHeartbeats 4000000 in
theorem apply_any {T : Nat → Nat} {w : World} {sb vb mb : Nat} {V : Lv} (x y z : Int) (ia : Option Addr) (ic : Nat) (pa : Option Addr) (pc : Nat) (l : List Pi) (pts : List ByteArray) (h : SAt T w sb vb mb V) (hz : ∀ b, w.heap.size ≤ b → T b = 0) (hn : NumOk V) (hh : Half V) (h2 : 2 ≤ V.length) (hsm : (nums V).length + l.length ≤ 1000000) (hl : Ls kPi w (ia, l.length, ic) l) (hp : PiOk l) (hpt : Isk kT T w (pa, V.length, pc) pts) :
    Calls Tryz.prog 27 #[.pointer (some ⟨sb, 0, none⟩), .agg #[.int .u64 x, .int .u64 y, .int .u64 z, .slice none 0 0, .slice ia l.length ic, .slice pa V.length pc]] w fun e w' => ApIs T w sb vb mb V l e w' := by
  have hv5 := h.ver.1.1
  obtain ⟨W, hW⟩ : ∃ W, w.alloc (Obj.cells #[.int .u64 x, .int .u64 y, .int .u64 z, .slice none 0 0, .slice ia l.length ic, .slice pa V.length pc] 84) = W := ⟨_, rfl⟩
  have HW : Hid (RowKit.Below w.heap.size w W ∧ Zb W w.heap.size [.int .u64 x, .int .u64 y, .int .u64 z, .slice none 0 0, .slice ia l.length ic, .slice pa V.length pc]) := by
    rw [← hW]
    exact ⟨(Below.refl _ _).alloc (Nat.le_refl _) _, Zb.new _ _ _⟩
  obtain ⟨ps, hbox⟩ := h.box
  have HA : Hid (SAt T w sb vb mb V ∧ (∀ b, w.heap.size ≤ b → T b = 0) ∧ NumOk V ∧ Half V ∧ Ls kPi w (ia, l.length, ic) l ∧ PiOk l ∧ Isk kT T w (pa, V.length, pc) pts ∧ Zb w sb [.pointer (some ⟨vb, 0, none⟩), .slice none 0 0, svV ps, .map (some mb)]) := ⟨h, hz, hn, hh, hl, hp, hpt, hbox⟩
  have c0 := (hbox.below HW.out.1).2.1 0 _ rfl
  have z5 := HW.out.2.2.1 5 _ rfl
  have HL : Hid (∀ d, Calls Tryz.prog 39 #[.pointer (some ⟨vb, 0, none⟩)] (W.drewN d) fun e w' => e = .returned (.int .i64 (V.length : Int)) ∧ w' = W.drewN d) := fun d => levels_any vb V (W.drewN d) (h.ver.at_.below (bl_dn HW.out.1 d))
  clear h hz hn hh hl hp hpt hbox
  go_enter Tryz.func27, Tryz.ntmps27
  go_upto_region 1 with (fail)
  (try rw [hW])
  obtain ⟨bx, hbx⟩ : ∃ b, w.heap.size = b := ⟨_, rfl⟩
  rw [hbx] at z5
  rw [hbx]
  have HBX : Hid (w.heap.size = bx) := hbx
  clear hW hbx
  go_wp2
  go_quiet ((go_at_call 39; exact Calls.quiet_of_same (HL.out _)))
  go_upto_region 4 with (fail)
  obtain ⟨W1, hW1⟩ : ∃ X, W.drewN nq = X := ⟨_, rfl⟩
  have HB1 : Hid (RowKit.Below w.heap.size w W1 ∧ Zb W1 bx [.int .u64 x, .int .u64 y, .int .u64 z, .slice none 0 0, .slice ia l.length ic, .slice pa V.length pc]) := by
    rw [← hW1, ← HBX.out]
    exact ⟨bl_dn HW.out.1 _, HW.out.2.below (bl_dn (Below.refl _ _) _)⟩
  rw [hW1]
  clear hW1 c0 z5 HL
  have y0 := HB1.out.2.2.1 0 _ rfl
  have y1 := HB1.out.2.2.1 1 _ rfl
  have y2 := HB1.out.2.2.1 2 _ rfl
  have y3 := HB1.out.2.2.1 3 _ rfl
  have y4 := HB1.out.2.2.1 4 _ rfl
  have y5 := HB1.out.2.2.1 5 _ rfl
  have HE := edited_any vb V W1 x y z ia ic pa V.length pc l (HA.out.1.ver.at_.below HB1.out.1) HA.out.2.2.1 HA.out.2.2.2.1 h2 hsm (HA.out.2.2.2.2.1.below HB1.out.1) HA.out.2.2.2.2.2.1
  cases hed : edit V l with
  | error er =>
    have HC : Hid (Calls Tryz.prog 66 #[.pointer (some ⟨vb, 0, none⟩), .agg #[.int .u64 x, .int .u64 y, .int .u64 z, .slice none 0 0, .slice ia l.length ic, .slice pa V.length pc]] W1 fun e w' => e = .returned (.tuple #[.pointer none, .int .i64 er]) ∧ er ≠ 0 ∧ RowKit.Below W1.heap.size W1 w') := HE.mono fun e w' hp => by
      unfold EdIs at hp; rw [hed] at hp; exact ⟨hp.2.1, hp.2.2, hp.1⟩
    have HED : Hid (edit V l = .error er) := hed
    clear HE hed
    go_wp2_with (go_at_call 66; go_loud (refine HC.out.mono ?_; rintro e w2 ⟨rfl, hne, hb2⟩; have HB2 : Hid (RowKit.Below W1.heap.size W1 w2) := hb2; clear hb2))
    go_ret2
    unfold ApIs
    rw [HED.out]
    exact ⟨rfl, HB1.out.1.trans (HB2.out.mono HB1.out.1.size)⟩
  | ok V' =>
    have HC : Hid (Calls Tryz.prog 66 #[.pointer (some ⟨vb, 0, none⟩), .agg #[.int .u64 x, .int .u64 y, .int .u64 z, .slice none 0 0, .slice ia l.length ic, .slice pa V.length pc]] W1 fun e w' => ∃ nb, e = .returned (.tuple #[.pointer (some ⟨nb, 0, none⟩), .int .i64 0]) ∧ VT (lowT W1.heap.size) w' nb V' ∧ RowKit.Below W1.heap.size W1 w') := HE.mono fun e w' hp => by
      unfold EdIs at hp; rw [hed] at hp
      obtain ⟨h1, nb, h3, h4⟩ := hp
      exact ⟨nb, h3, h4, h1⟩
    have HED : Hid (edit V l = .ok V') := hed
    clear HE hed
    go_upto_region 7 with (go_at_call 66; go_loud (refine HC.out.mono ?_; rintro e w2 ⟨nb, rfl, hv2, hb2⟩; have HB2 : Hid (RowKit.Below W1.heap.size W1 w2 ∧ VT (lowT W1.heap.size) w2 nb V') := ⟨hb2, hv2⟩; clear hb2 hv2))
    have HB3 : Hid (RowKit.Below w.heap.size w w2 ∧ Zb w2 bx [.int .u64 x, .int .u64 y, .int .u64 z, .slice none 0 0, .slice ia l.length ic, .slice pa V.length pc] ∧ Zb w2 sb [.pointer (some ⟨vb, 0, none⟩), .slice none 0 0, svV ps, .map (some mb)]) := by
      have hb := HB1.out.1.trans (HB2.out.1.mono HB1.out.1.size)
      exact ⟨hb, HB1.out.2.below HB2.out.1, HA.out.2.2.2.2.2.2.2.below hb⟩
    have HT : Hid (T sb = 1 ∧ T mb = 2 ∧ T bx = 0 ∧ VT T w2 nb V' ∧ vb ≠ nb) := by
      refine ⟨HA.out.1.ts, HA.out.1.tm, HA.out.2.1 bx (by rw [HBX.out]; exact Nat.le_refl _), HB2.out.2.re fun b hb h0 => HA.out.2.1 b (Nat.le_trans HB1.out.1.size (lowT_ge h0)), ?_⟩
      have h1 := HA.out.1.ver.at_.lt
      have h3 : W1.heap.size ≤ nb := lowT_ge HB2.out.2.2.1
      have h4 := HB1.out.1.size
      omega
    have g0 := HB3.out.2.2.2.1 0 _ rfl
    have g1 := HB3.out.2.2.2.2 0
    have HB4 : Hid (Zb (w2.setCell ⟨sb, 0, none⟩ (.pointer (some ⟨nb, 0, none⟩))) sb [.pointer (some ⟨nb, 0, none⟩), .slice none 0 0, svV ps, .map (some mb)] ∧ Zb (w2.setCell ⟨sb, 0, none⟩ (.pointer (some ⟨nb, 0, none⟩))) bx [.int .u64 x, .int .u64 y, .int .u64 z, .slice none 0 0, .slice ia l.length ic, .slice pa V.length pc] ∧ Goes (· = 1) T w T (w2.setCell ⟨sb, 0, none⟩ (.pointer (some ⟨nb, 0, none⟩))) ∧ Goes (· = 1) T w2 T (w2.setCell ⟨sb, 0, none⟩ (.pointer (some ⟨nb, 0, none⟩)))) := by
      have gs := Goes.setCell (t := (· = 1)) (T := T) (w := w2) (p := sb) (j := 0) (v := .pointer (some ⟨nb, 0, none⟩)) HT.out.1
      exact ⟨HB3.out.2.2.set 0 _, HB3.out.2.1.goes gs (by rw [HT.out.2.2.1]; decide), (Goes.below (t := (· = 1)) HB3.out.1).trans gs, gs⟩
    go_upto_region 8 with (fail)
    obtain ⟨w3, hw3⟩ : ∃ X, w2.setCell ⟨sb, 0, none⟩ (.pointer (some ⟨nb, 0, none⟩)) = X := ⟨_, rfl⟩
    rw [hw3] at HB4
    rw [hw3]
    clear hw3 g0 g1 y0 y1 y2 y3 y4 y5
    have f5 := HB4.out.2.1.2.1 5 _ rfl
    have HCL : Hid (Calls Tryz.prog 67 #[.slice pa V.length pc] w3 fun e w' => (∃ s : Sv, e = .returned (svV s)) ∧ RowKit.Below w3.heap.size w3 w') := clone_any pa V.length pc pts w3 (HA.out.2.2.2.2.2.2.1.goes HB4.out.2.2.1 (by decide)).ls (by omega) hv5
    go_upto_region 9 with (go_at_call 67; go_loud (refine HCL.out.mono ?_; rintro e w4 ⟨⟨⟨s1, s2, s3⟩, rfl⟩, hb4⟩; have HB5 : Hid (RowKit.Below w3.heap.size w3 w4 ∧ Zb w4 sb [.pointer (some ⟨nb, 0, none⟩), .slice none 0 0, svV ps, .map (some mb)]) := ⟨hb4, HB4.out.1.below hb4⟩; have k0 := HB5.out.2.2.1 2 _ rfl; have k1 := HB5.out.2.2.2 2; clear hb4; simp only [svV]))
    obtain ⟨w5, hw5⟩ : ∃ X, w4.setCell ⟨sb, 2, none⟩ (.slice s1 s2 s3) = X := ⟨_, rfl⟩
    have HG5 : Hid (Goes (· = 1) T w T w5 ∧ Goes (· = 1) T w2 T w5 ∧ Zb w5 sb [.pointer (some ⟨nb, 0, none⟩), .slice none 0 0, svV (s1, s2, s3), .map (some mb)]) := by
      have g4 := Goes.below (t := (· = 1)) (T := T) HB5.out.1
      have gs := Goes.setCell (t := (· = 1)) (T := T) (w := w4) (p := sb) (j := 2) (v := .slice s1 s2 s3) HT.out.1
      rw [← hw5]
      exact ⟨(HB4.out.2.2.1.trans g4).trans gs, (HB4.out.2.2.2.trans g4).trans gs, HB5.out.2.set 2 _⟩
    rw [hw5]
    clear hw5 k0 k1
    have HGN : Hid (Calls Tryz.prog 68 #[.pointer (some ⟨sb, 0, none⟩), .pointer (some ⟨vb, 0, none⟩)] w5 fun e w' => GnIs T w5 mb e w') := by
      obtain ⟨m, D, hm⟩ := HA.out.1.map
      have hs := edit_sub HED.out
      exact gone_none HT.out.1 HT.out.2.1 HG5.out.2.2 (HT.out.2.2.2.1.goes HG5.out.2.1 (by decide)) (HA.out.1.ver.goes HG5.out.1 (by decide)) (OwnM.block hm (HG5.out.1.block mb hm.lt (by rw [HT.out.2.1]; decide))) (hs.2 HA.out.2.2.1 HA.out.2.2.2.2.2.1) HT.out.2.2.2.2 hs.1
    go_wp2_with (go_at_call 68; go_loud (refine HGN.out.mono ?_; rintro e w6 ⟨rfl, hg6, hm6⟩; have HG6 : Hid (Goes (· = 2) T w5 T w6 ∧ ∃ m D, OwnM w6 mb m D) := ⟨hg6, hm6⟩; clear hg6 hm6))
    go_ret2
    unfold ApIs
    rw [HED.out]
    refine ⟨rfl, ⟨nb, HT.out.1, HT.out.2.1, ⟨_, HG5.out.2.2.goes HG6.out.1 (by rw [HT.out.1]; decide)⟩, (HT.out.2.2.2.1.goes HG5.out.2.1 (by decide)).goes HG6.out.1 (by decide), HG6.out.2⟩, (HG5.out.1.mono fun _ h => .inl h).trans (HG6.out.1.mono fun _ h => .inr h)⟩
end Vr
end Go.Proofs.YtaejjpbpnedblaaGreat
