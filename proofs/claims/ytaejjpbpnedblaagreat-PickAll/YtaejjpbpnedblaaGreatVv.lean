import Derived.Test.YtaejjpbpnedblaaGreatVs
import Derived.Shelf.Slices.Clone
import Derived.Ground.Names2Prog
namespace Go.Proofs.YtaejjpbpnedblaaGreat
namespace Vr
open Go.Shelf Go.RowKit Go.Lib Go.Sort Go.Maps Go.ChangeMaps Go.MapKept Laws Irw Crw
set_option linter.unusedVariables false
set_option linter.unusedSimpArgs false
set_option maxRecDepth 20000
theorem mem_nums {V : Lv} {l : List Tb} {t : Tb} (hl : l ∈ V) (ht : t ∈ l) : t.no ∈ nums V := List.mem_map_of_mem (List.mem_flatten.2 ⟨l, hl, ht⟩)
theorem fits_of {V : Lv} (h5 : V.length ≤ 5) (h : (nums V).length ≤ 1000000) : Fits V := ⟨h5, fun l hl => by
  obtain ⟨i, hi, rfl⟩ := List.getElem_of_mem hl
  exact Nat.le_trans (level_le (List.getElem?_eq_getElem hi)) h⟩
theorem bring_cnt : ∀ {V V' : Lv} {l : List Pi}, bring V l = .ok V' → (nums V').length = (nums V).length + l.length
  | V, V', [], h => by simp [bring] at h; rw [h]; rfl
  | V, V', p :: r, h => by
    rw [bring_cons] at h
    split at h
    · rename_i h1
      split at h
      · cases h
      · split at h
        · cases h
        · have := bring_cnt h
          rw [this, (nums_modify (by omega)).length_eq, List.length_append]
          simp
          omega
    · cases h
theorem ordered_cnt (V : Lv) : (nums (ordered V)).length = (nums V).length := ((flatten_ordered V).map Tb.no).length_eq
/-- what a draft has become -/
theorem DAt.ver {w0 : World} {T : Nat → Nat} {w : World} {db mb lb n c : Nat} {V : Lv} {ns : List Nat} (h : DAt w0 T w db mb (some ⟨lb, 0, none⟩, n, c) V ns) (hf : Fits V) (ty : TypeId) : VT (lowT w0.heap.size) (w.alloc (Obj.cells #[.slice (some ⟨lb, 0, none⟩) n c] ty)) w.heap.size V := by
  have hb1 : RowKit.Below w.heap.size w (w.alloc (Obj.cells #[.slice (some ⟨lb, 0, none⟩) n c] ty)) := (Below.refl _ _).alloc (Nat.le_refl _) _
  have hn := h.len
  have hlow : ∀ b, b < w.heap.size → T b ≠ 0 → lowT w0.heap.size b = 0 := fun b _ hT => lowT_of (by
    rcases Nat.lt_or_ge b w0.heap.size with hb | hb
    · exact absurd (h.old.zero b (.inl hb)) hT
    · exact hb)
  obtain ⟨vs, l1, l2, l3⟩ := h.lvl
  have key : ∀ {α : Type} {K : Knd α} {s : Sv} {x : List α} {t : Nat}, t ≠ 0 → OwnK K t T w (svV s) x → Isk K (lowT w0.heap.size) (w.alloc (Obj.cells #[.slice (some ⟨lb, 0, none⟩) n c] ty)) s x := by
    intro α K s x u hu ho
    obtain ⟨o1, o2, o3, o4, o5, o6⟩ := OwnK.sk ho
    refine ⟨o2.below hb1, o1, o4, o3, o5, fun b off e => ?_⟩
    obtain ⟨q1, q2⟩ := o6 b off e
    exact ⟨hlow b q2 (by rw [q1]; exact hu), Nat.lt_of_lt_of_le q2 hb1.size⟩
  refine ⟨hf, lowT_of h.old.below.size, ⟨#[.slice (some ⟨lb, 0, none⟩) n c], ty, by show (w.heap.push _)[w.heap.size]? = _; rw [Array.getElem?_push, if_pos rfl]⟩, (some ⟨lb, 0, none⟩, n, c), Zb.new w #[.slice (some ⟨lb, 0, none⟩) n c] ty, hn, vs, l2, key (by omega) l1, fun i v l hv hl => key (by omega) (l3 i v l hv hl)⟩
/-- what edited answers -/
def EdIs (w : World) (V : Lv) (l : List Pi) (e : Ending) (w' : World) : Prop := RowKit.Below w.heap.size w w' ∧
  match edit V l with
  | .error x => e = .returned (.tuple #[.pointer none, .int .i64 x]) ∧ x ≠ 0
  | .ok V' => ∃ nb, e = .returned (.tuple #[.pointer (some ⟨nb, 0, none⟩), .int .i64 0]) ∧ VT (lowT w.heap.size) w' nb V'
theorem edit_bring {V : Lv} {l : List Pi} {x : Int} (h : bring V l = .error x) : edit V l = .error x := by
  unfold edit; rw [h]
theorem edit_order {V V1 : Lv} {l : List Pi} (h : bring V l = .ok V1) (ho : ((V1.drop 1).map srt).any ovl = true) : edit V l = .error eOrder := by
  unfold edit; rw [h]; dsimp only; rw [if_pos ho]
theorem edit_ok {V V1 : Lv} {l : List Pi} (h : bring V l = .ok V1) (ho : ¬ ((V1.drop 1).map srt).any ovl = true) : edit V l = .ok (ordered V1) := by
  unfold edit; rw [h]; dsimp only; rw [if_neg ho]
theorem bring_ne0 : ∀ {V : Lv} {l : List Pi} {x : Int}, bring V l = .error x → x ≠ 0
  | V, [], x, h => by simp [bring] at h
  | V, p :: r, x, h => by
    rw [bring_cons] at h
    split at h
    · split at h
      · cases h; decide
      · split at h
        · cases h; decide
        · exact bring_ne0 h
    · cases h; decide
set_option maxHeartbeats 4000000 in
theorem edited_any (vb : Nat) (V : Lv) (w : World) (x y z : Int) (ia : Option Addr) (ic : Nat) (pa : Option Addr) (pl pc : Nat) (l : List Pi) (h : VAt w vb V) (hn : NumOk V) (hh : Half V) (h2 : 2 ≤ V.length) (hsm : (nums V).length + l.length ≤ 1000000) (hl : Ls kPi w (ia, l.length, ic) l) (hp : PiOk l) :
    Calls Tryz.prog 66 #[.pointer (some ⟨vb, 0, none⟩), .agg #[.int .u64 x, .int .u64 y, .int .u64 z, .slice none 0 0, .slice ia l.length ic, .slice pa pl pc]] w fun e w' => EdIs w V l e w' := by
  obtain ⟨W, hW⟩ : ∃ W, w.alloc (Obj.cells #[.int .u64 x, .int .u64 y, .int .u64 z, .slice none 0 0, .slice ia l.length ic, .slice pa pl pc] 84) = W := ⟨_, rfl⟩
  have HW : Hid (RowKit.Below w.heap.size w W ∧ Zb W w.heap.size [.int .u64 x, .int .u64 y, .int .u64 z, .slice none 0 0, .slice ia l.length ic, .slice pa pl pc]) := by
    rw [← hW]
    exact ⟨(Below.refl _ _).alloc (Nat.le_refl _) _, Zb.new _ _ _⟩
  have HV : Hid (VAt w vb V ∧ NumOk V ∧ Half V ∧ V.length ≤ 5 ∧ Ls kPi w (ia, l.length, ic) l ∧ PiOk l) := ⟨h, hn, hh, h.1.1, hl, hp⟩
  have hv5 := h.1.1
  have HC : Hid (Calls Tryz.prog 89 #[.pointer (some ⟨vb, 0, none⟩)] W fun e w' => DrIs W V e w') := draft_any vb V W (h.below HW.out.1) hn
  clear h hn hh hl hp
  go_enter Tryz.func66, Tryz.ntmps66
  go_upto_region 2 with (go_at_call 89; go_loud ((try rw [hW]); refine HC.out.mono ?_; rintro e w2 ⟨T, db, mb, lb, rfl, hd⟩; have HD : Hid (DAt W T w2 db mb (some ⟨lb, 0, none⟩, V.length, V.length) V (nums V)) := hd; clear hd))
  clear hW HC
  obtain ⟨bx, hbx⟩ : ∃ b, w.heap.size = b := ⟨_, rfl⟩
  rw [hbx]
  have HZ : Hid (Zb w2 bx [.int .u64 x, .int .u64 y, .int .u64 z, .slice none 0 0, .slice ia l.length ic, .slice pa pl pc]) := by rw [← hbx]; exact HW.out.2.below HD.out.old.below
  have z3 := HZ.out.2.1 3 _ rfl
  have HT : Hid (Calls Tryz.prog 90 #[.pointer (some ⟨db, 0, none⟩), .slice none 0 0] w2 fun e w' => e = .returned (.int .i64 0) ∧ DAt W T w' db mb (some ⟨lb, 0, none⟩, V.length, V.length) V (nums V)) := takeOut_nil HD.out HV.out.1.1 (fun l' hl' t ht => ⟨HV.out.2.1 l' hl' t ht, mem_nums hl' ht⟩)
  have HBX : Hid (bx < W.heap.size ∧ w.heap.size = bx) := ⟨by rw [← hbx]; exact HW.out.2.1, hbx⟩
  clear hbx
  go_upto_region 5 with (go_at_call 90; go_loud (refine HT.out.mono ?_; rintro e w3 ⟨rfl, hd⟩; have HD3 : Hid (DAt W T w3 db mb (some ⟨lb, 0, none⟩, V.length, V.length) V (nums V)) := hd; clear hd))
  clear HT HD z3 HZ
  have HZ : Hid (Zb w3 bx [.int .u64 x, .int .u64 y, .int .u64 z, .slice none 0 0, .slice ia l.length ic, .slice pa pl pc]) := by
    have h0 := HW.out.2
    rw [HBX.out.2] at h0
    exact h0.below HD3.out.old.below
  have z4 := HZ.out.2.1 4 _ rfl
  have HB : Hid (Calls Tryz.prog 91 #[.pointer (some ⟨db, 0, none⟩), .slice ia l.length ic] w3 fun e w' => BrIs W db mb lb V.length V.length V l e w') := bringIn_any ia ic l HD3.out (fun _ => Iff.rfl) rfl (HV.out.2.2.2.2.1.below HW.out.1) HV.out.2.2.2.2.2 hsm hv5
  cases hbr : bring V l with
  | error er =>
    have hne := bring_ne0 hbr
    have HB2 : Hid (Calls Tryz.prog 91 #[.pointer (some ⟨db, 0, none⟩), .slice ia l.length ic] w3 fun e w' => e = .returned (.int .i64 er) ∧ RowKit.Below W.heap.size W w') := HB.out.mono fun e w' hp => by
      unfold BrIs at hp; rw [hbr] at hp; exact hp
    have HE : Hid (edit V l = .error er) := edit_bring hbr
    clear HB hbr
    go_wp2_with (go_at_call 91; go_loud (refine HB2.out.mono ?_; rintro e w4 ⟨rfl, hb4⟩; have HB4 : Hid (RowKit.Below W.heap.size W w4) := hb4; clear hb4))
    go_ret2
    refine ⟨HW.out.1.trans (HB4.out.mono HW.out.1.size), ?_⟩
    rw [HE.out]
    exact ⟨rfl, hne⟩
  | ok V1 =>
    have hh1 := HV.out.2.2.1.bring hbr
    have hc1 := bring_cnt hbr
    have hl1 : V1.length = V.length := bring_len hbr
    have hf1 : Fits V1 := fits_of (by omega) (by omega)
    have HB2 : Hid (Calls Tryz.prog 91 #[.pointer (some ⟨db, 0, none⟩), .slice ia l.length ic] w3 fun e w' => e = .returned (.int .i64 0) ∧ ∃ T ns, DAt W T w' db mb (some ⟨lb, 0, none⟩, V.length, V.length) V1 ns) := HB.out.mono fun e w' hp => by
      unfold BrIs at hp; rw [hbr] at hp; exact hp
    have HF : Hid (Half V1 ∧ Fits V1 ∧ (nums V1).length ≤ 1000000 ∧ V1.length = V.length ∧ bring V l = .ok V1) := ⟨hh1, hf1, by omega, hl1, hbr⟩
    clear HB hbr hh1 hf1 hc1 hl1
    go_upto_region 8 with (go_at_call 91; go_loud (refine HB2.out.mono ?_; rintro e w4 ⟨rfl, T4, ns4, hd4⟩; have HD4 : Hid (DAt W T4 w4 db mb (some ⟨lb, 0, none⟩, V.length, V.length) V1 ns4) := hd4; clear hd4))
    have HO : Hid (Calls Tryz.prog 92 #[.pointer (some ⟨db, 0, none⟩)] w4 fun e w' => OrIs W db mb lb V.length V.length V1 e w') := order_any HD4.out HF.out.1.hull HF.out.2.1 h2 (Nat.le_refl _)
    clear HB2 z4 HZ HD3
    by_cases hov : ((V1.drop 1).map srt).any ovl = true
    · have HO2 : Hid (Calls Tryz.prog 92 #[.pointer (some ⟨db, 0, none⟩)] w4 fun e w' => e = .returned (.int .i64 132) ∧ RowKit.Below W.heap.size W w') := HO.out.mono fun e w' hp => by
        unfold OrIs at hp; rw [if_pos hov] at hp; exact hp
      have HE : Hid (edit V l = .error eOrder) := edit_order HF.out.2.2.2.2 hov
      clear HO hov
      go_wp2_with (go_at_call 92; go_loud (refine HO2.out.mono ?_; rintro e w5 ⟨rfl, hb5⟩; have HB5 : Hid (RowKit.Below W.heap.size W w5) := hb5; clear hb5))
      go_ret2
      refine ⟨HW.out.1.trans (HB5.out.mono HW.out.1.size), ?_⟩
      rw [HE.out]
      exact ⟨rfl, by decide⟩
    · have HO2 : Hid (Calls Tryz.prog 92 #[.pointer (some ⟨db, 0, none⟩)] w4 fun e w' => e = .returned (.int .i64 0) ∧ ∃ T ns, DAt W T w' db mb (some ⟨lb, 0, none⟩, V.length, V.length) (ordered V1) ns) := HO.out.mono fun e w' hp => by
        unfold OrIs at hp; rw [if_neg hov] at hp; exact hp
      have HE : Hid (edit V l = .ok (ordered V1)) := edit_ok HF.out.2.2.2.2 hov
      clear HO hov
      go_upto_region 11 with (go_at_call 92; go_loud (refine HO2.out.mono ?_; rintro e w5 ⟨rfl, T5, ns5, hd5⟩; have HD5 : Hid (DAt W T5 w5 db mb (some ⟨lb, 0, none⟩, V.length, V.length) (ordered V1) ns5) := hd5; clear hd5))
      have f0 := HD5.out.box.2.1 0 _ rfl
      simp only [svV] at f0
      go_wp2
      go_ret2
      have hv := HD5.out.ver (fits_of (by rw [ordered_len, HF.out.2.2.2.1]; exact hv5) (by rw [ordered_cnt]; exact HF.out.2.2.1)) 112
      refine ⟨(HW.out.1.trans (HD5.out.old.below.mono HW.out.1.size)).alloc (Nat.le_trans HW.out.1.size HD5.out.old.below.size) _, ?_⟩
      rw [HE.out]
      refine ⟨_, rfl, hv.re fun b hb h0 => lowT_of (Nat.le_trans HW.out.1.size (lowT_ge h0))⟩
end Vr
end Go.Proofs.YtaejjpbpnedblaaGreat
namespace Go.Proofs.YtaejjpbpnedblaaGreat
namespace Vr
open Go.Shelf Go.RowKit Go.Lib Go.Sort Go.Maps Go.ChangeMaps Go.MapKept Laws Irw Crw
set_option linter.unusedVariables false
set_option linter.unusedSimpArgs false
set_option maxRecDepth 20000
/-- how often each number was counted -/
structure CAt (T : Nat → Nat) (w : World) (t mb : Nat) (ns : List Nat) : Prop where
  tag : T mb = t
  own : ∃ (m : Nat) (D : Dat), OwnM w mb m D ∧ m ≤ ns.length ∧ ∀ n : Nat, n < U64 → D.atKey (.int .u64 (n : Int)) (.lit (.int .i64 0)) = .lit (.int .i64 (ns.count n : Nat))
theorem CAt.lt {T : Nat → Nat} {w : World} {t mb : Nat} {ns : List Nat} (h : CAt T w t mb ns) : mb < w.heap.size := by
  obtain ⟨m, D, h1, _⟩ := h.own
  exact h1.lt
theorem CAt.goes {p : Nat → Prop} {T T' : Nat → Nat} {w w' : World} {t mb : Nat} {ns : List Nat} (h : CAt T w t mb ns) (hg : Goes p T w T' w') (ht : ¬ p t) : CAt T' w' t mb ns := by
  have hlt := h.lt
  obtain ⟨m, D, h1, h2⟩ := h.own
  exact ⟨(hg.tag mb hlt (by rw [h.tag]; exact ht)).trans h.tag, m, D, h1.block (hg.block mb hlt (by rw [h.tag]; exact ht)), h2⟩
theorem CAt.below {T : Nat → Nat} {w w' : World} {t mb : Nat} {ns : List Nat} (h : CAt T w t mb ns) (hb : RowKit.Below w.heap.size w w') : CAt T w' t mb ns := h.goes (Goes.below (t := fun _ => False) hb) (fun z => z)
theorem CAt.look {T : Nat → Nat} {w : World} {t mb : Nat} {ns : List Nat} (h : CAt T w t mb ns) (n : Nat) (hn : n < U64) :
    (Instr.lookup 113 (.map (some mb)) (.int .u64 (n : Int)) false).run Tryz.prog w = .ok (.int .i64 (ns.count n : Nat)) w := by
  obtain ⟨m, D, h1, h2, h3⟩ := h.own
  obtain ⟨c, hr, hc, _⟩ := World.ownsMap.lookup_int h1 law64 Tryz.underlying113 Tryz.underlying3 (zeroI w) (key64 hn)
  rw [h3 n hn] at hc
  have : c = (ns.count n : Nat) := by simpa using hc.symm
  rw [← this]
  exact hr
theorem CAt.put {T : Nat → Nat} {w : World} {t mb : Nat} {ns : List Nat} (h : CAt T w t mb ns) (n : Nat) (hn : n < U64) (hl : ns.length < 1000000000) :
    ∃ w', (Instr.mapUpdate 113 (.map (some mb)) (.int .u64 (n : Int)) (.int .i64 ((ns.count n : Nat) + 1))).run Tryz.prog w = .ok () w' ∧ CAt T w' t mb (ns ++ [n]) ∧ Goes (· = t) T w T w' := by
  obtain ⟨m, D, h1, h2, h3⟩ := h.own
  have hcl := List.count_le_length (a := n) (l := ns)
  obtain ⟨w', hr, h4, h5⟩ := World.ownsMap.update h1 law64 Tryz.underlying113 (by unfold maxLen; omega) (key64 hn) (plainElem_int Tryz.underlying3 (a := (ns.count n : Nat) + 1) (WalkArith.wf_i64 (by omega)))
  refine ⟨w', hr, ⟨h.tag, m + 1, _, h4, by simp; omega, fun k hk => ?_⟩, goes_map h.tag h5⟩
  by_cases e : k = n
  · subst e
    rw [Maps.atKey_put_same h1.isMap (by simp [WideAt.IsKeyLit])]
    simp [List.count_append]
  · rw [Maps.atKey_put_other (lit_ne e), h3 k hk]
    simp [List.count_append, List.count_singleton, e, Ne.symm e]
/-- clear -/
theorem clear_run {T : Nat → Nat} {w : World} {t mb m : Nat} {D : Dat} (hT : T mb = t) (h : OwnM w mb m D) : ∃ w', (∀ ty, (Builtin.clear_ #[113] ty #[.map (some mb)]).run Tryz.prog w = .ok (.tuple #[]) w') ∧ CAt T w' t mb [] ∧ Goes (· = t) T w T w' := by
  obtain ⟨es, clock, hb, F, hs, hD⟩ := h
  refine ⟨setBlock w mb (.map #[] clock), fun ty => ?_, ⟨hT, 0, .map [], ⟨#[], clock, heap_setBlock_same hb _, ⟨by simp, stamped_empty clock, by simp⟩, Nat.le_refl _, rfl⟩, Nat.le_refl _, fun n _ => by simp [DataW.atKey]⟩, goes_map hT ⟨rfl, rfl, rfl, by simp [setBlock], fun i _ hi => heap_setBlock_other hb _ (fun e => hi (by rw [e]))⟩⟩
  simp [Builtin.clear_, run_underlying Tryz.underlying113, MapKept.run_getObj_map hb, MapKept.run_setObj_map _ hb, Result.andThen, setBlock]
/-- where a level's list is told -/
theorem LvT.cell {T : Nat → Nat} {w : World} {sa : Option Addr} {sn sc : Nat} {V : Lv} (h : LvT T w (sa, sn, sc) V) {k : Nat} {l : List Tb} (hl : V[k]? = some l) : ∃ lb off, sa = some ⟨lb, off, none⟩ ∧ lb < w.heap.size ∧ T lb = 0 ∧ ∃ v : Sv, w.cell? ⟨lb, off + k, none⟩ = some (svV v) ∧ Isk kTb T w v l := by
  obtain ⟨hn, vs, l2, l1, l3⟩ := h
  have hk := (List.getElem?_eq_some_iff.1 hl).1
  have hv : vs[k]? = some (vs[k]'(by omega)) := List.getElem?_eq_getElem (by omega)
  obtain ⟨lb, off, e1, hlt, hc⟩ := l1.ls.cell hv
  change sa = _ at e1
  have := hc 0 _ rfl
  rw [show off + k * kS.size + 0 = off + k by show off + k * 1 + 0 = _; omega] at this
  exact ⟨lb, off, e1, hlt, (l1.2.2.2.2.2 lb off e1).1, _, this, l3 k _ _ hv hl⟩
theorem isk_goes2 {T : Nat → Nat} {w w' : World} {s : Sv} {l : List Tb} (h : Isk kTb T w s l) (hg : Goes (· = 2) T w T w') : Isk kTb T w' s l := h.goes hg (by decide)
def CtIs (T : Nat → Nat) (w : World) (mb : Nat) (ns : List Nat) (e : Ending) (w' : World) : Prop := e = .returned (.tuple #[]) ∧ Goes (· = 2) T w T w' ∧ CAt T w' 2 mb ns
set_option maxHeartbeats 4000000 in
theorem countTables_any {T : Nat → Nat} {w : World} {sb vb mb cb : Nat} {ps : Sv} {V : Lv} {ns : List Nat} (hts : T sb = 1) (hbox : Zb w sb [.pointer (some ⟨cb, 0, none⟩), .slice none 0 0, svV ps, .map (some mb)]) (hv : VT T w vb V) (hm : CAt T w 2 mb ns) (hno : NumOk V) (hlen : ns.length ≤ 100000000) :
    Calls Tryz.prog 113 #[.pointer (some ⟨sb, 0, none⟩), .pointer (some ⟨vb, 0, none⟩)] w fun e w' => CtIs T w mb (ns ++ nums V) e w' := by
  obtain ⟨hf, hvt, _, ⟨sa, sn, sc⟩, hz, hlv⟩ := hv
  have c0 := hz.2.1 0 _ rfl
  have hn := hlv.1
  change sn = V.length at hn
  subst hn
  simp only [svV] at c0
  have hv5 := hf.1
  have HV : Hid (LvT T w (sa, V.length, sc) V ∧ Fits V ∧ NumOk V) := ⟨hlv, hf, hno⟩
  have HS : Hid (T sb = 1 ∧ Zb w sb [.pointer (some ⟨cb, 0, none⟩), .slice none 0 0, svV ps, .map (some mb)]) := ⟨hts, hbox⟩
  have HM : Hid (CAt T w 2 mb ns) := hm
  clear hlv hf hno hts hbox hm hz
  go_enter Tryz.func113, Tryz.ntmps113
  go_wp2
  go_loopw [13] (fun i wr => ∃ k : Nat, k ≤ V.length ∧ i = .int .i64 (k : Int) ∧ Hid (Goes (· = 2) T w T wr ∧ CAt T wr 2 mb (ns ++ nums (V.take k)))) (fun i _ => V.length - (intOf i).toNat)
  case atStart => exact ⟨0, Nat.zero_le _, rfl, Goes.refl _ _ _, by simpa [nums] using HM.out⟩
  case round =>
    clear HM c0
    obtain ⟨k, hk, rfl, HX⟩ := hrel
    rename World => wr
    by_cases hlt : k < V.length
    · have q1 : (k : Int) < (V.length : Int) := by omega
      obtain ⟨l, hl⟩ : ∃ l, V[k]? = some l := ⟨_, List.getElem?_eq_getElem hlt⟩
      obtain ⟨lb, off, rfl, hlb, htl, ⟨va, vn, vc⟩, hc, hi⟩ := HV.out.1.cell hl
      have hvn := hi.2.1
      change vn = l.length at hvn
      subst hvn
      have hc2 := (HX.out.1.cell hlb (by rw [htl]; decide)).trans hc
      simp only [svV] at hc2
      have HI : Hid (Isk kTb T w (va, l.length, vc) l ∧ V[k]? = some l) := ⟨hi, hl⟩
      have hll := HV.out.2.1.2 l (List.mem_of_getElem? hl)
      clear hc hi hl
      go_wp2
      go_loopw [19] (fun i wr => ∃ j : Nat, j ≤ l.length ∧ i = .int .i64 (j : Int) ∧ Hid (Goes (· = 2) T w T wr ∧ CAt T wr 2 mb (ns ++ nums (V.take k) ++ (l.take j).map Tb.no))) (fun i _ => l.length - (intOf i).toNat)
      case atStart => exact ⟨0, Nat.zero_le _, rfl, HX.out.1, by simpa using HX.out.2⟩
      case round =>
        clear HX hc2
        obtain ⟨j, hj, rfl, HY⟩ := hrel
        rename World => wq
        by_cases hlj : j < l.length
        · have q2 : (j : Int) < (l.length : Int) := by omega
          obtain ⟨b, off2, rfl, hb, t, ht, y0, y1, y2, y3, y4, y5⟩ := (isk_goes2 HI.out.1 HY.out.1).ls.tb hlj
          have hb1 : RowKit.Below wq.heap.size wq (wq.alloc (Obj.cells #[.int .u64 (t.no : Int), .int .i64 t.we, .int .i64 t.by_, .int .i64 t.en, .string t.le, .string t.gr] 76)) := (Below.refl _ _).alloc (Nat.le_refl _) _
          have htn : t.no < U64 := HV.out.2.2 l (List.mem_of_getElem? HI.out.2) t (List.mem_of_getElem? ht)
          have x0 := ((HS.out.2.goes HY.out.1 (by rw [HS.out.1]; decide)).below hb1).2.1 3 _ rfl
          have hlen2 : (ns ++ nums (V.take k) ++ (l.take j).map Tb.no).length < 1000000000 := by
            have h1 := nums_le HV.out.2.1 k
            have h2 : k * 1000000 ≤ 5 * 1000000 := Nat.mul_le_mul_right _ (by omega)
            rw [List.length_append, List.length_append, List.length_map, List.length_take]
            have h3 : min j l.length ≤ 1000000 := Nat.le_trans (Nat.min_le_right _ _) hll
            omega
          have hlk := (HY.out.2.below hb1.drew).look t.no htn
          obtain ⟨w7, hr7, hd7, hg7⟩ := (HY.out.2.below hb1.drew).put t.no htn hlen2
          have hcl := List.count_le_length (a := t.no) (l := ns ++ nums (V.take k) ++ (l.take j).map Tb.no)
          obtain ⟨q, hq⟩ : ∃ q, (ns ++ nums (V.take k) ++ (l.take j).map Tb.no).count t.no = q := ⟨_, rfl⟩
          rw [hq] at hlk hr7 hcl
          have wq1 : IntKind.i64.wrap ((q : Int) + 1) = (q : Int) + 1 := IntWalk.i64_in _ (by omega)
          have HW7 : Hid (Goes (· = 2) T w T w7 ∧ CAt T w7 2 mb (ns ++ nums (V.take k) ++ (l.take j).map Tb.no ++ [t.no])) := ⟨HY.out.1.trans ((Goes.below (t := (· = 2)) hb1.drew).trans hg7), hd7⟩
          clear hd7 hg7 hq hlen2 hcl
          go_wp2
          go_region
          all_goals
            go_wp2
            go_roundw
            case rel =>
              refine ⟨j + 1, by omega, by go_num, HW7.out.1, ?_⟩
              have e : (l.take (j + 1)).map Tb.no = (l.take j).map Tb.no ++ [t.no] := by rw [List.take_add_one, ht]; simp
              rw [e, ← List.append_assoc]
              exact HW7.out.2
            case measure => simp [intOf]; omega
        · have q2 : ¬ (j : Int) < (l.length : Int) := by omega
          have HK : Hid (j = l.length) := show j = l.length by omega
          go_wp2
          go_roundw
          case rel =>
            refine ⟨k + 1, by omega, by go_num, HY.out.1, ?_⟩
            have := HY.out.2
            rw [HK.out, List.take_length, List.append_assoc, ← nums_take HI.out.2] at this
            exact this
          case measure => simp [intOf]; omega
    · have q1 : ¬ (k : Int) < (V.length : Int) := by omega
      have HK : Hid (k = V.length) := show k = V.length by omega
      go_wp2
      go_end0
      have := HX.out.2
      rw [HK.out, List.take_length] at this
      exact ⟨rfl, HX.out.1, this⟩
end Vr
end Go.Proofs.YtaejjpbpnedblaaGreat
namespace Go.Proofs
open Go.Shelf Go.RowKit Go.Lib Go.Sort
shelf_lay Lays2.n16 Nm2 16 at Tryz as Tryz.cloneS
namespace YtaejjpbpnedblaaGreat
namespace Vr
open Go.Shelf Go.RowKit Go.Lib Go.Sort Go.Maps Go.ChangeMaps Go.MapKept Laws Irw Crw
set_option linter.unusedVariables false
set_option linter.unusedSimpArgs false
set_option maxRecDepth 20000
set_option maxHeartbeats 1000000 in
theorem sort64_nil (w : World) : Calls Tryz.prog 95 #[.slice none 0 0] w fun e w' => e = .returned (.tuple #[]) ∧ w' = w := by
  have HI : Hid (Calls Tryz.prog 126 #[.slice none 0 0, .int .i64 0, .int .i64 0] w fun e w' => e = .returned (.tuple #[]) ∧ w' = w) := by
    go_enter Tryz.func126, Tryz.ntmps126
    go_wp2
    go_loopw [6] (fun i wr => i = .int .i64 1 ∧ wr = w) (fun _ _ => 0)
    case atStart => exact ⟨rfl, rfl⟩
    case round =>
      obtain ⟨rfl, rfl⟩ := hrel
      go_wp2
      go_end0
      exact ⟨rfl, rfl⟩
  have HP : Hid (∀ x : Int, Calls Tryz.prog 114 #[.slice none 0 0, .int .i64 0, .int .i64 0, .int .i64 x] w fun e w' => e = .returned (.tuple #[]) ∧ w' = w) := fun x => by
    go_enter Tryz.func114, Tryz.ntmps114
    go_wp2
    go_loopw [1, 2] (fun a b wr => a = .int .i64 0 ∧ b = .int .i64 0 ∧ wr = w) (fun _ _ _ => 0)
    case atStart => exact ⟨rfl, rfl, rfl⟩
    case round =>
      obtain ⟨rfl, rfl, rfl⟩ := hrel
      go_wp2_with (go_at_call 126; go_loud (refine HI.out.mono ?_; rintro e w1 ⟨rfl, hw⟩; have hw := hw.symm; subst hw))
      refine bodyPost_ret (results_none rfl _ _ _) rfl ?_
      exact ⟨rfl, rfl⟩
  have hlen : Calls Tryz.prog 115 #[.int .u64 0] w fun e w' => (∃ x : Int, e = .returned (.int .i64 x)) ∧ w' = w := (Any.bits_Len Tryz.bitsLen 0 w (by omega) (by omega)).mono fun _ _ ⟨he, hw⟩ => ⟨⟨_, he⟩, hw⟩
  go_enter Tryz.func95, Tryz.ntmps95
  go_wp2_with (first
    | (go_at_call 115; go_loud (refine hlen.mono ?_; rintro e w1 ⟨⟨x, rfl⟩, hw⟩; have hw := hw.symm; subst hw))
    | (go_at_call 114; go_loud (refine (HP.out x).mono ?_; rintro e w1 ⟨rfl, hw⟩; have hw := hw.symm; subst hw)))
  go_end0
  exact ⟨rfl, rfl⟩
set_option maxHeartbeats 1000000 in
theorem find_nil (sb vb : Nat) (u ps m : Value) (w : World) (h : Zb w sb [u, .slice none 0 0, ps, m]) : Calls Tryz.prog 93 #[.pointer (some ⟨sb, 0, none⟩), .pointer (some ⟨vb, 0, none⟩)] w fun e w' => e = .returned (.int .i64 (-1)) ∧ RowKit.Below w.heap.size w w' := by
  have HI : Hid (∀ (W : World) (f : Value), Calls Tryz.prog 111 #[.slice none 0 0, f] W fun e w' => e = .returned (.int .i64 (-1)) ∧ w' = W) := fun W f => by
    go_enter Tryz.func111, Tryz.ntmps111
    go_wp2
    go_loopw [8] (fun i wr => i = .int .i64 0 ∧ wr = W) (fun _ _ => 0)
    case atStart => exact ⟨rfl, rfl⟩
    case round =>
      obtain ⟨rfl, rfl⟩ := hrel
      go_wp2
      go_ret
      exact ⟨rfl, rfl⟩
  have g1 := (h.below ((Below.refl _ _).alloc (Nat.le_refl _) (Obj.cells #[.pointer (some ⟨vb, 0, none⟩)] 29))).2.1 1 _ rfl
  go_enter Tryz.func93, Tryz.ntmps93
  go_wp2_with (go_at_call 111; go_loud (refine (HI.out _ _).mono ?_; rintro e w1 ⟨rfl, rfl⟩))
  go_ret
  exact ⟨rfl, (Below.refl _ _).alloc (Nat.le_refl _) _⟩
set_option maxHeartbeats 1000000 in
theorem recount_any {T : Nat → Nat} {w : World} {sb vb mb m : Nat} {D : Dat} {ps : Sv} {V : Lv} (hts : T sb = 1) (htm : T mb = 2) (hbox : Zb w sb [.pointer (some ⟨vb, 0, none⟩), .slice none 0 0, svV ps, .map (some mb)]) (hv : VT T w vb V) (hm : OwnM w mb m D) (hno : NumOk V) :
    Calls Tryz.prog 94 #[.pointer (some ⟨sb, 0, none⟩)] w fun e w' => CtIs T w mb (nums V) e w' := by
  obtain ⟨w1, hr, hc1, hg1⟩ := clear_run htm hm
  have hbox1 := hbox.goes hg1 (by rw [hts]; decide)
  have c3 := hbox.2.1 3 _ rfl
  have d0 := hbox1.2.1 0 _ rfl
  have HC : Hid (Calls Tryz.prog 113 #[.pointer (some ⟨sb, 0, none⟩), .pointer (some ⟨vb, 0, none⟩)] w1 fun e w' => CtIs T w1 mb (nums V) e w') := by
    have := countTables_any (ns := []) hts hbox1 (hv.goes hg1 (by decide)) hc1 hno (Nat.zero_le _)
    rw [List.nil_append] at this
    exact this
  have HG : Hid (Goes (· = 2) T w T w1 ∧ T sb = 1 ∧ Zb w1 sb [.pointer (some ⟨vb, 0, none⟩), .slice none 0 0, svV ps, .map (some mb)]) := ⟨hg1, hts, hbox1⟩
  clear hc1 hg1 hbox1 hbox hv hm hno
  go_enter Tryz.func94, Tryz.ntmps94
  go_upto_region 2 with (go_at_call 113; go_loud (refine HC.out.mono ?_; rintro e w2 ⟨rfl, hg2, hc2⟩; have HX : Hid (Goes (· = 2) T w1 T w2 ∧ CAt T w2 2 mb (nums V)) := ⟨hg2, hc2⟩; clear hg2 hc2))
  have e1 := (HG.out.2.2.goes HX.out.1 (by rw [HG.out.2.1]; decide)).2.1 1 _ rfl
  go_wp2
  go_loopw [19] (fun i wr => i = .int .i64 0 ∧ wr = w2) (fun _ _ => 0)
  case atStart => exact ⟨rfl, rfl⟩
  case round =>
    obtain ⟨rfl, rfl⟩ := hrel
    go_wp2
    go_end0
    exact ⟨rfl, HG.out.1.trans HX.out.1, HX.out.2⟩
end Vr
end YtaejjpbpnedblaaGreat
end Go.Proofs
