import Derived.Test.YtaejjpbpnedblaaGreatWf
namespace Go.Proofs.YtaejjpbpnedblaaGreat
namespace Vr
open Go.Shelf Go.RowKit Go.Lib Go.Sort Go.Maps Go.ChangeMaps Go.MapKept Laws Irw Crw
set_option linter.unusedVariables false
set_option linter.unusedSimpArgs false
set_option maxRecDepth 20000
def minS (x y : ByteArray) : ByteArray := if ltS y x = true then y else x
def maxS (x y : ByteArray) : ByteArray := if ltS x y = true then y else x
theorem run_minS (w : World) (ts : Array TypeId) (t : TypeId) (x y : ByteArray) : (Builtin.min_ ts t #[.string x, .string y]).run Tryz.prog w = .ok (.string (minS x y)) w := by
  have e : (ltS x y || (!ltS x y && !ltS y x)) = !ltS y x := by
    cases h1 : ltS x y with
    | true => rw [ltS_asymm h1]; rfl
    | false => rfl
  unfold minS
  simp [Builtin.min_, Builtin.min2, Op.stringOp, lt_ltS, eq_ltS, e, asBool]
  cases ltS y x <;> rfl
theorem run_maxS (w : World) (ts : Array TypeId) (t : TypeId) (x y : ByteArray) : (Builtin.max_ ts t #[.string x, .string y]).run Tryz.prog w = .ok (.string (maxS x y)) w := by
  unfold maxS
  simp [Builtin.max_, Builtin.max2, Op.stringOp, lt_ltS, eq_ltS, asBool]
  cases ltS x y <;> rfl
/-- the hull of tables -/
def hLe (l : List Tb) : ByteArray := l.foldl (fun a t => minS a t.le) (l.getD 0 noT).le
def hGr (l : List Tb) : ByteArray := l.foldl (fun a t => maxS a t.gr) (l.getD 0 noT).gr
set_option maxHeartbeats 2000000 in
theorem hull_any (a : Option Addr) (c : Nat) (l : List Tb) (w : World) (h : Ls kTb w (a, l.length, c) l) (hlen : l.length ≤ 1000000) (hpos : 0 < l.length) :
    Calls Tryz.prog 85 #[.slice a l.length c] w fun e w' => e = .returned (.tuple #[.string (hLe l), .string (hGr l)]) ∧ RowKit.Below w.heap.size w w' := by
  have HL : Hid (Ls kTb w (a, l.length, c) l) := h
  obtain ⟨b, off, rfl, hb, t, ht, y0, y1, y2, y3, y4, y5⟩ := h.tb hpos
  have q0 : (0 : Int) < (l.length : Int) := by omega
  have e0 : l.getD 0 noT = t := by rw [List.getD, ht]; rfl
  obtain ⟨xl, hxl⟩ : ∃ x, t.le = x := ⟨_, rfl⟩
  obtain ⟨xg, hxg⟩ : ∃ x, t.gr = x := ⟨_, rfl⟩
  have HE : Hid (hLe l = l.foldl (fun a t => minS a t.le) xl ∧ hGr l = l.foldl (fun a t => maxS a t.gr) xg) := by
    constructor
    · unfold hLe; rw [e0, hxl]
    · unfold hGr; rw [e0, hxg]
  rw [hxl] at y4
  rw [hxg] at y5
  rw [Nat.zero_mul] at y0 y1 y2 y3 y4 y5
  clear h ht e0 hxl hxg
  go_enter Tryz.func85, Tryz.ntmps85
  go_wp2
  go_quiet (fail)
  go_wp2
  go_loopw [4, 5, 18] (fun x y i wr => ∃ k : Nat, k ≤ l.length ∧ x = .string ((l.take k).foldl (fun a t => minS a t.le) xl) ∧ y = .string ((l.take k).foldl (fun a t => maxS a t.gr) xg) ∧ i = .int .i64 (k : Int) ∧ Hid (RowKit.Below w.heap.size w wr)) (fun _ _ i _ => l.length - (intOf i).toNat)
  case atStart => exact ⟨0, Nat.zero_le _, rfl, rfl, rfl, bl_dn (Below.refl _ _) _⟩
  case round =>
    clear y0 y1 y2 y3 y4 y5
    obtain ⟨k, hk, rfl, rfl, rfl, HB⟩ := hrel
    rename World => wr
    obtain ⟨fx, hfx⟩ : ∃ z, (l.take k).foldl (fun a t => minS a t.le) xl = z := ⟨_, rfl⟩
    obtain ⟨fy, hfy⟩ : ∃ z, (l.take k).foldl (fun a t => maxS a t.gr) xg = z := ⟨_, rfl⟩
    rw [hfx, hfy]
    by_cases hlt : k < l.length
    · obtain ⟨b', off', e', hb', u, hu, z0, z1, z2, z3, z4, z5⟩ := (HL.out.below HB.out).tb hlt
      cases e'
      have q1 : (k : Int) < (l.length : Int) := by omega
      have HF : Hid ((l.take (k + 1)).foldl (fun a t => minS a t.le) xl = minS fx u.le ∧ (l.take (k + 1)).foldl (fun a t => maxS a t.gr) xg = maxS fy u.gr) := by
        rw [List.take_add_one, hu]
        refine ⟨?_, ?_⟩ <;> simp only [Option.toList_some, List.foldl_append, List.foldl_cons, List.foldl_nil, hfx, hfy]
      have l1 := run_minS
      have l2 := run_maxS
      clear hfx hfy hu
      go_wp2
      go_region
      all_goals
        go_wp2
        go_roundw
        case rel => exact ⟨k + 1, by omega, by rw [HF.out.1], by rw [HF.out.2], by go_num, (HB.out.alloc HB.out.size _).drew⟩
        case measure => simp [intOf]; omega
    · have q1 : ¬ (k : Int) < (l.length : Int) := by omega
      have HK : Hid (hLe l = fx ∧ hGr l = fy) := by
        have : k = l.length := by omega
        subst this
        rw [List.take_length] at hfx hfy
        exact ⟨HE.out.1.trans hfx, HE.out.2.trans hfy⟩
      clear hfx hfy
      go_wp2
      go_ret2
      exact ⟨by rw [HK.out.1, HK.out.2]; rfl, HB.out⟩
/-- the job of level 0 -/
def whl (V : Lv) (l : List Tb) : Jb := ⟨0, l, (lev V 1).filter (over (hLe l) (hGr l)), ⟨#[]⟩, false⟩
def WhIs (w : World) (us : Sv) (j : Jb) (e : Ending) (w' : World) : Prop := ∃ ls : Sv, e = .returned (jbV j.lv us ls j.cut j.mv) ∧ JAt w' us ls j ∧ RowKit.Below w.heap.size w w' ∧ ∀ b off, ls.1 = some ⟨b, off, none⟩ → w.heap.size ≤ b
set_option maxHeartbeats 2000000 in
theorem whole_any (vb : Nat) (V : Lv) (a : Option Addr) (c : Nat) (l : List Tb) (w : World) (hv : VAt w vb V) (h : Ls kTb w (a, l.length, c) l) (hlen : l.length ≤ 1000000) (hpos : 0 < l.length) :
    Calls Tryz.prog 59 #[.pointer (some ⟨vb, 0, none⟩), .slice a l.length c] w fun e w' => WhIs w (a, l.length, c) (whl V l) e w' := by
  obtain ⟨W, hW⟩ : ∃ W, w.alloc (Obj.cells #[.int .i64 0, .slice none 0 0, .slice none 0 0, .string ⟨#[]⟩, .bool false] 62) = W := ⟨_, rfl⟩
  have HW : Hid (RowKit.Below w.heap.size w W ∧ Zb W w.heap.size (jbC 0 nS nS ⟨#[]⟩ false)) := by
    subst hW
    exact ⟨(Below.refl _ _).alloc (Nat.le_refl _) _, Zb.new w _ _⟩
  have HV : Hid (VAt w vb V ∧ Ls kTb w (a, l.length, c) l) := ⟨hv, h⟩
  have HH : Hid (Calls Tryz.prog 85 #[.slice a l.length c] W fun e w' => e = .returned (.tuple #[.string (hLe l), .string (hGr l)]) ∧ RowKit.Below W.heap.size W w') := hull_any a c l W (h.below HW.out.1) hlen hpos
  clear hv h
  go_enter Tryz.func59, Tryz.ntmps59
  go_upto_region 2 with (go_at_call 85; go_loud ((try rw [hW]); refine HH.out.mono ?_; rintro e w1 ⟨rfl, hb1⟩; have HB1 : Hid (RowKit.Below w.heap.size w w1 ∧ Zb w1 w.heap.size (jbC 0 nS nS ⟨#[]⟩ false)) := ⟨HW.out.1.trans (hb1.mono HW.out.1.size), HW.out.2.below hb1⟩; clear hb1))
  clear hW HH
  have HOV : Hid (Calls Tryz.prog 86 #[.pointer (some ⟨vb, 0, none⟩), .int .i64 1, .string (hLe l), .string (hGr l)] w1 fun e w' => OwnIs w1 ((lev V 1).filter (over (hLe l) (hGr l))) e w') := overlap_any vb V 1 (hLe l) (hGr l) w1 (HV.out.1.below HB1.out.1)
  obtain ⟨lo, hlo⟩ : ∃ x, (lev V 1).filter (over (hLe l) (hGr l)) = x := ⟨_, rfl⟩
  rw [hlo] at HOV
  have HLO : Hid (whl V l = ⟨0, l, lo, ⟨#[]⟩, false⟩) := by show _ = _; unfold whl; rw [hlo]
  clear hlo
  go_wp2_with (go_at_call 86; go_loud (refine HOV.out.mono ?_; rintro e w6 ⟨⟨sa, sn, sc⟩, T, rfl, ho, hold⟩; have HO : Hid (OwnK kTb 1 T w6 (.slice sa sn sc) lo ∧ Old w1 T w6 ∧ Zb w6 w.heap.size (jbC 0 nS nS ⟨#[]⟩ false)) := ⟨ho, hold, HB1.out.2.below hold.below⟩; have z0 := HO.out.2.2.2.1 0 _ rfl; have z1 := HO.out.2.2.2.1 1 _ rfl; have z2 := HO.out.2.2.2.1 2 _ rfl; have z3 := HO.out.2.2.2.1 3 _ rfl; have z4 := HO.out.2.2.2.1 4 _ rfl; have f0 := HO.out.2.2.2.2; clear ho hold; simp only [svV]))
  have hz : Zb (sets w6 w.heap.size 0 (jbC 0 (a, l.length, c) (sa, sn, sc) ⟨#[]⟩ false)) w.heap.size (jbC 0 (a, l.length, c) (sa, sn, sc) ⟨#[]⟩ false) := HO.out.2.2.sets (by simp [jbC])
  have hb6 : RowKit.Below w.heap.size w w6 := HB1.out.1.trans (HO.out.2.1.below.mono HB1.out.1.size)
  have hbb := sets_below (w0 := w) (w := w6) w.heap.size (Nat.le_refl _) (jbC 0 (a, l.length, c) (sa, sn, sc) ⟨#[]⟩ false) 0 hb6
  have hblk : ∀ b, b ≠ w.heap.size → (sets w6 w.heap.size 0 (jbC 0 (a, l.length, c) (sa, sn, sc) ⟨#[]⟩ false)).heap[b]? = w6.heap[b]? := fun b hb => sets_block w6 _ b hb _ 0
  refine bodyPost_ret (res_jb rfl _ _ w.heap.size 0 (a, l.length, c) (sa, sn, sc) ⟨#[]⟩ false rfl hz) rfl ?_
  rw [HLO.out]
  have hne : ∀ b off, sa = some ⟨b, off, none⟩ → w1.heap.size ≤ b := fun b off e => by
    obtain ⟨_, _, _, _, _, h6⟩ := OwnK.sk (s := (sa, sn, sc)) HO.out.1
    have h7 := (h6 b off e).1
    rcases Nat.lt_or_ge b w1.heap.size with hb | hb
    · have := HO.out.2.1.zero b (.inl hb)
      omega
    · exact hb
  have h8 : w.heap.size < w1.heap.size := HB1.out.2.1
  refine ⟨_, rfl, ⟨(HV.out.2.below hbb), (Ls.own (s := (sa, sn, sc)) HO.out.1).keep (fun b off e hb => hblk b (by have := hne b off e; omega)) (by simp)⟩, hbb, fun b off e => by have := hne b off e; omega⟩
end Vr
end Go.Proofs.YtaejjpbpnedblaaGreat
