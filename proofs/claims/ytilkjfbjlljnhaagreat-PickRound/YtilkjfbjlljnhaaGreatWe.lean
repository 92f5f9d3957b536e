import Derived.Test.YtilkjfbjlljnhaaGreatWd
namespace Go.Proofs.YtilkjfbjlljnhaaGreat
namespace Vr
open Go.Shelf Go.RowKit Go.Lib Go.Sort Go.Maps Go.ChangeMaps Go.MapKept Laws Irw Crw
set_option linter.unusedVariables false
set_option linter.unusedSimpArgs false
set_option maxRecDepth 20000
/-- the pointer of a level -/
def ptr (ps : List ByteArray) (i : Nat) : ByteArray := (ps[i]?).getD ⟨#[]⟩
set_option maxHeartbeats 400000 in
theorem pointer_any (pa : Option Addr) (pc : Nat) (ps : List ByteArray) (i : Nat) (w : World) (h : Ls kT w (pa, ps.length, pc) ps) (hl : ps.length ≤ 1000000000) (hi : i ≤ 5) : Calls Tryz.prog 30 #[.slice pa ps.length pc, .int .i64 (i : Int)] w fun e w' => e = .returned (.string (ptr ps i)) ∧ w' = w := by
  by_cases hlt : i < ps.length
  · obtain ⟨b, off, e, _, hc⟩ := h.cell (List.getElem?_eq_getElem hlt)
    change pa = _ at e
    subst e
    have c0 := hc 0 _ rfl
    rw [show off + i * kT.size + 0 = off + i by show off + i * 1 + 0 = _; omega] at c0
    have q1 : ¬ (ps.length : Int) ≤ (i : Int) := by omega
    have q2 : (i : Int) < (ps.length : Int) := by omega
    have HP : Hid (ptr ps i = ps[i]) := by
      show _ = _
      unfold ptr
      rw [List.getElem?_eq_getElem hlt]; rfl
    clear hc h
    go_enter Tryz.func30, Tryz.ntmps30
    go_wp2
    go_ret
    exact ⟨by rw [HP.out]; rfl, rfl⟩
  · have q1 : (ps.length : Int) ≤ (i : Int) := by omega
    have HP : Hid (ptr ps i = ⟨#[]⟩) := by
      show _ = _
      unfold ptr
      rw [List.getElem?_eq_none (by omega)]; rfl
    clear h
    go_enter Tryz.func30, Tryz.ntmps30
    go_wp2
    go_ret
    exact ⟨by rw [HP.out]; rfl, rfl⟩
theorem enters89 : ∀ args w, (callFunc 45 args).run Tryz.prog w = .ok (.enter 45 args) w := enters_of Tryz.func45 (by kernel_rfl) rfl
set_option maxHeartbeats 400000 in
theorem behind1_any {w : World} {pb : Nat} {p : ByteArray} (hz : Zb w pb [.string p]) (W : World) (t : Tb) (hb : RowKit.Below w.heap.size w W) : Calls Tryz.prog 45 #[tbV t, .pointer (some ⟨pb, 0, none⟩)] W fun e w' => e = .returned (.bool (ltS p t.le)) ∧ RowKit.Below w.heap.size w w' := by
  have hb1 : RowKit.Below w.heap.size w (W.alloc (Obj.cells #[.int .u64 (t.no : Int), .int .i64 t.we, .int .i64 t.by_, .int .i64 t.en, .string t.le, .string t.gr] 43)) := hb.alloc hb.size _
  have c0 := (hz.below hb1).2.1 0 _ rfl
  have l1 := gtrS
  unfold tbV
  go_enter Tryz.func45, Tryz.ntmps45
  go_wp2
  go_ret
  exact ⟨rfl, hb1⟩
theorem idx_beh (l : List Tb) (p : ByteArray) : max (idx (fun t => ltS p t.le) l) 0 = (beh l p : Int) := by
  unfold idx beh
  cases l.findIdx? fun t => ltS p t.le with
  | none => rfl
  | some i => simp
theorem res_tb {fn : Func} {p : Tmp} (h : fn.results = #[.cell p 43]) (tmps : Array Value) (w : World) (B : Nat) (t : Tb) (hp : tmps.getD p undef = .pointer (some ⟨B, 0, none⟩)) (hz : Zb w B (tbC t)) :
    (results fn tmps).run Tryz.prog w = .ok (tbV t) w := by
  have c0 := hz.2.1 0 _ rfl
  have c1 := hz.2.1 1 _ rfl
  have c2 := hz.2.1 2 _ rfl
  have c3 := hz.2.1 3 _ rfl
  have c4 := hz.2.1 4 _ rfl
  have c5 := hz.2.1 5 _ rfl
  simp only [results, h]
  have hp' : tmps[p]?.getD undef = .pointer (some ⟨B, 0, none⟩) := by simpa using hp
  simp [Sem.run_bind, Result.andThen, hp', go_sem, c0, c1, c2, c3, c4, c5, tbV]
set_option maxHeartbeats 1000000 in
theorem behind_any (a : Option Addr) (c : Nat) (l : List Tb) (p : ByteArray) (w : World) (h : Ls kTb w (a, l.length, c) l) (hno : ∀ t ∈ l, t.no < U64) (hlen : l.length ≤ 1000000) (hpos : 0 < l.length) {t : Tb} (ht : l[beh l p]? = some t) :
    Calls Tryz.prog 29 #[.slice a l.length c, .string p] w fun e w' => e = .returned (tbV t) ∧ RowKit.Below w.heap.size w w' := by
  obtain ⟨W, hW⟩ : ∃ W, (w.alloc (Obj.cells #[.string p] 9)).alloc (Obj.cells #[.int .u64 0, .int .i64 0, .int .i64 0, .int .i64 0, .string ⟨#[]⟩, .string ⟨#[]⟩] 43) = W := ⟨_, rfl⟩
  have HW : Hid (RowKit.Below w.heap.size w W ∧ Zb W w.heap.size [.string p] ∧ Zb W (w.heap.size + 1) [.int .u64 0, .int .i64 0, .int .i64 0, .int .i64 0, .string ⟨#[]⟩, .string ⟨#[]⟩]) := by
    subst hW
    exact ⟨((Below.refl _ _).alloc (Nat.le_refl _) _).alloc (by simp) _, (Zb.new w #[.string p] 9).below ((Below.refl _ _).alloc (Nat.le_refl _) _), by simpa using Zb.new (w.alloc (Obj.cells #[.string p] 9)) #[.int .u64 0, .int .i64 0, .int .i64 0, .int .i64 0, .string ⟨#[]⟩, .string ⟨#[]⟩] 43⟩
  have HC : Hid (Calls Tryz.prog 44 #[.slice a l.length c, .func (.func 45) #[] #[.pointer (some ⟨w.heap.size, 0, none⟩)]] W fun e w' => e = .returned (.int .i64 (idx (fun t => ltS p t.le) l)) ∧ RowKit.Below W.heap.size W w') :=
    indexFunc_any a c l 45 #[.pointer (some ⟨w.heap.size, 0, none⟩)] (fun t => ltS p t.le) W enters89 (h.below HW.out.1) hno hlen (fun W' t _ hb => behind1_any HW.out.2.1 W' t hb)
  have HL : Hid (Ls kTb w (a, l.length, c) l ∧ l[beh l p]? = some t) := ⟨h, ht⟩
  have q1 := idx_beh l p
  have hbl := beh_lt p hpos
  obtain ⟨k, hk⟩ : ∃ k, beh l p = k := ⟨_, rfl⟩
  rw [hk] at q1 hbl HL
  have q2 : (k : Int) < (l.length : Int) := by omega
  clear h ht hk hno
  go_enter Tryz.func29, Tryz.ntmps29
  go_upto_region 2 with (go_at_call 44; go_loud ((try rw [hW]); refine HC.out.mono ?_; rintro e w1 ⟨rfl, hb1⟩; have HB1 : Hid (RowKit.Below w.heap.size w w1 ∧ Zb w1 (w.heap.size + 1) [.int .u64 0, .int .i64 0, .int .i64 0, .int .i64 0, .string ⟨#[]⟩, .string ⟨#[]⟩]) := ⟨HW.out.1.trans (hb1.mono HW.out.1.size), HW.out.2.2.below hb1⟩; clear hb1))
  clear hW HC
  obtain ⟨b, off, rfl, hb, t', ht', y0, y1, y2, y3, y4, y5⟩ := (HL.out.1.below HB1.out.1).tb hbl
  have ett : t' = t := by rw [HL.out.2] at ht'; cases ht'; rfl
  subst ett
  have z0 := HB1.out.2.2.1 0 _ rfl
  have z1 := HB1.out.2.2.1 1 _ rfl
  have z2 := HB1.out.2.2.1 2 _ rfl
  have z3 := HB1.out.2.2.1 3 _ rfl
  have z4 := HB1.out.2.2.1 4 _ rfl
  have z5 := HB1.out.2.2.1 5 _ rfl
  have f0 := HB1.out.2.2.2
  clear ht'
  have HZZ : Hid (Zb (sets w1 (w.heap.size + 1) 0 (tbC t')) (w.heap.size + 1) (tbC t') ∧ RowKit.Below w.heap.size w (sets w1 (w.heap.size + 1) 0 (tbC t'))) := ⟨HB1.out.2.sets (by simp [tbC]), sets_below (w0 := w) (w := w1) (w.heap.size + 1) (by omega) (tbC t') 0 HB1.out.1⟩
  go_wp2
  exact bodyPost_ret (res_tb rfl _ _ (w.heap.size + 1) t' rfl HZZ.out.1) rfl ⟨rfl, HZZ.out.2⟩
end Vr
end Go.Proofs.YtilkjfbjlljnhaaGreat
