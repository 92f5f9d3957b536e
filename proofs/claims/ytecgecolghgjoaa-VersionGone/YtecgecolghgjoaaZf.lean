import Derived.Test.YtecgecolghgjoaaZe
namespace Go.Proofs
open Go.Shelf Go.RowKit Go.Lib
shelf_lay_g SlLaysH0.n6 Slgf 6 at Try 42 as Try.idxP
namespace Ytecgecolghgjoaa
namespace Vr
open Go.Shelf Go.RowKit Go.Lib Go.Sort Go.Maps Go.ChangeMaps Go.MapKept Laws Irw Crw
set_option linter.unusedVariables false
set_option linter.unusedSimpArgs false
set_option maxRecDepth 20000
/-- a pinned version: where it lies, how often it is pinned, its levels -/
structure Pn where
  vb : Nat
  ti : Int
  V : Lv
def pnC (p : Pn) : List Value := [.pointer (some ⟨p.vb, 0, none⟩), .int .i64 p.ti]
def kPn : Knd Pn := ⟨79, 2, 16, .agg #[.pointer none, .int .i64 0], pnC, fun _ => rfl, fun x u hu => by simp [pnC] at hu; rcases hu with rfl | rfl <;> rfl, by omega, rfl, by omega⟩
theorem infoPn : (Try.prog.info? 79).map (fun i => (i.zero, i.size, i.bytes)) = some (some kPn.zero, 2, 16) := by kernel_rfl
instance : Inhabited Pn := ⟨⟨0, 0, []⟩⟩
/-- is it that version? -/
def isV (pv : Option Addr) (p : Pn) : Bool := decide ((some ⟨p.vb, 0, none⟩ : Option Addr) = pv)
/-- where the first one is; -1: nowhere -/
def idp (pv : Option Addr) (P : List Pn) : Int := match P.findIdx? (isV pv) with
  | some i => (i : Int)
  | none => -1
theorem idp_is {α : Type} [Inhabited α] (f : α → Pn) (pv : Option Addr) (zs : List α) (d : α) : Lib.idxBy (fun _ y => isV pv (f y)) zs d = idp pv (zs.map f) := by
  unfold idp
  cases e : (zs.map f).findIdx? (isV pv) with
  | none =>
    rw [List.findIdx?_eq_none_iff] at e
    have := Lib.idxBy_miss (fun _ y => isV pv (f y)) zs zs.length d (fun j hj => e _ (List.mem_map_of_mem (by rw [getElem!_pos zs j hj]; exact List.getElem_mem hj)))
    rw [List.take_length] at this
    exact this
  | some i =>
    obtain ⟨hi, h1, h2⟩ := List.findIdx?_eq_some_iff_getElem.1 e
    have hi' : i < zs.length := by simpa using hi
    have := Lib.idxBy_hit (fun _ y => isV pv (f y)) zs zs.length i d hi' (Nat.le_refl _) (by show isV pv (f zs[i]!) = true; rw [getElem!_pos zs i hi']; simpa using h1) (fun j hj => by
      have hj' : j < zs.length := by omega
      show isV pv (f zs[j]!) = false
      rw [getElem!_pos zs j hj']
      simpa using h2 j hj)
    rw [List.take_length] at this
    exact this
/-- a pointer to a version: nil, or one that there is -/
def VOk (w : World) (pv : Option Addr) : Prop := pv = none ∨ ∃ v, pv = some ⟨v, 0, none⟩ ∧ Blk w v
theorem Blk.lt {w : World} {b : Nat} (h : Blk w b) : b < w.heap.size := by
  obtain ⟨c, t, h⟩ := h
  exact (Array.getElem?_eq_some_iff.1 h).1
theorem Blk.below {w w' : World} {b : Nat} (h : Blk w b) (hb : RowKit.Below w.heap.size w w') : Blk w' b := by
  have hl := h.lt
  obtain ⟨c, t, h⟩ := h
  exact ⟨c, t, (hb.block b hl).trans h⟩
theorem VOk.below {w w' : World} {pv : Option Addr} (h : VOk w pv) (hb : RowKit.Below w.heap.size w w') : VOk w' pv := by
  rcases h with h | ⟨v, h, k⟩
  · exact .inl h
  · exact .inr ⟨v, h, k.below hb⟩
theorem eql_ver {w : World} {a : Nat} {pv : Option Addr} (ha : Blk w a) (hp : VOk w pv) : (binOp .eql 31 (.pointer (some ⟨a, 0, none⟩)) (.pointer pv)).run Try.prog w = .ok (.bool (decide ((some ⟨a, 0, none⟩ : Option Addr) = pv))) w := by
  obtain ⟨j, hj, _, hjs, _⟩ := info_parts infoVer
  rcases hp with rfl | ⟨v, rfl, hv⟩
  · rw [run_eql_pointer_nil w _ _ (by kernel_rfl)]
    rfl
  · by_cases e : a = v
    · subst e
      rw [run_eql_ptr_same w _ Try.underlying31 hj]
      simp
    · obtain ⟨c1, t1, k1⟩ := ha
      obtain ⟨c2, t2, k2⟩ := hv
      rw [run_eql_ptr_other w Try.underlying31 hj (by rw [hjs]; decide) (fun q => e (by injection q)) k1 k2]
      simp [e]
theorem enters43 : ∀ args w, (callFunc 43 args).run Try.prog w = .ok (.enter 43 args) w := enters_of Try.func43 (by kernel_rfl) rfl
theorem find1_any {w : World} {bx : Nat} {pv : Option Addr} (hbx : Zb w bx [.pointer pv]) (hpv : VOk w pv) (W : World) (p : Pn) (hp : Blk w p.vb) (hb : RowKit.Below w.heap.size w W) :
    Calls Try.prog 43 #[.agg #[.pointer (some ⟨p.vb, 0, none⟩), .int .i64 p.ti], .pointer (some ⟨bx, 0, none⟩)] W fun e w' => e = .returned (.bool (isV pv p)) ∧ RowKit.Below w.heap.size w w' := by
  have hb1 : RowKit.Below w.heap.size w (W.alloc (Obj.cells #[.pointer (some ⟨p.vb, 0, none⟩), .int .i64 p.ti] 79)) := hb.alloc hb.size _
  have c0 := (hbx.below hb1).2.1 0 _ rfl
  have bW : ∀ {v}, Blk w v → Blk W v := fun h => ⟨_, _, (hb.block _ h.lt).trans h.choose_spec.choose_spec⟩
  have vW : VOk (W.alloc (Obj.cells #[.pointer (some ⟨p.vb, 0, none⟩), .int .i64 p.ti] 79)) pv := by
    rcases hpv with h | ⟨v, h, k⟩
    · exact .inl h
    · exact .inr ⟨v, h, (bW k).below ((Below.refl _ _).alloc (Nat.le_refl _) _)⟩
  have hq := eql_ver ((bW hp).below ((Below.refl _ _).alloc (Nat.le_refl _) (Obj.cells #[.pointer (some ⟨p.vb, 0, none⟩), .int .i64 p.ti] 79))) vW
  unfold isV
  go_enter Try.func43, Try.ntmps43
  go_wp2
  go_ret
  exact ⟨rfl, hb1⟩
set_option maxHeartbeats 1000000 in
theorem indexP_any (a : Option Addr) (c : Nat) (P : List Pn) (bx : Nat) (pv : Option Addr) (w : World) (hbx : Zb w bx [.pointer pv]) (hpv : VOk w pv) (hP : ∀ p ∈ P, Blk w p.vb) (h : Ls kPn w (a, P.length, c) P) (hlen : P.length ≤ 1000000) :
    Calls Try.prog 42 #[.slice a P.length c, .func (.func 43) #[] #[.pointer (some ⟨bx, 0, none⟩)]] w fun e w' => e = .returned (.int .i64 (idp pv P)) ∧ RowKit.Below w.heap.size w w' := by
  by_cases hl : P = []
  · subst hl
    clear h
    go_enter Try.func42, Try.ntmps42
    go_wp2
    go_loopw [8] (fun i wr => i = .int .i64 0 ∧ wr = w) (fun _ _ => 0)
    case atStart => exact ⟨rfl, rfl⟩
    case round =>
      obtain ⟨rfl, rfl⟩ := hrel
      go_wp2
      go_ret
      exact ⟨rfl, Below.refl _ _⟩
  · obtain ⟨b, off, e, hr⟩ := h.1 hl
    change a = some _ at e
    subst e
    obtain ⟨zs, hzs⟩ : ∃ zs : List { p : Pn // Blk w p.vb }, zs.map Subtype.val = P := ⟨P.pmap Subtype.mk hP, by simp [List.map_pmap]⟩
    have hzl : zs.length = P.length := by rw [← hzs, List.length_map]
    obtain ⟨p0, hp0⟩ : ∃ p, p ∈ P := List.exists_mem_of_ne_nil P hl
    haveI : Inhabited { p : Pn // Blk w p.vb } := ⟨⟨p0, hP p0 hp0⟩⟩
    have hcon := AnyQ.slices_IndexFunc Try.idxP 2 Try.isAgg79 Try.sizeOf79 (fun x : { p : Pn // Blk w p.vb } => pnC x.1) (fun _ => rfl) (fun x => isV pv x.1) 43 #[.pointer (some ⟨bx, 0, none⟩)] enters43 b off P.length c zs w
      (fun W x hb => find1_any hbx hpv W x.1 x.2 hb) (by omega) (by omega) ?_ ?_
    · rw [List.take_of_length_le (by omega), idp_is Subtype.val pv zs, hzs] at hcon
      exact hcon
    · exact hr.1
    · intro j hj i v hi
      have hj' : j < P.length := by omega
      obtain ⟨b', off', e, _, hc⟩ := h.cell (List.getElem?_eq_getElem hj')
      cases e
      refine hc i v ?_
      have e2 : zs[j]!.1 = P[j] := by
        rw [getElem!_pos zs j hj]
        have : P[j]? = (zs.map Subtype.val)[j]? := by rw [hzs]
        rw [List.getElem?_eq_getElem hj', List.getElem?_map, List.getElem?_eq_getElem hj] at this
        simpa using this.symm
      rw [← e2]
      exact hi
set_option maxHeartbeats 1000000 in
theorem find_any (sb : Nat) (pv : Option Addr) (u ps m : Value) (pl : Sv) (P : List Pn) (w : World) (h : Zb w sb [u, svV pl, ps, m]) (hpv : VOk w pv) (hB : ∀ p ∈ P, Blk w p.vb) (hP : Ls kPn w pl P) (hlen : P.length ≤ 1000000) :
    Calls Try.prog 27 #[.pointer (some ⟨sb, 0, none⟩), .pointer pv] w fun e w' => e = .returned (.int .i64 (idp pv P)) ∧ RowKit.Below w.heap.size w w' := by
  obtain ⟨pa, pn, pc⟩ := pl
  have hpn := hP.2.1
  change pn = P.length at hpn
  subst hpn
  have hb1 : RowKit.Below w.heap.size w (w.alloc (Obj.cells #[.pointer pv] 31)) := (Below.refl _ _).alloc (Nat.le_refl _) _
  have g1 := (h.below hb1).2.1 1 _ rfl
  simp only [svV] at g1
  have HC : Hid (Calls Try.prog 42 #[.slice pa P.length pc, .func (.func 43) #[] #[.pointer (some ⟨w.heap.size, 0, none⟩)]] (w.alloc (Obj.cells #[.pointer pv] 31)) fun e w' => e = .returned (.int .i64 (idp pv P)) ∧ RowKit.Below w.heap.size w w') :=
    (indexP_any pa pc P w.heap.size pv _ (Zb.new w #[.pointer pv] 31) (hpv.below hb1) (fun p hp => (hB p hp).below hb1) (hP.below hb1) hlen).mono fun e w' hp => ⟨hp.1, hb1.trans (hp.2.mono hb1.size)⟩
  clear h hP
  go_enter Try.func27, Try.ntmps27
  go_wp2_with (go_at_call 42; go_loud (refine HC.out.mono ?_; rintro e w1 ⟨rfl, hb⟩; have HB : Hid (RowKit.Below w.heap.size w w1) := hb; clear hb))
  go_ret
  exact ⟨rfl, HB.out⟩
end Vr
end Ytecgecolghgjoaa
end Go.Proofs
