import Derived.Test.YtaejjpbpnedblaaGreatVj
import Derived.Shelf.SlicesQ.IndexFunc
import Derived.Shelf.Lay
import Derived.Shelf.SlGeneric
import Derived.Ground.SlgfProg
import Derived.Lib.SliceRun
namespace Go.Proofs
open Go.Shelf Go.RowKit Go.Lib
shelf_lay_g SlLaysH0.n6 Slgf 6 at Tryz 87 as Tryz.idxT
namespace YtaejjpbpnedblaaGreat
namespace Vr
open Go.RowKit Go.Maps Go.ChangeMaps Go.MapKept Laws Irw Crw
set_option linter.unusedVariables false
set_option linter.unusedSimpArgs false
set_option maxRecDepth 20000
instance : Inhabited Tb := ⟨noT⟩
/-- where the first one is; -1: nowhere -/
def idx (p : Tb → Bool) (l : List Tb) : Int := match l.findIdx? p with
  | some i => (i : Int)
  | none => -1
theorem idx_is {α : Type} [Inhabited α] (f : α → Tb) (p : Tb → Bool) (zs : List α) (d : α) : Lib.idxBy (fun _ y => p (f y)) zs d = idx p (zs.map f) := by
  unfold idx
  cases e : (zs.map f).findIdx? p with
  | none =>
    rw [List.findIdx?_eq_none_iff] at e
    have := Lib.idxBy_miss (fun _ y => p (f y)) zs zs.length d (fun j hj => e _ (List.mem_map_of_mem (by rw [getElem!_pos zs j hj]; exact List.getElem_mem hj)))
    rw [List.take_length] at this
    exact this
  | some i =>
    obtain ⟨hi, h1, h2⟩ := List.findIdx?_eq_some_iff_getElem.1 e
    have hi' : i < zs.length := by simpa using hi
    have := Lib.idxBy_hit (fun _ y => p (f y)) zs zs.length i d hi' (Nat.le_refl _) (by show p (f zs[i]!) = true; rw [getElem!_pos zs i hi']; simpa using h1) (fun j hj => by
      have hj' : j < zs.length := by omega
      show p (f zs[j]!) = false
      rw [getElem!_pos zs j hj']
      simpa using h2 j hj)
    rw [List.take_length] at this
    exact this
abbrev Tn := { t : Tb // t.no < U64 }
instance : Inhabited Tn := ⟨⟨noT, by decide⟩⟩
set_option maxHeartbeats 1000000 in
/-- slices.IndexFunc of tables -/
theorem indexFunc_any (a : Option Addr) (c : Nat) (l : List Tb) (g : Nat) (lb : Array Value) (p : Tb → Bool) (w : World) (eg : ∀ args w, (callFunc g args).run Tryz.prog w = .ok (.enter g args) w) (h : Ls kTb w (a, l.length, c) l) (hno : ∀ t ∈ l, t.no < U64) (hlen : l.length ≤ 1000000)
    (hp : ∀ (W : World) (t : Tb), t.no < U64 → Below w.heap.size w W → Calls Tryz.prog g (#[tbV t] ++ lb) W fun e w' => e = .returned (.bool (p t)) ∧ Below w.heap.size w w') :
    Calls Tryz.prog 87 #[.slice a l.length c, .func (.func g) #[] lb] w fun e w' => e = .returned (.int .i64 (idx p l)) ∧ Below w.heap.size w w' := by
  by_cases hl : l = []
  · subst hl
    clear hp h
    go_enter Tryz.func87, Tryz.ntmps87
    go_wp2
    go_loopw [8] (fun i wr => i = .int .i64 0 ∧ wr = w) (fun _ _ => 0)
    case atStart => exact ⟨rfl, rfl⟩
    case round =>
      obtain ⟨rfl, rfl⟩ := hrel
      go_wp2
      go_ret
      exact ⟨rfl, Below.refl _ _⟩
  · obtain ⟨b, off, e, hr⟩ := h.1 hl
    change a = some _ at e
    subst e
    obtain ⟨zs, hzs⟩ : ∃ zs : List Tn, zs.map Subtype.val = l := ⟨l.pmap Subtype.mk hno, by simp [List.map_pmap]⟩
    have hzl : zs.length = l.length := by rw [← hzs, List.length_map]
    have hcon := AnyQ.slices_IndexFunc Tryz.idxT 6 Tryz.isAgg76 Tryz.sizeOf76 (fun x : Tn => tbC x.1) (fun _ => rfl) (fun x => p x.1) g lb eg b off l.length c zs w
      (fun W x hb => hp W x.1 x.2 hb) (by omega) (by omega) ?_ ?_
    · rw [List.take_of_length_le (by omega), idx_is Subtype.val p zs, hzs] at hcon
      exact hcon
    · exact hr.1
    · intro j hj i v hi
      have hj' : j < l.length := by omega
      obtain ⟨b', off', e, _, hc⟩ := h.cell (List.getElem?_eq_getElem hj')
      cases e
      refine hc i v ?_
      have e2 : zs[j]!.1 = l[j] := by
        rw [getElem!_pos zs j hj]
        have : l[j]? = (zs.map Subtype.val)[j]? := by rw [hzs]
        rw [List.getElem?_eq_getElem hj', List.getElem?_map, List.getElem?_eq_getElem hj] at this
        simpa using this.symm
      rw [← e2]
      exact hi
theorem idx_none {p : Tb → Bool} {l : List Tb} (h : ∀ t ∈ l, p t = false) : idx p l = -1 := by
  unfold idx
  rw [List.findIdx?_eq_none_iff.2 h]
/-- the closure of dropTaken: is a table's number out of the map? -/
theorem dt1_any {T : Nat → Nat} {w : World} {bx db mb : Nat} {ns : List Nat} {u : Value} (hbx : Zb w bx [.pointer (some ⟨db, 0, none⟩)]) (hdb : Zb w db [u, .map (some mb)]) (hm : WAt T w 4 mb ns) (W : World) (t : Tb) (hn : t.no < U64) (hb : Below w.heap.size w W) :
    Calls Tryz.prog 123 #[tbV t, .pointer (some ⟨bx, 0, none⟩)] W fun e w' => e = .returned (.bool (!decide (t.no ∈ ns))) ∧ Below w.heap.size w w' := by
  have hb1 : Below w.heap.size w (W.alloc (Obj.cells #[.int .u64 (t.no : Int), .int .i64 t.we, .int .i64 t.by_, .int .i64 t.en, .string t.le, .string t.gr] 76)) := hb.alloc hb.size _
  have c0 := (hbx.below hb1).2.1 0 _ rfl
  have c1 := (hdb.below hb1).2.1 1 _ rfl
  obtain ⟨x, hx⟩ := (hm.goes (Goes.below (t := fun _ => False) hb1.drew) (fun z => z)).look t.no hn
  unfold tbV
  go_enter Tryz.func123, Tryz.ntmps123
  go_wp2
  go_region
  all_goals go_wp2
  all_goals go_ret
  all_goals exact ⟨rfl, hb1.drew⟩
end Vr
end YtaejjpbpnedblaaGreat
end Go.Proofs
namespace Go.Proofs.YtaejjpbpnedblaaGreat
namespace Vr
open Go.Shelf Go.RowKit Go.Maps Go.ChangeMaps Go.MapKept Laws Irw Crw
set_option linter.unusedVariables false
set_option linter.unusedSimpArgs false
set_option maxRecDepth 20000
theorem enters124 : ∀ args w, (callFunc 123 args).run Tryz.prog w = .ok (.enter 123 args) w := enters_of Tryz.func123 (by kernel_rfl) rfl
set_option maxHeartbeats 1000000 in
/-- slices.DeleteFunc where nothing goes -/
theorem deleteFunc_none {T : Nat → Nat} {w : World} {bx db mb : Nat} {ns : List Nat} {u : Value} (a : Option Addr) (c : Nat) (l : List Tb) (hbx : Zb w bx [.pointer (some ⟨db, 0, none⟩)]) (hdb : Zb w db [u, .map (some mb)]) (hm : WAt T w 4 mb ns) (h : Ls kTb w (a, l.length, c) l) (hno : ∀ t ∈ l, t.no < U64 ∧ t.no ∈ ns) (hlen : l.length ≤ 1000000) :
    Calls Tryz.prog 122 #[.slice a l.length c, .func (.func 123) #[] #[.pointer (some ⟨bx, 0, none⟩)]] w fun e w' => e = .returned (.slice a l.length c) ∧ Below w.heap.size w w' := by
  have HC : Hid (Calls Tryz.prog 87 #[.slice a l.length c, .func (.func 123) #[] #[.pointer (some ⟨bx, 0, none⟩)]] w fun e w' => e = .returned (.int .i64 (-1)) ∧ Below w.heap.size w w') := by
    have := indexFunc_any a c l 123 #[.pointer (some ⟨bx, 0, none⟩)] (fun t => !decide (t.no ∈ ns)) w enters124 h (fun t ht => (hno t ht).1) hlen (fun W t hn hb => dt1_any hbx hdb hm W t hn hb)
    rw [idx_none (fun t ht => by simp [(hno t ht).2])] at this
    exact this
  clear hbx hdb hm h hno
  go_enter Tryz.func122, Tryz.ntmps122
  go_wp2_with (go_at_call 87; go_loud (refine HC.out.mono ?_; rintro e w1 ⟨rfl, hb1⟩; have HB : Hid (Below w.heap.size w w1) := hb1; clear hb1))
  go_ret
  exact ⟨rfl, HB.out⟩
/-- what dropTaken does where nothing goes -/
def DkIs (w0 : World) (db mb : Nat) (ls : Sv) (V : Lv) (ns : List Nat) (T : Nat → Nat) (e : Ending) (w' : World) : Prop := e = .returned (.tuple #[]) ∧ DAt w0 T w' db mb ls V ns
set_option maxHeartbeats 2000000 in
theorem dropTaken_none {w0 : World} {T : Nat → Nat} {w : World} {db mb lb n c : Nat} {V : Lv} {ns : List Nat} (h : DAt w0 T w db mb (some ⟨lb, 0, none⟩, n, c) V ns) (hf : Fits V) (hno : ∀ l ∈ V, ∀ t ∈ l, t.no < U64 ∧ t.no ∈ ns) :
    Calls Tryz.prog 106 #[.pointer (some ⟨db, 0, none⟩)] w fun e w' => DkIs w0 db mb (some ⟨lb, 0, none⟩, n, c) V ns T e w' := by
  have hn := h.len
  subst hn
  have hv5 := hf.1
  have HF : Hid (Fits V ∧ ∀ l ∈ V, ∀ t ∈ l, t.no < U64 ∧ t.no ∈ ns) := ⟨hf, hno⟩
  have HD : Hid (DAt w0 T (w.alloc (Obj.cells #[.pointer (some ⟨db, 0, none⟩)] 159)) db mb (some ⟨lb, 0, none⟩, V.length, c) V ns ∧ Zb (w.alloc (Obj.cells #[.pointer (some ⟨db, 0, none⟩)] 159)) w.heap.size [.pointer (some ⟨db, 0, none⟩)]) := ⟨h.below ((Below.refl _ _).alloc (Nat.le_refl _) _), Zb.new w #[.pointer (some ⟨db, 0, none⟩)] 159⟩
  have HT : Hid (T w.heap.size = 0 ∧ w.heap.size ≠ lb) := ⟨h.old.zero _ (.inr (Nat.le_refl _)), by
    obtain ⟨vs, l1, _⟩ := h.lvl
    have := (l1.1.lt lb rfl).2
    omega⟩
  have c0 := HD.out.1.box.2.1 0 _ rfl
  simp only [svV] at c0
  clear h hf hno
  go_enter Tryz.func106, Tryz.ntmps106
  go_wp2
  obtain ⟨W, hW⟩ : ∃ W, w.alloc (Obj.cells #[.pointer (some ⟨db, 0, none⟩)] 159) = W := ⟨_, rfl⟩
  obtain ⟨bx, hbx⟩ : ∃ b, w.heap.size = b := ⟨_, rfl⟩
  rw [hW, hbx] at HD
  rw [hbx] at HT
  rw [hW, hbx]
  clear hW hbx c0
  go_loopw [9] (fun i wr => ∃ k : Nat, k ≤ V.length ∧ i = .int .i64 (k : Int) ∧ Hid (DAt w0 T wr db mb (some ⟨lb, 0, none⟩, V.length, c) V ns ∧ Zb wr bx [.pointer (some ⟨db, 0, none⟩)])) (fun i _ => V.length - (intOf i).toNat)
  case atStart => exact ⟨0, Nat.zero_le _, rfl, HD.out⟩
  case round =>
    clear HD
    obtain ⟨k, hk, rfl, HX⟩ := hrel
    rename World => wr
    by_cases hlt : k < V.length
    · have q1 : (k : Int) < (V.length : Int) := by omega
      obtain ⟨l, hl⟩ : ∃ l, V[k]? = some l := ⟨_, List.getElem?_eq_getElem hlt⟩
      obtain ⟨⟨sa, sn, sc⟩, hc, hfr, hown⟩ := HX.out.1.cell hlt hl
      have hsn := (OwnK.sk hown).1
      change sn = l.length at hsn
      subst hsn
      simp only [svV] at hc hown
      have c0 := HX.out.1.box.2.1 0 _ rfl
      simp only [svV] at c0
      have b0 := HX.out.2.2.1 0 _ rfl
      have HC : Hid (Calls Tryz.prog 122 #[.slice sa l.length sc, .func (.func 123) #[] #[.pointer (some ⟨bx, 0, none⟩)]] wr.drew fun e w' => e = .returned (.slice sa l.length sc) ∧ Below wr.heap.size wr w') := by
        have hb : Below wr.heap.size wr wr.drew := (Below.refl _ _).drew
        exact (deleteFunc_none sa sc l (HX.out.2.below hb) (HX.out.1.box.below hb) (HX.out.1.map.goes (Goes.below (t := fun _ => False) hb) (fun z => z)) ((Ls.own (s := (sa, l.length, sc)) hown).below hb) (HF.out.2 l (List.mem_of_getElem? hl)) (HF.out.1.2 l (List.mem_of_getElem? hl))).mono fun e w' hp => ⟨hp.1, hp.2.os, hp.2.tape, hp.2.output, hp.2.size, hp.2.block⟩
      have HO : Hid (OwnK kTb (10 + k) T wr (.slice sa l.length sc) l ∧ V[k]? = some l) := ⟨hown, hl⟩
      clear hown hl
      go_wp2
      go_region_with (go_at_call 122; go_loud (refine HC.out.mono ?_; rintro e w2 ⟨rfl, hb2⟩; have HB2 : Hid (Below wr.heap.size wr w2) := hb2; obtain ⟨u5, hu5, hfr5, ho5⟩ := (HX.out.1.below hb2).cell hlt HO.out.2; have d0 := (HX.out.1.below hb2).box.2.1 0 _ rfl; simp only [svV] at d0; have d1 := (HX.out.2.below hb2).2.1 0 _ rfl; clear hb2 ho5))
      all_goals
        go_wp2
        go_roundw
        case rel =>
          refine ⟨k + 1, by omega, by go_num, ?_⟩
          have h1 := HX.out.1.setl (Goes.below (t := (· = 10 + k)) (T := T) HB2.out) (HO.out.1.below HB2.out) hlt (s := (sa, l.length, sc))
          have e : V.set k l = V := by
            obtain ⟨h1, h2⟩ := List.getElem?_eq_some_iff.1 HO.out.2
            rw [← h2]; exact List.set_getElem_self h1
          rw [e] at h1
          exact ⟨h1.1, (HX.out.2.below HB2.out).other (w' := wr) _ _ HT.out.2⟩
        case measure => simp [intOf]; omega
    · have q1 : ¬ (k : Int) < (V.length : Int) := by omega
      go_wp2
      go_end0
      exact ⟨rfl, HX.out.1⟩
end Vr
end Go.Proofs.YtaejjpbpnedblaaGreat
namespace Go.Proofs.YtaejjpbpnedblaaGreat
namespace Vr
open Go.Shelf Go.RowKit Go.Maps Go.ChangeMaps Go.MapKept Laws Irw Crw
set_option linter.unusedVariables false
set_option linter.unusedSimpArgs false
set_option maxRecDepth 20000
set_option maxHeartbeats 1000000 in
theorem takeOut_nil {w0 : World} {T : Nat → Nat} {w : World} {db mb lb n c : Nat} {V : Lv} {ns : List Nat} (h : DAt w0 T w db mb (some ⟨lb, 0, none⟩, n, c) V ns) (hf : Fits V) (hno : ∀ l ∈ V, ∀ t ∈ l, t.no < U64 ∧ t.no ∈ ns) :
    Calls Tryz.prog 90 #[.pointer (some ⟨db, 0, none⟩), .slice none 0 0] w fun e w' => e = .returned (.int .i64 0) ∧ DAt w0 T w' db mb (some ⟨lb, 0, none⟩, n, c) V ns := by
  have HC : Hid (Calls Tryz.prog 106 #[.pointer (some ⟨db, 0, none⟩)] w fun e w' => DkIs w0 db mb (some ⟨lb, 0, none⟩, n, c) V ns T e w') := dropTaken_none h hf hno
  clear h hf hno
  go_enter Tryz.func90, Tryz.ntmps90
  go_wp2
  go_loopw [11] (fun i wr => i = .int .i64 0 ∧ wr = w) (fun _ _ => 0)
  case atStart => exact ⟨rfl, rfl⟩
  case round =>
    obtain ⟨rfl, rfl⟩ := hrel
    go_wp2_with (go_at_call 106; go_loud (refine HC.out.mono ?_; rintro e w1 ⟨rfl, hd⟩; have HD : Hid (DAt w0 T w1 db mb (some ⟨lb, 0, none⟩, n, c) V ns) := hd; clear hd))
    go_ret
    exact ⟨rfl, HD.out⟩
/-! what bring does, one behind the other -/
theorem bring_cons (V : Lv) (p : Pi) (r : List Pi) : bring V (p :: r) = if 0 ≤ p.lv ∧ p.lv < V.length then (if p.t.no ∈ nums V then .error eTwice else if ltS p.t.gr p.t.le = true then .error eOrder else bring (V.modify p.lv.toNat (· ++ [p.t])) r) else .error eLevel := by
  rw [bring]
theorem bring_append : ∀ (V : Lv) (l r : List Pi), bring V (l ++ r) = match bring V l with
    | .error e => .error e
    | .ok V1 => bring V1 r
  | V, [], r => by simp [bring]
  | V, p :: l, r => by
    rw [List.cons_append, bring_cons, bring_cons]
    by_cases h1 : 0 ≤ p.lv ∧ p.lv < V.length
    · rw [if_pos h1, if_pos h1]
      by_cases h2 : p.t.no ∈ nums V
      · rw [if_pos h2, if_pos h2]
      · rw [if_neg h2, if_neg h2]
        by_cases h3 : ltS p.t.gr p.t.le = true
        · rw [if_pos h3, if_pos h3]
        · rw [if_neg h3, if_neg h3]
          exact bring_append _ l r
    · rw [if_neg h1, if_neg h1]
theorem bring_err {V V1 : Lv} {l : List Pi} {k : Nat} {p : Pi} {e : Int} (h : bring V (l.take k) = .ok V1) (hp : l[k]? = some p) (he : bring V1 [p] = .error e) : bring V l = .error e := by
  have h1 : l = l.take k ++ ([p] ++ l.drop (k + 1)) := by
    obtain ⟨h1, h2⟩ := List.getElem?_eq_some_iff.1 hp
    rw [List.singleton_append, ← h2, ← List.drop_eq_getElem_cons h1, List.take_append_drop]
  rw [h1, bring_append, h]
  dsimp only
  rw [bring_append, he]
theorem bring_step {V V1 V2 : Lv} {l : List Pi} {k : Nat} {p : Pi} (h : bring V (l.take k) = .ok V1) (hp : l[k]? = some p) (he : bring V1 [p] = .ok V2) : bring V (l.take (k + 1)) = .ok V2 := by
  rw [List.take_add_one, hp, bring_append, h]
  exact he
theorem bring_one_level {V : Lv} {p : Pi} (h : ¬ (0 ≤ p.lv ∧ p.lv < V.length)) : bring V [p] = .error eLevel := by
  simp only [bring]; rw [if_neg h]
theorem bring_one_twice {V : Lv} {p : Pi} (h : 0 ≤ p.lv ∧ p.lv < V.length) (h2 : p.t.no ∈ nums V) : bring V [p] = .error eTwice := by
  simp only [bring]; rw [if_pos h, if_pos h2]
theorem bring_one_order {V : Lv} {p : Pi} (h : 0 ≤ p.lv ∧ p.lv < V.length) (h2 : p.t.no ∉ nums V) (h3 : ltS p.t.gr p.t.le = true) : bring V [p] = .error eOrder := by
  simp only [bring]; rw [if_pos h, if_neg h2, if_pos h3]
theorem bring_one_ok {V : Lv} {p : Pi} (h : 0 ≤ p.lv ∧ p.lv < V.length) (h2 : p.t.no ∉ nums V) (h3 : ltS p.t.gr p.t.le = false) : bring V [p] = .ok (V.modify p.lv.toNat (· ++ [p.t])) := by
  simp only [bring]; rw [if_pos h, if_neg h2, if_neg (by rw [h3]; simp)]
theorem modify_set {V : Lv} {i : Nat} {l : List Tb} {t : Tb} (h : V[i]? = some l) : V.modify i (· ++ [t]) = V.set i (l ++ [t]) := by
  obtain ⟨h1, h2⟩ := List.getElem?_eq_some_iff.1 h
  apply List.ext_getElem?
  intro j
  rw [List.getElem?_modify, List.getElem?_set]
  by_cases e : i = j
  · subst e
    simp [h, h1]
    exact h2
  · simp [e]
/-- what lies in the lookups, whatever was drawn -/
theorem WAt.look' {T : Nat → Nat} {w : World} {t mb : Nat} {ns : List Nat} (h : WAt T w t mb ns) (n : Nat) (hn : n < U64) :
    ∃ c : Int, ∀ W : World, W.heap[mb]? = w.heap[mb]? → (Instr.lookup 113 (.map (some mb)) (.int .u64 (n : Int)) true).run Tryz.prog W = .ok (.tuple #[.int .i64 c, .bool (decide (n ∈ ns))]) W := by
  obtain ⟨D, h1, h2⟩ := h.own
  have key : ∀ W : World, W.heap[mb]? = w.heap[mb]? → ∃ c : Int, (Instr.lookup 113 (.map (some mb)) (.int .u64 (n : Int)) true).run Tryz.prog W = .ok (.tuple #[.int .i64 c, .bool (decide (n ∈ ns))]) W ∧ D.atKey (.int .u64 (n : Int)) (.lit (.int .i64 0)) = .lit (.int .i64 c) := by
    intro W hW
    obtain ⟨v, ps, hr, hv⟩ := World.ownsMap.look_ok (h1.block hW) law64 Tryz.underlying113 (zeroI W) (plainElem_int Tryz.underlying3 (by decide)) (key64 hn)
    obtain ⟨c, rfl, hc, _⟩ := plainElem_int_inv Tryz.underlying3 hv
    rw [h2 n hn] at hr
    exact ⟨c, hr, by simpa using congrArg Prod.fst hc⟩
  obtain ⟨c, _, hc⟩ := key w rfl
  refine ⟨c, fun W hW => ?_⟩
  obtain ⟨c', hr, hc'⟩ := key W hW
  rw [hc] at hc'
  have : c = c' := by simpa using hc'
  rw [this]
  exact hr
end Vr
end Go.Proofs.YtaejjpbpnedblaaGreat
