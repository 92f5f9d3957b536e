import Derived.Test.YtnhhalabmmcemaaDoorQb5
import Derived.Test.YtnhhalabmmcemaaDoorTxp
import Derived.RangeFuncNested
import Derived.RangeFuncBound
import Derived.RangeFuncCalls
import Derived.RangeFuncLeaves
import Derived.Shelf.Abstract
import Derived.Shelf.RegionOpen
import Derived.WalkKit
import Derived.OwnWalkIn
import Derived.TacticsInMore
import Derived.LoopNIn
import Derived.LoopIn
import Derived.Sort.LoopGhostIn
import Derived.RegionIn
import Derived.Test.YtnhhalabmmcemaaDoorProg
import Derived.Test.YtnhhalabmmcemaaDoorIRw
import Derived.Test.YtnhhalabmmcemaaDoorLaws
import Derived.Test.YtnhhalabmmcemaaDoorByt
namespace Go.Proofs.YtnhhalabmmcemaaDoor
namespace Qb
open Go.RowKit CMath Byt Laws Irw Crw Cod
set_option linter.unusedVariables false
set_option linter.unusedSimpArgs false
set_option maxRecDepth 20000

def entV (e : En) : Value := .agg #[.string e.1, .int .u64 e.2.1, .bool e.2.2.1, .string e.2.2.2]
def ez : En := (⟨#[]⟩, 0, false, ⟨#[]⟩)
/-- The numbers at the head of an entry, read so far. -/
def RA (l : List Nat) : Nat → List Nat → Nat → Prop
  | 0, hs, p => hs = [] ∧ p = 0
  | k + 1, hs, p => ∃ hs' p', RA l k hs' p' ∧ (rd (l.drop p') 0 0).2.2 = 0 ∧ hs = hs' ++ [(rd (l.drop p') 0 0).1] ∧ p = p' + (rd (l.drop p') 0 0).2.1
theorem RA.len {l : List Nat} : ∀ {k : Nat} {hs : List Nat} {p : Nat}, RA l k hs p → hs.length = k
  | 0, hs, p, h => by rw [h.1]; rfl
  | k + 1, hs, p, h => by
    obtain ⟨hs', p', h1, _, h3, _⟩ := h
    rw [h3, List.length_append, h1.len]; rfl
theorem RA.le {l : List Nat} (hl : ∀ x ∈ l, x < 256) : ∀ {k : Nat} {hs : List Nat} {p : Nat}, RA l k hs p → p ≤ l.length ∧ p ≤ 10 * k ∧ ∀ x ∈ hs, x < 18446744073709551616
  | 0, hs, p, h => by rw [h.1, h.2]; simp
  | k + 1, hs, p, h => by
    obtain ⟨hs', p', h1, h2, h3, h4⟩ := h
    have h5 := h1.le hl
    have hd : ∀ x ∈ l.drop p', x < 256 := fun x hx => hl x (List.mem_of_mem_drop hx)
    have he : rd (l.drop p') 0 0 = ((rd (l.drop p') 0 0).1, (rd (l.drop p') 0 0).2.1, 0) := Prod.ext rfl (Prod.ext rfl h2)
    have h6 := rd_bytes hd he
    have h7 := rd_ok0 hd he
    rw [List.length_drop] at h6
    refine ⟨by omega, by omega, fun x hx => ?_⟩
    rw [h3] at hx
    rcases List.mem_append.1 hx with hx | hx
    · exact h5.2.2 x hx
    · simp at hx; subst hx; exact h7.1
theorem rdE_three {l ah : List Nat} {s m t p : Nat} (h : RA l 3 [s, m, t] p) : rdE l ah = rdE.rdK l ah s m t p := by
  obtain ⟨h2, p2, ⟨h1, p1, ⟨h0, p0, ⟨e0, e0'⟩, z0, e1, e1'⟩, z1, e2, e2'⟩, z2, e3, e3'⟩ := h
  subst e0; subst e0'
  simp only [List.drop_zero, List.nil_append, Nat.zero_add] at z0 e1 e1'
  subst e1; subst e1'
  subst e2; subst e2'
  simp only [List.cons_append, List.nil_append, List.cons.injEq, and_true] at e3
  obtain ⟨rfl, rfl, rfl⟩ := e3
  subst e3'
  unfold rdE
  rw [if_neg (by simpa using z0), if_neg (by simpa using z1), if_neg (by simpa using z2)]
theorem rdE_fail {l ah : List Nat} {k : Nat} {hs : List Nat} {p : Nat} (hk : k < 3) (h : RA l k hs p) (hf : (rd (l.drop p) 0 0).2.2 ≠ 0) : rdE l ah = none := by
  match k, hk with
  | 0, _ =>
    obtain ⟨_, rfl⟩ := h
    simp only [List.drop_zero] at hf
    unfold rdE
    rw [if_pos hf]
  | 1, _ =>
    obtain ⟨h0, p0, ⟨e0, e0'⟩, z0, e1, e1'⟩ := h
    subst e0; subst e0'
    simp only [List.drop_zero, List.nil_append, Nat.zero_add] at z0 e1 e1'
    subst e1'
    unfold rdE
    rw [if_neg (by simpa using z0), if_pos hf]
  | 2, _ =>
    obtain ⟨h1, p1, ⟨h0, p0, ⟨e0, e0'⟩, z0, e1, e1'⟩, z1, e2, e2'⟩ := h
    subst e0; subst e0'
    simp only [List.drop_zero, List.nil_append, Nat.zero_add] at z0 e1 e1'
    subst e1; subst e1'
    subst e2'
    unfold rdE
    rw [if_neg (by simpa using z0), if_neg (by simpa using z1), if_pos hf]
theorem res_ent {fn : Func} {p u v : Tmp} (h : fn.results = #[.cell p 43, .tmp u, .tmp v]) (tmps : Array Value) (w : World) (B : Nat) (k : ByteArray) (s : Int) (d : Bool) (x : ByteArray) (hp : tmps.getD p undef = .pointer (some ⟨B, 0, none⟩))
    (c0 : w.cell? ⟨B, 0, none⟩ = some (.string k)) (c1 : w.cell? ⟨B, 1, none⟩ = some (.int .u64 s)) (c2 : w.cell? ⟨B, 2, none⟩ = some (.bool d)) (c3 : w.cell? ⟨B, 3, none⟩ = some (.string x)) :
    (results fn tmps).run Tryd.prog w = .ok (.tuple #[.agg #[.string k, .int .u64 s, .bool d, .string x], tmps.getD u undef, tmps.getD v undef]) w := by
  simp only [results, h]
  have hp' : tmps[p]?.getD undef = .pointer (some ⟨B, 0, none⟩) := by simpa using hp
  simp [Sem.run_bind, Result.andThen, hp', go_sem, c0, c1, c2, c3]
theorem four_set {w : World} {B : Nat} (v0 v1 v2 v3 : Value) {u0 u1 u2 u3 : Value} (c0 : w.cell? ⟨B, 0, none⟩ = some u0) (c1 : w.cell? ⟨B, 1, none⟩ = some u1) (c2 : w.cell? ⟨B, 2, none⟩ = some u2) (c3 : w.cell? ⟨B, 3, none⟩ = some u3) :
    ((((w.setCell ⟨B, 0, none⟩ v0).setCell ⟨B, 1, none⟩ v1).setCell ⟨B, 2, none⟩ v2).setCell ⟨B, 3, none⟩ v3).cell? ⟨B, 0, none⟩ = some v0 ∧ ((((w.setCell ⟨B, 0, none⟩ v0).setCell ⟨B, 1, none⟩ v1).setCell ⟨B, 2, none⟩ v2).setCell ⟨B, 3, none⟩ v3).cell? ⟨B, 1, none⟩ = some v1 ∧ ((((w.setCell ⟨B, 0, none⟩ v0).setCell ⟨B, 1, none⟩ v1).setCell ⟨B, 2, none⟩ v2).setCell ⟨B, 3, none⟩ v3).cell? ⟨B, 2, none⟩ = some v2 ∧ ((((w.setCell ⟨B, 0, none⟩ v0).setCell ⟨B, 1, none⟩ v1).setCell ⟨B, 2, none⟩ v2).setCell ⟨B, 3, none⟩ v3).cell? ⟨B, 3, none⟩ = some v3 := by
  have ne : ∀ {i j : Nat}, i ≠ j → (⟨B, i, none⟩ : Addr) ≠ ⟨B, j, none⟩ := fun h e => h (congrArg Addr.off e)
  refine ⟨?_, ?_, ?_, ?_⟩
  · rw [World.cell?_setCell_other _ _ _ _ (ne (by omega)), World.cell?_setCell_other _ _ _ _ (ne (by omega)), World.cell?_setCell_other _ _ _ _ (ne (by omega)), World.cell?_setCell_same _ _ _ c0]
  · rw [World.cell?_setCell_other _ _ _ _ (ne (by omega)), World.cell?_setCell_other _ _ _ _ (ne (by omega)), World.cell?_setCell_same _ _ _ ((World.cell?_setCell_other _ _ _ _ (ne (by omega))).trans c1)]
  · rw [World.cell?_setCell_other _ _ _ _ (ne (by omega)), World.cell?_setCell_same _ _ _ (((World.cell?_setCell_other _ _ _ _ (ne (by omega))).trans (World.cell?_setCell_other _ _ _ _ (ne (by omega)))).trans c2)]
  · rw [World.cell?_setCell_same _ _ _ ((((World.cell?_setCell_other _ _ _ _ (ne (by omega))).trans (World.cell?_setCell_other _ _ _ _ (ne (by omega)))).trans (World.cell?_setCell_other _ _ _ _ (ne (by omega)))).trans c3)]
theorem four_below {w0 w : World} {B : Nat} (v0 v1 v2 v3 : Value) (hb : Below w0.heap.size w0 w) (hB : w0.heap.size ≤ B) : Below w0.heap.size w0 ((((w.setCell ⟨B, 0, none⟩ v0).setCell ⟨B, 1, none⟩ v1).setCell ⟨B, 2, none⟩ v2).setCell ⟨B, 3, none⟩ v3) :=
  (((hb.setCell (p := ⟨B, 0, none⟩) hB _).setCell (p := ⟨B, 1, none⟩) hB _).setCell (p := ⟨B, 2, none⟩) hB _).setCell (p := ⟨B, 3, none⟩) hB _
theorem and_one (t : Nat) (ht : t < 18446744073709551616) : bits .and .u64 (t : Int) 1 = ((t % 2 : Nat) : Int) := by
  have h := bits_and_u64_nat t 1 ht (by omega)
  rw [show ((1 : Nat) : Int) = 1 by rfl] at h
  rw [h, Nat.and_one_is_mod]
theorem past {w : World} {X : Obj} {B j : Nat} {v : Value} (h : B < w.heap.size) (hc : w.cell? ⟨B, j, none⟩ = some v) : (w.alloc X).cell? ⟨B, j, none⟩ = some v := by
  rw [World.cell?_alloc_past _ _ _ h]; exact hc
theorem text_le (b : List Nat) (most : Int) : (text b most).2.1 ≤ b.length := by
  unfold text
  split
  · exact Nat.zero_le _
  split
  · exact Nat.zero_le _
  split
  · exact Nat.zero_le _
  · dsimp only; omega
/-- What readEntry leaves. -/
def ReIs (l : List Nat) (ah : ByteArray) (w : World) (e : Ending) (w' : World) : Prop :=
  e = (match rdE l (strB ah) with
    | none => .returned (.tuple #[entV ez, .int .i64 0, .bool false])
    | some x => .returned (.tuple #[entV x.1, .int .i64 (x.2 : Int), .bool true])) ∧ Below w.heap.size w w'
theorem ReIs.no {l : List Nat} {ah : ByteArray} {w w' : World} (h : rdE l (strB ah) = none) (hb : Below w.heap.size w w') : ReIs l ah w (.returned (.tuple #[entV ez, .int .i64 0, .bool false])) w' := ⟨by rw [h], hb⟩
theorem ReIs.yes {l : List Nat} {ah : ByteArray} {w w' : World} {x : En × Nat} (h : rdE l (strB ah) = some x) (hb : Below w.heap.size w w') : ReIs l ah w (.returned (.tuple #[entV x.1, .int .i64 (x.2 : Int), .bool true])) w' := ⟨by rw [h], hb⟩
/-- The piece of a slice from a place on. -/
theorem isB_drop {w : World} {b off : Nat} {l : List Nat} (h : IsB w (some ⟨b, off, none⟩) l) (p : Nat) : IsB w (some ⟨b, off + p, none⟩) (l.drop p) := by
  refine ⟨fun hne => ?_, fun x hx => h.2 x (List.mem_of_mem_drop hx)⟩
  obtain ⟨b', off', e, hr⟩ := h.1 (by rintro rfl; simp at hne)
  cases e
  exact ⟨b, off + p, rfl, hr.drop p⟩

theorem _root_.Go.Proofs.YtnhhalabmmcemaaDoor.Byt.IsB.below' {w w' : World} {a : Option Addr} {l : List Nat} (h : IsB w a l) (hb : Below w.heap.size w w') : IsB w' a l := h.below hb
/-- The boxes of readEntry: R its answer, R + 1 the head. -/
structure RB (w0 w : World) (hs : List Nat) : Prop where
  below : Below w0.heap.size w0 w
  lt : w0.heap.size + 1 < w.heap.size
  r0 : w.cell? ⟨w0.heap.size, 0, none⟩ = some (.string ⟨#[]⟩)
  r1 : w.cell? ⟨w0.heap.size, 1, none⟩ = some (.int .u64 0)
  r2 : w.cell? ⟨w0.heap.size, 2, none⟩ = some (.bool false)
  r3 : w.cell? ⟨w0.heap.size, 3, none⟩ = some (.string ⟨#[]⟩)
  rf : ∀ j, w.frozen? ⟨w0.heap.size, j, none⟩ = false
  h : ∀ j, j < 3 → w.cell? ⟨w0.heap.size + 1, j, none⟩ = some (.int .u64 ((hs.getD j 0 : Nat) : Int))
  hf : ∀ j, w.frozen? ⟨w0.heap.size + 1, j, none⟩ = false
theorem RB.set {w0 w : World} {hs : List Nat} (p : RB w0 w hs) {k : Nat} (hk : hs.length = k) (hk3 : k < 3) (n : Nat) : RB w0 (w.setCell ⟨w0.heap.size + 1, k, none⟩ (.int .u64 (n : Int))) (hs ++ [n]) := by
  have ho : ∀ j, (w.setCell ⟨w0.heap.size + 1, k, none⟩ (.int .u64 (n : Int))).cell? ⟨w0.heap.size, j, none⟩ = w.cell? ⟨w0.heap.size, j, none⟩ := fun j => World.cell?_setCell_other _ _ _ _ (by intro h; have := congrArg Addr.block h; simp at this)
  refine ⟨p.below.setCell (p := ⟨w0.heap.size + 1, k, none⟩) (by simp) _, by simpa using p.lt, (ho 0).trans p.r0, (ho 1).trans p.r1, (ho 2).trans p.r2, (ho 3).trans p.r3, fun j => by rw [World.frozen?_setCell]; exact p.rf j, fun j hj => ?_, fun j => by rw [World.frozen?_setCell]; exact p.hf j⟩
  by_cases e : j = k
  · subst e
    rw [World.cell?_setCell_same _ _ _ (p.h j hj)]
    simp [List.getD, hk]
  · rw [World.cell?_setCell_other _ _ _ _ (by intro h; exact e (congrArg Addr.off h).symm), p.h j hj]
    congr 3
    simp only [List.getD]
    congr 1
    by_cases hlt : j < hs.length
    · rw [List.getElem?_append_left hlt]
    · rw [List.getElem?_eq_none (by omega), List.getElem?_eq_none (by simp; omega)]

set_option maxHeartbeats 2000000 in
theorem readEntry_any (b off : Nat) (cap n : Nat) (l : List Nat) (ah : ByteArray) (w : World) (ha : IsB w (some ⟨b, off, none⟩) l) (hcap : l.length ≤ cap) (hlen : cap ≤ 1000000000000) (hn : n = l.length) (hah : ah.size ≤ 64) :
    Calls Tryd.prog 75 #[.slice (some ⟨b, off, none⟩) n cap, .string ah] w fun e w' => ReIs l ah w e w' := by
  subst hn
  have HB0 : Hid (∀ x ∈ l, x < 256) := ha.2
  have HA : Hid (IsB w (some ⟨b, off, none⟩) l) := ha
  clear ha
  go_enter Tryd.func75, Tryd.ntmps75
  go_wp2
  go_loopw [8, 19] (fun v i wr => ∃ (k p : Nat) (hs : List Nat), k ≤ 3 ∧ p ≤ l.length ∧ v = .int .i64 (p : Int) ∧ i = .int .i64 (k : Int) ∧ Hid (RA l k hs p ∧ RB w wr hs)) (fun _ i _ => 3 - (intOf i).toNat)
  case atStart => exact ⟨0, 0, [], by omega, by omega, rfl, rfl, ⟨rfl, rfl⟩, ⟨by first | exact ((Below.refl _ _).alloc (Nat.le_refl _) _).alloc (by simp) _ | trace_state, by simp, by simp, by simp, by simp, by simp, fun j => by simp, fun j hj => by rcases (show j = 0 ∨ j = 1 ∨ j = 2 by omega) with rfl | rfl | rfl <;> simp, fun j => by simp⟩⟩
  case round =>
    obtain ⟨k, p, hs, hk, hp, rfl, rfl, HK⟩ := hrel
    rename World => wr
    have hW := HK.out.2.below
    by_cases hlt : k < 3
    · have q1 : (k : Int) < 3 := by omega
      obtain ⟨nn, mm, ff, hrd⟩ : ∃ nn mm ff, rd (l.drop p) 0 0 = (nn, mm, ff) := ⟨_, _, _, rfl⟩
      have HRD : Hid (rd (l.drop p) 0 0 = (nn, mm, ff)) := hrd
      have hRA := HK.out.1
      have r0 := HK.out.2.r0
      have r1 := HK.out.2.r1
      have r2 := HK.out.2.r2
      have r3 := HK.out.2.r3
      have rf := HK.out.2.rf
      have rlt := HK.out.2.lt
      by_cases hpL : p = l.length
      · have hnone : rdE l (strB ah) = none := rdE_fail hlt hRA (by rw [hpL, List.drop_length]; simp [rd])
        have HNO : Hid (rdE l (strB ah) = none) := hnone
        have HU : Hid (∀ ad, Calls Tryd.prog 85 #[.slice ad 0 0] wr fun e w' => e = .returned (.tuple #[.int .u64 0, .int .i64 0, .int .i64 20]) ∧ w' = wr) := fun ad => by
          have := uint_any ad 0 0 [] wr (IsB.nil _ _) (Nat.le_refl _) (by omega) rfl
          simpa [rd] using this
        clear hnone hrd HRD hRA
        subst hpL
        go_wp2_with (go_at_call 85; go_loud (refine (HU.out _).mono ?_; rintro e w1 ⟨rfl, hw⟩; have hw2 := hw.symm; clear hw; subst hw2))
        (try simp only [Exit.inBlock, Exit.then])
        have h4 := four_set (.string ⟨#[]⟩) (.int .u64 0) (.bool false) (.string ⟨#[]⟩) r0 r1 r2 r3
        refine bodyPost_ret (res_ent rfl _ _ w.heap.size ⟨#[]⟩ 0 false ⟨#[]⟩ (by rfl) h4.1 h4.2.1 h4.2.2.1 h4.2.2.2) rfl ?_
        exact ReIs.no HNO.out (four_below _ _ _ _ hW (Nat.le_refl _))
      · have hu := uint_any (some ⟨b, off + p, none⟩) (l.length - p) (l.length - p) (l.drop p) wr ((isB_drop HA.out p).below' hW) (by simp) (by omega) (by simp)
        rw [hrd] at hu
        have HU : Hid (Calls Tryd.prog 85 #[.slice (some ⟨b, off + p, none⟩) (l.length - p) (l.length - p)] wr fun e w' => e = .returned (.tuple #[.int .u64 (nn : Int), .int .i64 (mm : Int), .int .i64 (ff : Int)]) ∧ w' = wr) := hu
        clear hu
        have qp : (p : Int) < (l.length : Int) := by omega
        by_cases hff : ff = 0
        · subst hff
          have hz : (rd (l.drop p) 0 0).2.2 = 0 := by rw [hrd]
          have HRA : Hid (RA l (k + 1) (hs ++ [nn]) (p + mm)) := ⟨hs, p, hRA, hz, by rw [hrd], by rw [hrd]⟩
          have hle := (RA.le HB0.out HRA.out).1
          have hc := HK.out.2.h k hlt
          have hcf := HK.out.2.hf k
          have HRB : Hid (RB w (wr.setCell ⟨w.heap.size + 1, k, none⟩ (.int .u64 (nn : Int))) (hs ++ [nn])) := HK.out.2.set hRA.len hlt nn
          clear hRA hz hrd HRD r0 r1 r2 r3 rf
          go_wp2_with (go_at_call 85; go_loud (refine HU.out.mono ?_; rintro e w1 ⟨rfl, hw⟩; have hw2 := hw.symm; clear hw; subst hw2))
          go_roundw
          case rel => exact ⟨k + 1, p + mm, hs ++ [nn], by omega, hle, by go_num, by go_num, HRA.out, HRB.out⟩
          case measure => simp [intOf]; omega
        · have hnone : rdE l (strB ah) = none := rdE_fail hlt hRA (by rw [hrd]; exact hff)
          have HNO : Hid (rdE l (strB ah) = none) := hnone
          have hfi : ((ff : Int) != 0) = true := by simp; omega
          clear hnone hrd HRD hRA
          go_wp2_with (go_at_call 85; go_loud (refine HU.out.mono ?_; rintro e w1 ⟨rfl, hw⟩; have hw2 := hw.symm; clear hw; subst hw2))
          (try simp only [Exit.inBlock, Exit.then])
          have h4 := four_set (.string ⟨#[]⟩) (.int .u64 0) (.bool false) (.string ⟨#[]⟩) r0 r1 r2 r3
          refine bodyPost_ret (res_ent rfl _ _ w.heap.size ⟨#[]⟩ 0 false ⟨#[]⟩ (by rfl) h4.1 h4.2.1 h4.2.2.1 h4.2.2.2) rfl ?_
          exact ReIs.no HNO.out (four_below _ _ _ _ hW (Nat.le_refl _))
    · have hk3 : k = 3 := by omega
      subst hk3
      have hRA := HK.out.1
      have hlen3 := hRA.len
      match hs, hlen3 with
      | [s, m, t], _ =>
        have HE3 : Hid (rdE l (strB ah) = rdE.rdK l (strB ah) s m t p) := rdE_three hRA
        have hle := RA.le HB0.out hRA
        have hs64 : s < 18446744073709551616 := hle.2.2 s (by simp)
        have hm64 : m < 18446744073709551616 := hle.2.2 m (by simp)
        have ht64 : t < 18446744073709551616 := hle.2.2 t (by simp)
        have hp30 : p ≤ 30 := hle.2.1
        have r0 := HK.out.2.r0
        have r1 := HK.out.2.r1
        have r2 := HK.out.2.r2
        have r3 := HK.out.2.r3
        have rf := HK.out.2.rf
        have rlt := HK.out.2.lt
        have h0 : wr.cell? ⟨w.heap.size + 1, 0, none⟩ = some (.int .u64 (s : Int)) := HK.out.2.h 0 (by omega)
        have h1 : wr.cell? ⟨w.heap.size + 1, 1, none⟩ = some (.int .u64 (m : Int)) := HK.out.2.h 1 (by omega)
        have h2 : wr.cell? ⟨w.heap.size + 1, 2, none⟩ = some (.int .u64 (t : Int)) := HK.out.2.h 2 (by omega)
        have HD : Hid (∀ ad, (p < l.length → ad = some ⟨b, off + p, none⟩) → ∀ z, Calls Tryd.prog 88 #[.slice ad (l.length - p) (l.length - p), .string ah, .int .u64 (s : Int), .int .u64 (m : Int)] (wr.drewN z) fun e w' => (e = .returned (if ah.size < s ∨ 64 < s + m ∨ l.length - p < m then .tuple #[.string ⟨#[]⟩, .bool false] else .tuple #[.string (ofB ((strB ah).take s ++ (l.drop p).take m)), .bool true])) ∧ ∃ n, w' = wr.drewN n) := fun ad had z => by
          have hi : IsB (wr.drewN z) ad (l.drop p) := by
            by_cases hlt : p < l.length
            · rw [had hlt]; exact (isB_drop HA.out p).below' (below_drewN hW z)
            · rw [List.drop_of_length_le (by omega)]; exact IsB.nil _ _
          have := readKey_any ad (l.length - p) (l.length - p) (l.drop p) ah s m (wr.drewN z) hi (by simp) (by
            intro h
            by_cases hlt : p < l.length
            · rw [had hlt] at h; cases h
            · omega) (by omega) (by simp) hah hs64 hm64
          rw [List.length_drop] at this
          refine this.mono ?_
          rintro e w' ⟨h1, n, h2⟩
          exact ⟨h1, z + n, by rw [h2, World.drewN_drewN]⟩
        clear hRA hle
        by_cases hpL : p = l.length
        · have qp : (p : Int) = (l.length : Int) := by omega
          have HQ : Hid (∀ z, Calls Tryd.prog 88 #[.slice (some ⟨b, off, none⟩) 0 0, .string ah, .int .u64 (s : Int), .int .u64 (m : Int)] (wr.drewN z) fun e w' => (e = .returned (if ah.size < s ∨ 64 < s + m ∨ l.length - p < m then .tuple #[.string ⟨#[]⟩, .bool false] else .tuple #[.string (ofB ((strB ah).take s ++ (l.drop p).take m)), .bool true])) ∧ ∃ n, w' = wr.drewN n) := fun z => by have := HD.out (some ⟨b, off, none⟩) (fun h => absurd h (by omega)) z; rw [show l.length - p = 0 by omega] at this; rw [show l.length - p = 0 by omega]; exact this
          by_cases hbad : ah.size < s ∨ 64 < s + m ∨ l.length - p < m
          · have HNO : Hid (rdE l (strB ah) = none) := by
              show _ = _
              rw [HE3.out]; unfold rdE.rdK; rw [if_pos (by rw [strB_length]; exact hbad)]
            have HC : Hid (∀ z, Calls Tryd.prog 88 #[.slice (some ⟨b, off, none⟩) 0 0, .string ah, .int .u64 (s : Int), .int .u64 (m : Int)] (wr.drewN z) fun e w' => (e = .returned (.tuple #[.string ⟨#[]⟩, .bool false])) ∧ ∃ n, w' = wr.drewN n) := fun z => by have := HQ.out z; rw [if_pos hbad] at this; exact this
            clear hbad HD HQ
            go_wp2
            go_quiet ((go_at_call 88; exact (HC.out _)))
            go_wp2
            (try simp only [Exit.inBlock, Exit.then])
            have h4 := four_set (w := wr.drewN nq) (.string ⟨#[]⟩) (.int .u64 0) (.bool false) (.string ⟨#[]⟩) r0 r1 r2 r3
            refine bodyPost_ret (res_ent rfl _ _ w.heap.size ⟨#[]⟩ 0 false ⟨#[]⟩ (by rfl) h4.1 h4.2.1 h4.2.2.1 h4.2.2.2) rfl ?_
            exact ReIs.no HNO.out (four_below _ _ _ _ (below_drewN hW _) (Nat.le_refl _))
          · obtain ⟨K, hK⟩ : ∃ K, K = ofB ((strB ah).take s ++ (l.drop p).take m) := ⟨_, rfl⟩
            have HE4 : Hid (rdE l (strB ah) = if t % 2 = 1 then some ((K, ((t / 2 : Nat) : Int), true, ⟨#[]⟩), p + m) else if (text (l.drop (p + m)) 512).2.2 ≠ 0 then none else some ((K, ((t / 2 : Nat) : Int), false, ofB (text (l.drop (p + m)) 512).1), p + m + (text (l.drop (p + m)) 512).2.1)) := by
              show _ = _
              rw [HE3.out, hK]; unfold rdE.rdK; rw [if_neg (by rw [strB_length]; exact hbad)]
            have HC : Hid (∀ z, Calls Tryd.prog 88 #[.slice (some ⟨b, off, none⟩) 0 0, .string ah, .int .u64 (s : Int), .int .u64 (m : Int)] (wr.drewN z) fun e w' => (e = .returned (.tuple #[.string K, .bool true])) ∧ ∃ n, w' = wr.drewN n) := fun z => by have := HQ.out z; rw [if_neg hbad, ← hK] at this; exact this
            have hm64' : m ≤ 64 := by omega
            have hpm : p + m ≤ l.length := by omega
            have htd : ((t / 2 : Nat) : Int) = (t : Int) / 2 := by omega
            clear hbad HD HQ hK
            by_cases hodd : t % 2 = 1
            · have hand : bits .and .u64 (t : Int) 1 = 1 := by have := and_one t ht64; rw [hodd] at this; exact this
              have HYE : Hid (rdE l (strB ah) = some ((K, (t : Int) / 2, true, ⟨#[]⟩), p + m)) := by show _ = _; rw [HE4.out, if_pos hodd, htd]
              clear HE4 HE3 htd
              go_wp2
              go_quiet ((go_at_call 88; exact (HC.out _)))
              have RB5 : Hid (Below w.heap.size w (wr.drewN nq)) := below_drewN hW _
              have r0' : (wr.drewN nq).cell? ⟨w.heap.size, 0, none⟩ = some (.string ⟨#[]⟩) := r0
              have r1' : (wr.drewN nq).cell? ⟨w.heap.size, 1, none⟩ = some (.int .u64 0) := r1
              have r2' : (wr.drewN nq).cell? ⟨w.heap.size, 2, none⟩ = some (.bool false) := r2
              have r3' : (wr.drewN nq).cell? ⟨w.heap.size, 3, none⟩ = some (.string ⟨#[]⟩) := r3
              have rf' : ∀ j, (wr.drewN nq).frozen? ⟨w.heap.size, j, none⟩ = false := rf
              have rlt' : w.heap.size + 1 < (wr.drewN nq).heap.size := rlt
              have h1' : (wr.drewN nq).cell? ⟨w.heap.size + 1, 1, none⟩ = some (.int .u64 (m : Int)) := h1
              have h2' : (wr.drewN nq).cell? ⟨w.heap.size + 1, 2, none⟩ = some (.int .u64 (t : Int)) := h2
              clear HC HK hW r0 r1 r2 r3 rf rlt h0 h1 h2
              generalize wr.drewN nq = V at *
              have f0' := rf' 0
              have f1' := rf' 1
              have f2' := rf' 2
              have f3' := rf' 3
              have hne : ¬ w.heap.size = V.heap.size := by omega
              have hlt' : w.heap.size < V.heap.size := by omega
              go_wp2
              (try simp only [Exit.inBlock, Exit.then])
              have h4 := four_set (w := V) (.string K) (.int .u64 ((t : Int) / 2)) (.bool true) (.string ⟨#[]⟩) r0' r1' r2' r3'
              have hb4 : w.heap.size < ((((V.setCell ⟨w.heap.size, 0, none⟩ (.string K)).setCell ⟨w.heap.size, 1, none⟩ (.int .u64 ((t : Int) / 2))).setCell ⟨w.heap.size, 2, none⟩ (.bool true)).setCell ⟨w.heap.size, 3, none⟩ (.string ⟨#[]⟩)).heap.size := by simpa using hlt'
              refine bodyPost_ret (res_ent rfl _ _ w.heap.size K ((t : Int) / 2) true ⟨#[]⟩ (by rfl) (past hb4 h4.1) (past hb4 h4.2.1) (past hb4 h4.2.2.1) (past hb4 h4.2.2.2)) rfl ?_
              have hfin := ReIs.yes HYE.out ((four_below (.string K) (.int .u64 ((t : Int) / 2)) (.bool true) (.string ⟨#[]⟩) RB5.out (Nat.le_refl _)).alloc (by simpa using Nat.le_of_lt hlt') (.cells #[.string K, .int .u64 ((t : Int) / 2), .bool true, .string ⟨#[]⟩] 43))
              rw [show (((K, (t : Int) / 2, true, (⟨#[]⟩ : ByteArray)), p + m) : En × Nat).2 = p + m from rfl, show ((p + m : Nat) : Int) = (p : Int) + (m : Int) by omega] at hfin
              first | (rw [qp] at hfin; exact hfin) | exact hfin
            · have hand : bits .and .u64 (t : Int) 1 = 0 := by have := and_one t ht64; rw [show t % 2 = 0 by omega] at this; exact this
              obtain ⟨tx, tn, tf, htxt⟩ : ∃ tx tn tf, text (l.drop (p + m)) 512 = (tx, tn, tf) := ⟨_, _, _, rfl⟩
              rw [if_neg hodd, htxt] at HE4
              dsimp only at HE4
              have HT : Hid (∀ ad V', Below w.heap.size w V' → (p + m < l.length → ad = some ⟨b, off + (p + m), none⟩) → Calls Tryd.prog 89 #[.slice ad (l.length - (p + m)) (l.length - (p + m)), .int .i64 512] V' fun e w' => e = .returned (.tuple #[.string (ofB tx), .int .i64 (tn : Int), .int .i64 (tf : Int)]) ∧ w' = V') := fun ad V' hV had => by
                have hi : IsB V' ad (l.drop (p + m)) := by
                  by_cases hlt : p + m < l.length
                  · rw [had hlt]; exact (isB_drop HA.out (p + m)).below' hV
                  · rw [List.drop_of_length_le (by omega)]; exact IsB.nil _ _
                have := text_any ad (l.length - (p + m)) (l.length - (p + m)) (l.drop (p + m)) 512 V' hi (by simp) (by omega) (by omega) (by simp)
                unfold txt at this
                rw [htxt] at this
                exact this
              have HTN : Hid (tn ≤ l.length) := by
                have := text_le (l.drop (p + m)) 512
                rw [htxt, List.length_drop] at this
                show tn ≤ _
                have h : tn ≤ l.length - (p + m) := this
                omega
              have htn := HTN.out
              clear htxt HE3
              go_wp2
              go_quiet ((go_at_call 88; exact (HC.out _)))
              have RB5 : Hid (Below w.heap.size w (wr.drewN nq)) := below_drewN hW _
              have r0' : (wr.drewN nq).cell? ⟨w.heap.size, 0, none⟩ = some (.string ⟨#[]⟩) := r0
              have r1' : (wr.drewN nq).cell? ⟨w.heap.size, 1, none⟩ = some (.int .u64 0) := r1
              have r2' : (wr.drewN nq).cell? ⟨w.heap.size, 2, none⟩ = some (.bool false) := r2
              have r3' : (wr.drewN nq).cell? ⟨w.heap.size, 3, none⟩ = some (.string ⟨#[]⟩) := r3
              have rf' : ∀ j, (wr.drewN nq).frozen? ⟨w.heap.size, j, none⟩ = false := rf
              have rlt' : w.heap.size + 1 < (wr.drewN nq).heap.size := rlt
              have h1' : (wr.drewN nq).cell? ⟨w.heap.size + 1, 1, none⟩ = some (.int .u64 (m : Int)) := h1
              have h2' : (wr.drewN nq).cell? ⟨w.heap.size + 1, 2, none⟩ = some (.int .u64 (t : Int)) := h2
              clear HC HK hW r0 r1 r2 r3 rf rlt h0 h1 h2
              generalize wr.drewN nq = V at *
              have f0' := rf' 0
              have f1' := rf' 1
              have f2' := rf' 2
              have f3' := rf' 3
              have hne : ¬ w.heap.size = V.heap.size := by omega
              have hlt' : w.heap.size < V.heap.size := by omega
              have HV2 : Hid (Below w.heap.size w (V.alloc (.cells #[.string K, .int .u64 ((t : Int) / 2), .bool false, .string ⟨#[]⟩] 43))) := RB5.out.alloc (Nat.le_of_lt hlt') _
              by_cases hpm2 : p + m = l.length
              · have HT2 : Hid (∀ ad V', Below w.heap.size w V' → Calls Tryd.prog 89 #[.slice ad 0 0, .int .i64 512] V' fun e w' => e = .returned (.tuple #[.string (ofB tx), .int .i64 (tn : Int), .int .i64 (tf : Int)]) ∧ w' = V') := fun ad V' hV => by have := HT.out ad V' hV (fun h => absurd h (by omega)); rw [show l.length - (p + m) = 0 by omega] at this; exact this
                clear HT
                have q9 : (p : Int) + (m : Int) = (l.length : Int) := by omega
                by_cases htf : tf = 0
                · subst htf
                  have HYE : Hid (rdE l (strB ah) = some ((K, (t : Int) / 2, false, ofB tx), p + m + tn)) := by show _ = _; rw [HE4.out, if_neg (by simp), htd]
                  clear HE4
                  go_wp2_with (go_at_call 89; go_loud (refine (HT2.out _ _ HV2.out).mono ?_; rintro e w1 ⟨rfl, hw⟩; have hw2 := hw.symm; clear hw; subst hw2))
                  (try simp only [Exit.inBlock, Exit.then])
                  have h4 := four_set (w := V) (.string K) (.int .u64 ((t : Int) / 2)) (.bool false) (.string (ofB tx)) r0' r1' r2' r3'
                  have hb4 : w.heap.size < ((((V.setCell ⟨w.heap.size, 0, none⟩ (.string K)).setCell ⟨w.heap.size, 1, none⟩ (.int .u64 ((t : Int) / 2))).setCell ⟨w.heap.size, 2, none⟩ (.bool false)).setCell ⟨w.heap.size, 3, none⟩ (.string (ofB tx))).heap.size := by simpa using hlt'
                  refine bodyPost_ret (res_ent rfl _ _ w.heap.size K ((t : Int) / 2) false (ofB tx) (by rfl) (past hb4 h4.1) (past hb4 h4.2.1) (past hb4 h4.2.2.1) (past hb4 h4.2.2.2)) rfl ?_
                  have hfin := ReIs.yes HYE.out ((four_below (.string K) (.int .u64 ((t : Int) / 2)) (.bool false) (.string (ofB tx)) RB5.out (Nat.le_refl _)).alloc (by simpa using Nat.le_of_lt hlt') (.cells #[.string K, .int .u64 ((t : Int) / 2), .bool false, .string (ofB tx)] 43))
                  rw [show (((K, (t : Int) / 2, false, ofB tx), p + m + tn) : En × Nat).2 = p + m + tn from rfl, show ((p + m + tn : Nat) : Int) = (p : Int) + (m : Int) + (tn : Int) by omega] at hfin
                  first | (rw [qp] at hfin; exact hfin) | (rw [q9] at hfin; exact hfin) | (rw [show (p : Int) + (m : Int) + (tn : Int) = (l.length : Int) + (tn : Int) by omega] at hfin; exact hfin) | exact hfin
                · have HNO : Hid (rdE l (strB ah) = none) := by show _ = _; rw [HE4.out, if_pos htf]
                  have hfi : ((tf : Int) != 0) = true := by simp; omega
                  clear HE4
                  go_wp2_with (go_at_call 89; go_loud (refine (HT2.out _ _ HV2.out).mono ?_; rintro e w1 ⟨rfl, hw⟩; have hw2 := hw.symm; clear hw; subst hw2))
                  (try simp only [Exit.inBlock, Exit.then])
                  have h4 := four_set (w := V) (.string ⟨#[]⟩) (.int .u64 0) (.bool false) (.string ⟨#[]⟩) r0' r1' r2' r3'
                  have hb4 : w.heap.size < ((((V.setCell ⟨w.heap.size, 0, none⟩ (.string ⟨#[]⟩)).setCell ⟨w.heap.size, 1, none⟩ (.int .u64 0)).setCell ⟨w.heap.size, 2, none⟩ (.bool false)).setCell ⟨w.heap.size, 3, none⟩ (.string ⟨#[]⟩)).heap.size := by simpa using hlt'
                  refine bodyPost_ret (res_ent rfl _ _ w.heap.size ⟨#[]⟩ 0 false ⟨#[]⟩ (by rfl) (past hb4 h4.1) (past hb4 h4.2.1) (past hb4 h4.2.2.1) (past hb4 h4.2.2.2)) rfl ?_
                  exact ReIs.no HNO.out ((four_below (.string ⟨#[]⟩) (.int .u64 0) (.bool false) (.string ⟨#[]⟩) RB5.out (Nat.le_refl _)).alloc (by simpa using Nat.le_of_lt hlt') _)
              · exact absurd (show p + m = l.length by omega) hpm2
        · have qp : (p : Int) < (l.length : Int) := by omega
          have HQ : Hid (∀ z, Calls Tryd.prog 88 #[.slice (some ⟨b, off + p, none⟩) (l.length - p) (l.length - p), .string ah, .int .u64 (s : Int), .int .u64 (m : Int)] (wr.drewN z) fun e w' => (e = .returned (if ah.size < s ∨ 64 < s + m ∨ l.length - p < m then .tuple #[.string ⟨#[]⟩, .bool false] else .tuple #[.string (ofB ((strB ah).take s ++ (l.drop p).take m)), .bool true])) ∧ ∃ n, w' = wr.drewN n) := HD.out _ (fun _ => rfl)
          by_cases hbad : ah.size < s ∨ 64 < s + m ∨ l.length - p < m
          · have HNO : Hid (rdE l (strB ah) = none) := by
              show _ = _
              rw [HE3.out]; unfold rdE.rdK; rw [if_pos (by rw [strB_length]; exact hbad)]
            have HC : Hid (∀ z, Calls Tryd.prog 88 #[.slice (some ⟨b, off + p, none⟩) (l.length - p) (l.length - p), .string ah, .int .u64 (s : Int), .int .u64 (m : Int)] (wr.drewN z) fun e w' => (e = .returned (.tuple #[.string ⟨#[]⟩, .bool false])) ∧ ∃ n, w' = wr.drewN n) := fun z => by have := HQ.out z; rw [if_pos hbad] at this; exact this
            clear hbad HD HQ
            go_wp2
            go_quiet ((go_at_call 88; exact (HC.out _)))
            go_wp2
            (try simp only [Exit.inBlock, Exit.then])
            have h4 := four_set (w := wr.drewN nq) (.string ⟨#[]⟩) (.int .u64 0) (.bool false) (.string ⟨#[]⟩) r0 r1 r2 r3
            refine bodyPost_ret (res_ent rfl _ _ w.heap.size ⟨#[]⟩ 0 false ⟨#[]⟩ (by rfl) h4.1 h4.2.1 h4.2.2.1 h4.2.2.2) rfl ?_
            exact ReIs.no HNO.out (four_below _ _ _ _ (below_drewN hW _) (Nat.le_refl _))
          · obtain ⟨K, hK⟩ : ∃ K, K = ofB ((strB ah).take s ++ (l.drop p).take m) := ⟨_, rfl⟩
            have HE4 : Hid (rdE l (strB ah) = if t % 2 = 1 then some ((K, ((t / 2 : Nat) : Int), true, ⟨#[]⟩), p + m) else if (text (l.drop (p + m)) 512).2.2 ≠ 0 then none else some ((K, ((t / 2 : Nat) : Int), false, ofB (text (l.drop (p + m)) 512).1), p + m + (text (l.drop (p + m)) 512).2.1)) := by
              show _ = _
              rw [HE3.out, hK]; unfold rdE.rdK; rw [if_neg (by rw [strB_length]; exact hbad)]
            have HC : Hid (∀ z, Calls Tryd.prog 88 #[.slice (some ⟨b, off + p, none⟩) (l.length - p) (l.length - p), .string ah, .int .u64 (s : Int), .int .u64 (m : Int)] (wr.drewN z) fun e w' => (e = .returned (.tuple #[.string K, .bool true])) ∧ ∃ n, w' = wr.drewN n) := fun z => by have := HQ.out z; rw [if_neg hbad, ← hK] at this; exact this
            have hm64' : m ≤ 64 := by omega
            have hpm : p + m ≤ l.length := by omega
            have htd : ((t / 2 : Nat) : Int) = (t : Int) / 2 := by omega
            clear hbad HD HQ hK
            by_cases hodd : t % 2 = 1
            · have hand : bits .and .u64 (t : Int) 1 = 1 := by have := and_one t ht64; rw [hodd] at this; exact this
              have HYE : Hid (rdE l (strB ah) = some ((K, (t : Int) / 2, true, ⟨#[]⟩), p + m)) := by show _ = _; rw [HE4.out, if_pos hodd, htd]
              clear HE4 HE3 htd
              go_wp2
              go_quiet ((go_at_call 88; exact (HC.out _)))
              have RB5 : Hid (Below w.heap.size w (wr.drewN nq)) := below_drewN hW _
              have r0' : (wr.drewN nq).cell? ⟨w.heap.size, 0, none⟩ = some (.string ⟨#[]⟩) := r0
              have r1' : (wr.drewN nq).cell? ⟨w.heap.size, 1, none⟩ = some (.int .u64 0) := r1
              have r2' : (wr.drewN nq).cell? ⟨w.heap.size, 2, none⟩ = some (.bool false) := r2
              have r3' : (wr.drewN nq).cell? ⟨w.heap.size, 3, none⟩ = some (.string ⟨#[]⟩) := r3
              have rf' : ∀ j, (wr.drewN nq).frozen? ⟨w.heap.size, j, none⟩ = false := rf
              have rlt' : w.heap.size + 1 < (wr.drewN nq).heap.size := rlt
              have h1' : (wr.drewN nq).cell? ⟨w.heap.size + 1, 1, none⟩ = some (.int .u64 (m : Int)) := h1
              have h2' : (wr.drewN nq).cell? ⟨w.heap.size + 1, 2, none⟩ = some (.int .u64 (t : Int)) := h2
              clear HC HK hW r0 r1 r2 r3 rf rlt h0 h1 h2
              generalize wr.drewN nq = V at *
              have f0' := rf' 0
              have f1' := rf' 1
              have f2' := rf' 2
              have f3' := rf' 3
              have hne : ¬ w.heap.size = V.heap.size := by omega
              have hlt' : w.heap.size < V.heap.size := by omega
              go_wp2
              (try simp only [Exit.inBlock, Exit.then])
              have h4 := four_set (w := V) (.string K) (.int .u64 ((t : Int) / 2)) (.bool true) (.string ⟨#[]⟩) r0' r1' r2' r3'
              have hb4 : w.heap.size < ((((V.setCell ⟨w.heap.size, 0, none⟩ (.string K)).setCell ⟨w.heap.size, 1, none⟩ (.int .u64 ((t : Int) / 2))).setCell ⟨w.heap.size, 2, none⟩ (.bool true)).setCell ⟨w.heap.size, 3, none⟩ (.string ⟨#[]⟩)).heap.size := by simpa using hlt'
              refine bodyPost_ret (res_ent rfl _ _ w.heap.size K ((t : Int) / 2) true ⟨#[]⟩ (by rfl) (past hb4 h4.1) (past hb4 h4.2.1) (past hb4 h4.2.2.1) (past hb4 h4.2.2.2)) rfl ?_
              have hfin := ReIs.yes HYE.out ((four_below (.string K) (.int .u64 ((t : Int) / 2)) (.bool true) (.string ⟨#[]⟩) RB5.out (Nat.le_refl _)).alloc (by simpa using Nat.le_of_lt hlt') (.cells #[.string K, .int .u64 ((t : Int) / 2), .bool true, .string ⟨#[]⟩] 43))
              rw [show (((K, (t : Int) / 2, true, (⟨#[]⟩ : ByteArray)), p + m) : En × Nat).2 = p + m from rfl, show ((p + m : Nat) : Int) = (p : Int) + (m : Int) by omega] at hfin
              exact hfin
            · have hand : bits .and .u64 (t : Int) 1 = 0 := by have := and_one t ht64; rw [show t % 2 = 0 by omega] at this; exact this
              obtain ⟨tx, tn, tf, htxt⟩ : ∃ tx tn tf, text (l.drop (p + m)) 512 = (tx, tn, tf) := ⟨_, _, _, rfl⟩
              rw [if_neg hodd, htxt] at HE4
              dsimp only at HE4
              have HT : Hid (∀ ad V', Below w.heap.size w V' → (p + m < l.length → ad = some ⟨b, off + (p + m), none⟩) → Calls Tryd.prog 89 #[.slice ad (l.length - (p + m)) (l.length - (p + m)), .int .i64 512] V' fun e w' => e = .returned (.tuple #[.string (ofB tx), .int .i64 (tn : Int), .int .i64 (tf : Int)]) ∧ w' = V') := fun ad V' hV had => by
                have hi : IsB V' ad (l.drop (p + m)) := by
                  by_cases hlt : p + m < l.length
                  · rw [had hlt]; exact (isB_drop HA.out (p + m)).below' hV
                  · rw [List.drop_of_length_le (by omega)]; exact IsB.nil _ _
                have := text_any ad (l.length - (p + m)) (l.length - (p + m)) (l.drop (p + m)) 512 V' hi (by simp) (by omega) (by omega) (by simp)
                unfold txt at this
                rw [htxt] at this
                exact this
              have HTN : Hid (tn ≤ l.length) := by
                have := text_le (l.drop (p + m)) 512
                rw [htxt, List.length_drop] at this
                show tn ≤ _
                have h : tn ≤ l.length - (p + m) := this
                omega
              have htn := HTN.out
              clear htxt HE3
              go_wp2
              go_quiet ((go_at_call 88; exact (HC.out _)))
              have RB5 : Hid (Below w.heap.size w (wr.drewN nq)) := below_drewN hW _
              have r0' : (wr.drewN nq).cell? ⟨w.heap.size, 0, none⟩ = some (.string ⟨#[]⟩) := r0
              have r1' : (wr.drewN nq).cell? ⟨w.heap.size, 1, none⟩ = some (.int .u64 0) := r1
              have r2' : (wr.drewN nq).cell? ⟨w.heap.size, 2, none⟩ = some (.bool false) := r2
              have r3' : (wr.drewN nq).cell? ⟨w.heap.size, 3, none⟩ = some (.string ⟨#[]⟩) := r3
              have rf' : ∀ j, (wr.drewN nq).frozen? ⟨w.heap.size, j, none⟩ = false := rf
              have rlt' : w.heap.size + 1 < (wr.drewN nq).heap.size := rlt
              have h1' : (wr.drewN nq).cell? ⟨w.heap.size + 1, 1, none⟩ = some (.int .u64 (m : Int)) := h1
              have h2' : (wr.drewN nq).cell? ⟨w.heap.size + 1, 2, none⟩ = some (.int .u64 (t : Int)) := h2
              clear HC HK hW r0 r1 r2 r3 rf rlt h0 h1 h2
              generalize wr.drewN nq = V at *
              have f0' := rf' 0
              have f1' := rf' 1
              have f2' := rf' 2
              have f3' := rf' 3
              have hne : ¬ w.heap.size = V.heap.size := by omega
              have hlt' : w.heap.size < V.heap.size := by omega
              have HV2 : Hid (Below w.heap.size w (V.alloc (.cells #[.string K, .int .u64 ((t : Int) / 2), .bool false, .string ⟨#[]⟩] 43))) := RB5.out.alloc (Nat.le_of_lt hlt') _
              by_cases hpm2 : p + m = l.length
              · have HT2 : Hid (∀ ad V', Below w.heap.size w V' → Calls Tryd.prog 89 #[.slice ad 0 0, .int .i64 512] V' fun e w' => e = .returned (.tuple #[.string (ofB tx), .int .i64 (tn : Int), .int .i64 (tf : Int)]) ∧ w' = V') := fun ad V' hV => by have := HT.out ad V' hV (fun h => absurd h (by omega)); rw [show l.length - (p + m) = 0 by omega] at this; exact this
                clear HT
                have q9 : (p : Int) + (m : Int) = (l.length : Int) := by omega
                by_cases htf : tf = 0
                · subst htf
                  have HYE : Hid (rdE l (strB ah) = some ((K, (t : Int) / 2, false, ofB tx), p + m + tn)) := by show _ = _; rw [HE4.out, if_neg (by simp), htd]
                  clear HE4
                  go_wp2_with (go_at_call 89; go_loud (refine (HT2.out _ _ HV2.out).mono ?_; rintro e w1 ⟨rfl, hw⟩; have hw2 := hw.symm; clear hw; subst hw2))
                  (try simp only [Exit.inBlock, Exit.then])
                  have h4 := four_set (w := V) (.string K) (.int .u64 ((t : Int) / 2)) (.bool false) (.string (ofB tx)) r0' r1' r2' r3'
                  have hb4 : w.heap.size < ((((V.setCell ⟨w.heap.size, 0, none⟩ (.string K)).setCell ⟨w.heap.size, 1, none⟩ (.int .u64 ((t : Int) / 2))).setCell ⟨w.heap.size, 2, none⟩ (.bool false)).setCell ⟨w.heap.size, 3, none⟩ (.string (ofB tx))).heap.size := by simpa using hlt'
                  refine bodyPost_ret (res_ent rfl _ _ w.heap.size K ((t : Int) / 2) false (ofB tx) (by rfl) (past hb4 h4.1) (past hb4 h4.2.1) (past hb4 h4.2.2.1) (past hb4 h4.2.2.2)) rfl ?_
                  have hfin := ReIs.yes HYE.out ((four_below (.string K) (.int .u64 ((t : Int) / 2)) (.bool false) (.string (ofB tx)) RB5.out (Nat.le_refl _)).alloc (by simpa using Nat.le_of_lt hlt') (.cells #[.string K, .int .u64 ((t : Int) / 2), .bool false, .string (ofB tx)] 43))
                  rw [show (((K, (t : Int) / 2, false, ofB tx), p + m + tn) : En × Nat).2 = p + m + tn from rfl, show ((p + m + tn : Nat) : Int) = (p : Int) + (m : Int) + (tn : Int) by omega] at hfin
                  rw [q9] at hfin
                  exact hfin
                · have HNO : Hid (rdE l (strB ah) = none) := by show _ = _; rw [HE4.out, if_pos htf]
                  have hfi : ((tf : Int) != 0) = true := by simp; omega
                  clear HE4
                  go_wp2_with (go_at_call 89; go_loud (refine (HT2.out _ _ HV2.out).mono ?_; rintro e w1 ⟨rfl, hw⟩; have hw2 := hw.symm; clear hw; subst hw2))
                  (try simp only [Exit.inBlock, Exit.then])
                  have h4 := four_set (w := V) (.string ⟨#[]⟩) (.int .u64 0) (.bool false) (.string ⟨#[]⟩) r0' r1' r2' r3'
                  have hb4 : w.heap.size < ((((V.setCell ⟨w.heap.size, 0, none⟩ (.string ⟨#[]⟩)).setCell ⟨w.heap.size, 1, none⟩ (.int .u64 0)).setCell ⟨w.heap.size, 2, none⟩ (.bool false)).setCell ⟨w.heap.size, 3, none⟩ (.string ⟨#[]⟩)).heap.size := by simpa using hlt'
                  refine bodyPost_ret (res_ent rfl _ _ w.heap.size ⟨#[]⟩ 0 false ⟨#[]⟩ (by rfl) (past hb4 h4.1) (past hb4 h4.2.1) (past hb4 h4.2.2.1) (past hb4 h4.2.2.2)) rfl ?_
                  exact ReIs.no HNO.out ((four_below (.string ⟨#[]⟩) (.int .u64 0) (.bool false) (.string ⟨#[]⟩) RB5.out (Nat.le_refl _)).alloc (by simpa using Nat.le_of_lt hlt') _)
              · have HT2 : Hid (∀ ad V', Below w.heap.size w V' → ad = some ⟨b, off + (p + m), none⟩ → Calls Tryd.prog 89 #[.slice ad (l.length - (p + m)) (l.length - (p + m)), .int .i64 512] V' fun e w' => e = .returned (.tuple #[.string (ofB tx), .int .i64 (tn : Int), .int .i64 (tf : Int)]) ∧ w' = V') := fun ad V' hV h => HT.out ad V' hV (fun _ => h)
                clear HT
                have q9 : (p : Int) + (m : Int) < (l.length : Int) := by omega
                by_cases htf : tf = 0
                · subst htf
                  have HYE : Hid (rdE l (strB ah) = some ((K, (t : Int) / 2, false, ofB tx), p + m + tn)) := by show _ = _; rw [HE4.out, if_neg (by simp), htd]
                  clear HE4
                  go_wp2_with (go_at_call 89; go_loud (refine (HT2.out _ _ HV2.out rfl).mono ?_; rintro e w1 ⟨rfl, hw⟩; have hw2 := hw.symm; clear hw; subst hw2))
                  (try simp only [Exit.inBlock, Exit.then])
                  have h4 := four_set (w := V) (.string K) (.int .u64 ((t : Int) / 2)) (.bool false) (.string (ofB tx)) r0' r1' r2' r3'
                  have hb4 : w.heap.size < ((((V.setCell ⟨w.heap.size, 0, none⟩ (.string K)).setCell ⟨w.heap.size, 1, none⟩ (.int .u64 ((t : Int) / 2))).setCell ⟨w.heap.size, 2, none⟩ (.bool false)).setCell ⟨w.heap.size, 3, none⟩ (.string (ofB tx))).heap.size := by simpa using hlt'
                  refine bodyPost_ret (res_ent rfl _ _ w.heap.size K ((t : Int) / 2) false (ofB tx) (by rfl) (past hb4 h4.1) (past hb4 h4.2.1) (past hb4 h4.2.2.1) (past hb4 h4.2.2.2)) rfl ?_
                  have hfin := ReIs.yes HYE.out ((four_below (.string K) (.int .u64 ((t : Int) / 2)) (.bool false) (.string (ofB tx)) RB5.out (Nat.le_refl _)).alloc (by simpa using Nat.le_of_lt hlt') (.cells #[.string K, .int .u64 ((t : Int) / 2), .bool false, .string (ofB tx)] 43))
                  rw [show (((K, (t : Int) / 2, false, ofB tx), p + m + tn) : En × Nat).2 = p + m + tn from rfl, show ((p + m + tn : Nat) : Int) = (p : Int) + (m : Int) + (tn : Int) by omega] at hfin
                  exact hfin
                · have HNO : Hid (rdE l (strB ah) = none) := by show _ = _; rw [HE4.out, if_pos htf]
                  have hfi : ((tf : Int) != 0) = true := by simp; omega
                  clear HE4
                  go_wp2_with (go_at_call 89; go_loud (refine (HT2.out _ _ HV2.out rfl).mono ?_; rintro e w1 ⟨rfl, hw⟩; have hw2 := hw.symm; clear hw; subst hw2))
                  (try simp only [Exit.inBlock, Exit.then])
                  have h4 := four_set (w := V) (.string ⟨#[]⟩) (.int .u64 0) (.bool false) (.string ⟨#[]⟩) r0' r1' r2' r3'
                  have hb4 : w.heap.size < ((((V.setCell ⟨w.heap.size, 0, none⟩ (.string ⟨#[]⟩)).setCell ⟨w.heap.size, 1, none⟩ (.int .u64 0)).setCell ⟨w.heap.size, 2, none⟩ (.bool false)).setCell ⟨w.heap.size, 3, none⟩ (.string ⟨#[]⟩)).heap.size := by simpa using hlt'
                  refine bodyPost_ret (res_ent rfl _ _ w.heap.size ⟨#[]⟩ 0 false ⟨#[]⟩ (by rfl) (past hb4 h4.1) (past hb4 h4.2.1) (past hb4 h4.2.2.1) (past hb4 h4.2.2.2)) rfl ?_
                  exact ReIs.no HNO.out ((four_below (.string ⟨#[]⟩) (.int .u64 0) (.bool false) (.string ⟨#[]⟩) RB5.out (Nat.le_refl _)).alloc (by simpa using Nat.le_of_lt hlt') _)

end Qb
end Go.Proofs.YtnhhalabmmcemaaDoor
namespace Go.Proofs.YtnhhalabmmcemaaDoor
namespace Qe
open Go.RowKit Go.Shelf Laws Irw
set_option linter.unusedVariables false
set_option maxRecDepth 100000
set_option linter.unusedSimpArgs false
variable {α : Type}

/-- what a round that is told a thing must leave -/
def Gives (u : Nat → Prop) (B : Nat) (J Jx : List α → (Nat → Nat) → World → Prop) (es : List α) (T : Nat → Nat) (W1 : World) (b : Bool) (W2 : World) : Prop :=
  ∃ T2, KeepsFrom B W1 W2 ∧ (b = true → J es T2 W2 ∧ Goes u T W1 T2 W2 ∧ ∀ x, W2.heap.size ≤ x → T2 x = 0) ∧ (b = false → Jx es T2 W2)
/-- what outlasts a change of a block that holds no cells -/
def Lasts (B : Nat) (J : List α → (Nat → Nat) → World → Prop) : Prop := ∀ es T A C row, J es T A → A.grownBy C row → (∀ r, row = some r → B ≤ r ∧ ∃ o : Obj, A.heap[r]? = some o ∧ o.isCells = false) → J es T C
/-- An iterator that gives things to whatever loop; m is the depth of the rounds. -/
def SeqE (u : Nat → Prop) (F : Fence) (n m : Nat) (P : Program) (gf : Nat) (lb : Array Value) (enc : α → Array Value) (post : List α) (w : World) (T0 : Nat → Nat) : Prop :=
  ∀ (l : Nat) (W : World) (J Jx : List α → (Nat → Nat) → World → Prop), Below w.heap.size w W → Lasts W.heap.size J → Lasts W.heap.size Jx → J [] T0 W →
    (∀ (es : List α) (e : α) T W1, J es T W1 → (∀ b, W1.heap.size ≤ b → T b = 0) → es ++ [e] <+: post → YieldAt F m P l (enc e) W1 fun r W2 => ∃ b, r = .returned (.bool b) ∧ Gives u W.heap.size J Jx (es ++ [e]) T W1 b W2) →
    CallsIn F n P gf (#[.func (.yield l) #[] #[]] ++ lb) W fun e W' => (∃ v, e = .returned v) ∧ ((∃ T', J post T' W') ∨ ∃ es T', es <+: post ∧ Jx es T' W')

/-- how a round is left -/
def eachPostE (u : Nat → Prop) (B : Nat) (I : List α → (Nat → Nat) → World → Prop) (Ix : Code → List α → (Nat → Nat) → World → Prop) (es : List α) (T : Nat → Nat) (W : World) : Exit → Act → World → Prop
  | .normal, _, W' => ∃ T', I es T' W' ∧ Goes u T W T' W' ∧ (∀ b, W'.heap.size ≤ b → T' b = 0) ∧ KeepsFrom B W W'
  | .ret, _, W' => ∃ T', Ix .ret es T' W' ∧ KeepsFrom B W W'
  | .exit id, _, W' => ∃ T', Ix (.exit id) es T' W' ∧ KeepsFrom B W W'
  | _, _, _ => False

/-- A loop over such an iterator. -/
theorem range_e {F : Fence} {n : Nat} {P : Program} {g : Operand} {ps : Array Tmp} {assign body : Code} {Q : Exit → Act → World → Prop} {a : Act} {w : World}
    (hro : F.round = none) (h1 : 1 ≤ n) {gf : Nat} {lb : Array Value} (hg : a.eval g = .func (.func gf) #[] lb) (hFg : F.fn gf) (eg : ∀ args w, (callFunc gf args).run P w = .ok (.enter gf args) w)
    (u : Nat → Prop) (hu0 : ¬ u 0) (T0 : Nat → Nat) (hz0 : ∀ b, w.heap.size ≤ b → T0 b = 0)
    {enc : α → Array Value} {post : List α} {m : Nat} (hseq : SeqE u F (n - 1) m P gf lb enc post w T0) (hps : ∀ x, (enc x).size = ps.size)
    (I : List α → (Nat → Nat) → World → Prop) (Ix : Code → List α → (Nat → Nat) → World → Prop) (hI : Lasts w.heap.size I) (hIx : ∀ c, Lasts w.heap.size (Ix c)) (h0 : I [] T0 w)
    (As : α → Act → World → World → Prop) (hAs : ∀ e a' W W', As e a' W W' → Below W.heap.size W W')
    (hassign : ∀ (l : Nat) (e : α) (es : List α) T (W : World) (K : Act → World → Prop), I es T W → (∀ a' W', As e a' W W' → K a' W') →
      assign.wpIn (F.inRound l) m P (Exit.then K (fun _ _ _ => False)) { tmps := (ps.zip (enc e)).foldl (fun t (p, v) => t.setIfInBounds p v) a.tmps, defers := [] } W)
    (hbody : ∀ (l : Nat) (e : α) (es : List α) T (a' : Act) (W W' W'' : World), w.heap.size ≤ l → l < W.heap.size → (∃ o : Obj, W'.heap[l]? = some o ∧ o.isCells = false) → I es T W → I es T W'' → (∀ b, W.heap.size ≤ b → T b = 0) → es ++ [e] <+: post → As e a' W W' → W'.grownBy W'' (some l) → body.wpIn (F.inRound l) m P (eachPostE u w.heap.size I Ix (es ++ [e]) T W'') a' W'')
    (hdone : ∀ (D : Nat) T (W : World), w.heap.size ≤ D → I post T W → W.heap[D]? = some (.deferred (some [])) → Q .normal { a with defers := { target := .collected D, args := #[] } :: a.defers } W)
    (hstop : ∀ (D : Nat) (c : Code) (es : List α) T (W : World), w.heap.size ≤ D → es <+: post → Ix c es T W → W.heap[D]? = some (.deferred (some [])) → c.wpIn F n P Q { a with defers := { target := .collected D, args := #[] } :: a.defers } W) :
    (Code.rangeFunc g ps assign body).wpIn F n P Q a w := by
  refine wpIn_rangeFunc ?_
  intro fn hfn
  rw [hro]
  obtain ⟨rc, hrc⟩ : ∃ rc : LoopState → Option Code → Loop, rc = fun st pe => { state := st, pending := pe, fn, tmps := a.tmps, params := ps, assign, body, defers := w.heap.size } := ⟨_, rfl⟩
  obtain ⟨W1, hW1⟩ : ∃ W1, (w.alloc (.deferred (some []))).alloc (.loop (rc .ready none)) = W1 := ⟨_, rfl⟩
  have hs1 : W1.heap.size = w.heap.size + 2 := by rw [← hW1]; simp
  have hb1 : Below w.heap.size w W1 := by rw [← hW1]; exact ((Below.refl _ w).alloc (Nat.le_refl _) _).alloc (by simp) _
  have hL1 : W1.heap[w.heap.size + 1]? = some (.loop (rc .ready none)) := by
    rw [← hW1]; have := World.alloc_heap_new (w.alloc (.deferred (some []))) (.loop (rc .ready none)); rwa [World.size_alloc] at this
  have hD1 : W1.heap[w.heap.size]? = some (.deferred (some [])) := by
    rw [← hW1]; exact (Below.heap_alloc _ _ _ (by simp)).trans (World.alloc_heap_new w _)
  refine ⟨w.heap.size + 1, [{ target := .collected w.heap.size, args := #[] }], W1, { target := .fn (.func gf) lb, args := #[.func (.yield (w.heap.size + 1)) #[] #[]] }, W1, gf,
    #[.func (.yield (w.heap.size + 1)) #[] #[]] ++ lb, W1, ?_, ?_, ?_, ?_, fun _ => h1, ?_⟩
  · rw [← hW1, hrc]; exact run_enterLoop_outer _ _ _ _ _
  · simp only [resolve, hg]
    simp [go_sem]
  · intro f' hf'; simp [Target.leads] at hf'; subst hf'; exact hFg
  · simp [invoke, go_sem, eg]
  · refine (hseq (w.heap.size + 1) W1
      (fun es T W => I es T W ∧ W.heap[w.heap.size + 1]? = some (.loop (rc .ready none)) ∧ W.heap[w.heap.size]? = some (.deferred (some [])) ∧ T (w.heap.size + 1) = 0)
      (fun es T W => ∃ c, Ix c es T W ∧ W.heap[w.heap.size + 1]? = some (.loop (rc .done (some c))) ∧ W.heap[w.heap.size]? = some (.deferred (some []))) hb1 ?_ ?_ ?_ ?_).mono ?_
    · rintro es T A C row ⟨h2, h3, h4, h5⟩ hgr hr
      have hk : ∀ b, b < W1.heap.size → ∀ o, A.heap[b]? = some o → C.heap[b]? = some o := fun b hb o ho => (hgr.block b (Array.getElem?_eq_some_iff.1 ho).1 (fun e => by have := (hr b e.symm).1; omega)).trans ho
      exact ⟨hI es T A C row h2 hgr (fun r e => ⟨by have := (hr r e).1; omega, (hr r e).2⟩), hk _ (by omega) _ h3, hk _ (by omega) _ h4, h5⟩
    · rintro es T A C row ⟨c, h2, h3, h4⟩ hgr hr
      have hk : ∀ b, b < W1.heap.size → ∀ o, A.heap[b]? = some o → C.heap[b]? = some o := fun b hb o ho => (hgr.block b (Array.getElem?_eq_some_iff.1 ho).1 (fun e => by have := (hr b e.symm).1; omega)).trans ho
      exact ⟨c, hIx _ es T A C row h2 hgr (fun r e => ⟨by have := (hr r e).1; omega, (hr r e).2⟩), hk _ (by omega) _ h3, hk _ (by omega) _ h4⟩
    · exact ⟨hI [] T0 w W1 none h0 ⟨hb1.os, hb1.tape, hb1.output, hb1.size, fun b hb _ => hb1.block b hb⟩ (fun r e => by cases e), hL1, hD1, hz0 _ (by omega)⟩
    · rintro es e T W ⟨hi, hl, hd, hTl⟩ hzW hN
      have hlt : w.heap.size + 1 < W.heap.size := (Array.getElem?_eq_some_iff.1 hl).1
      have hy := run_yield (P := P) (args := enc e) hl (by rw [hrc]; exact hps e)
      rw [hrc] at hy
      refine ⟨fn, _, assign, body, hy, roundIn_of_wpIn hfn (hassign _ e es T W _ hi fun a' W' has => ?_)⟩
      have hb2 := hAs e a' W W' has
      have hl' : W'.heap[w.heap.size + 1]? = some (.loop (rc .ready none)) := (hb2.block _ hlt).trans hl
      have hd' : W'.heap[w.heap.size]? = some (.deferred (some [])) := (hb2.block _ (by omega)).trans hd
      refine ⟨_, run_beginRound hl' (by rw [hrc]), ?_⟩
      have hlt' : w.heap.size + 1 < W'.heap.size := (Array.getElem?_eq_some_iff.1 hl').1
      have hi' : I es T W' := hI es T W W' none hi ⟨hb2.os, hb2.tape, hb2.output, hb2.size, fun b hb _ => hb2.block b hb⟩ (fun r e => by cases e)
      have hi'' : I es T (W'.putObj (w.heap.size + 1) (.loop { rc .ready none with state := .busy })) := hI es T W' _ (some (w.heap.size + 1)) hi' (grownBy_putObj' _ _ _) (fun r e => by cases e; exact ⟨by omega, _, hl', rfl⟩)
      refine wpIn_mono (hbody (w.heap.size + 1) e es T a' W W' _ (by omega) hlt ⟨_, hl', rfl⟩ hi hi'' hzW hN has (grownBy_putObj' _ _ _)) ?_
      rintro ex a3 W3 hp
      have hlb : (W'.putObj (w.heap.size + 1) (.loop { rc .ready none with state := .busy })).heap[w.heap.size + 1]? = some (.loop { rc .ready none with state := .busy }) := World.putObj_heap_same hlt'
      have hdb : (W'.putObj (w.heap.size + 1) (.loop { rc .ready none with state := .busy })).heap[w.heap.size]? = some (.deferred (some [])) := (World.putObj_heap_other (by omega)).trans hd'
      have hoth : ∀ b, b ≠ w.heap.size + 1 → (W'.putObj (w.heap.size + 1) (.loop { rc .ready none with state := .busy })).heap[b]? = W'.heap[b]? := fun b hb => World.putObj_heap_other hb
      have hsz : (W'.putObj (w.heap.size + 1) (.loop { rc .ready none with state := .busy })).heap.size = W'.heap.size := by simp
      have hos : (W'.putObj (w.heap.size + 1) (.loop { rc .ready none with state := .busy })).os = W'.os ∧ (W'.putObj (w.heap.size + 1) (.loop { rc .ready none with state := .busy })).tape = W'.tape ∧ (W'.putObj (w.heap.size + 1) (.loop { rc .ready none with state := .busy })).output = W'.output := ⟨rfl, rfl, rfl⟩
      generalize W'.putObj (w.heap.size + 1) (.loop { rc .ready none with state := .busy }) = Wb at *
      cases ex with
      | normal =>
        obtain ⟨T3, p1, p2, p3, p4⟩ := hp
        have hl3 : W3.heap[w.heap.size + 1]? = some (.loop { rc .ready none with state := .busy }) := p4.same _ _ (by omega) hlb rfl
        have hd3 : W3.heap[w.heap.size]? = some (.deferred (some [])) := p4.same _ _ (Nat.le_refl _) hdb rfl
        have hr3 := run_endRound (P := P) none hl3
        have hlt3 : w.heap.size + 1 < W3.heap.size := (Array.getElem?_eq_some_iff.1 hl3).1
        have hTl3 : T3 (w.heap.size + 1) = 0 := (p2.tag _ (by omega) (by rw [hTl]; exact hu0)).trans hTl
        have hs4 := p4.size
        have hs2 := hb2.size
        refine ⟨_, _, hr3, true, rfl, T3, ⟨by simp; omega, fun kk o hB hk ho => ?_⟩, fun _ => ⟨⟨hI _ T3 W3 _ (some (w.heap.size + 1)) p1 (grownBy_putObj' _ _ _) (fun r e => by cases e; exact ⟨by omega, _, hl3, rfl⟩), ?_, ?_, hTl3⟩, ⟨?_, ?_, ?_, by simp; omega, fun b hb hu => ?_, fun b hb hu => ?_, fun b hb h00 => ?_⟩, fun b hb => p3 b (by simpa using hb)⟩, (fun h => by cases h)⟩
        · rw [World.putObj_heap_other (by omega)]
          exact p4.same kk o (by omega) ((hoth kk (by omega)).trans ((hb2.block kk (Array.getElem?_eq_some_iff.1 hk).1).trans hk)) ho
        · rw [World.putObj_heap_same hlt3, hrc]; rfl
        · rw [World.putObj_heap_other (by omega)]; exact hd3
        · show W3.os = W.os
          rw [p2.os, hos.1, hb2.os]
        · show W3.tape = W.tape
          rw [p2.tape, hos.2.1, hb2.tape]
        · show W3.output = W.output
          rw [p2.output, hos.2.2, hb2.output]
        · by_cases hbl : b = w.heap.size + 1
          · subst hbl
            rw [World.putObj_heap_same hlt3, hl, hrc]; rfl
          · rw [World.putObj_heap_other hbl, p2.block b (by omega) hu, hoth b hbl]
            exact hb2.block b hb
        · exact p2.tag b (by omega) hu
        · exact p3 b (by simpa using hb)
      | ret =>
        obtain ⟨T3, p1, p4⟩ := hp
        have hl3 : W3.heap[w.heap.size + 1]? = some (.loop { rc .ready none with state := .busy }) := p4.same _ _ (by omega) hlb rfl
        have hd3 : W3.heap[w.heap.size]? = some (.deferred (some [])) := p4.same _ _ (Nat.le_refl _) hdb rfl
        have hr3 := run_endRound (P := P) (some .ret) hl3
        have hlt3 : w.heap.size + 1 < W3.heap.size := (Array.getElem?_eq_some_iff.1 hl3).1
        have hs4 := p4.size
        have hs2 := hb2.size
        refine ⟨_, _, hr3, false, rfl, T3, ⟨by simp; omega, fun kk o hB hk ho => ?_⟩, (fun h => by cases h), fun _ => ⟨.ret, hIx _ _ T3 W3 _ (some (w.heap.size + 1)) p1 (grownBy_putObj' _ _ _) (fun r e => by cases e; exact ⟨by omega, _, hl3, rfl⟩), ?_, ?_⟩⟩
        · rw [World.putObj_heap_other (by omega)]
          exact p4.same kk o (by omega) ((hoth kk (by omega)).trans ((hb2.block kk (Array.getElem?_eq_some_iff.1 hk).1).trans hk)) ho
        · rw [World.putObj_heap_same hlt3, hrc]; rfl
        · rw [World.putObj_heap_other (by omega)]; exact hd3
      | exit id =>
        obtain ⟨T3, p1, p4⟩ := hp
        have hl3 : W3.heap[w.heap.size + 1]? = some (.loop { rc .ready none with state := .busy }) := p4.same _ _ (by omega) hlb rfl
        have hd3 : W3.heap[w.heap.size]? = some (.deferred (some [])) := p4.same _ _ (Nat.le_refl _) hdb rfl
        have hr3 := run_endRound (P := P) (some (.exit id)) hl3
        have hlt3 : w.heap.size + 1 < W3.heap.size := (Array.getElem?_eq_some_iff.1 hl3).1
        have hs4 := p4.size
        have hs2 := hb2.size
        refine ⟨_, _, hr3, false, rfl, T3, ⟨by simp; omega, fun kk o hB hk ho => ?_⟩, (fun h => by cases h), fun _ => ⟨.exit id, hIx _ _ T3 W3 _ (some (w.heap.size + 1)) p1 (grownBy_putObj' _ _ _) (fun r e => by cases e; exact ⟨by omega, _, hl3, rfl⟩), ?_, ?_⟩⟩
        · rw [World.putObj_heap_other (by omega)]
          exact p4.same kk o (by omega) ((hoth kk (by omega)).trans ((hb2.block kk (Array.getElem?_eq_some_iff.1 hk).1).trans hk)) ho
        · rw [World.putObj_heap_same hlt3, hrc]; rfl
        · rw [World.putObj_heap_other (by omega)]; exact hd3
      | goto t => exact hp.elim
      | panic ch => exact hp.elim
      | outgrown => exact hp.elim
    · rintro e W2 ⟨⟨v, rfl⟩, (⟨T', hi, hl, hd, _⟩ | ⟨es, T', hpre, c, hix, hl, hd⟩)⟩
      · refine ⟨none, _, by have := run_endLoop (P := P) hl (by rw [hrc]; simp); rw [hrc] at this; exact this, hdone _ T' _ (Nat.le_refl _) (hI _ T' W2 _ (some (w.heap.size + 1)) hi (grownBy_putObj' _ _ _) (fun r e => by cases e; exact ⟨by omega, _, hl, rfl⟩)) ((World.putObj_heap_other (by omega)).trans hd)⟩
      · refine ⟨some c, _, by have := run_endLoop (P := P) hl (by rw [hrc]; simp); rw [hrc] at this; exact this, hstop _ c es T' _ (Nat.le_refl _) hpre (hIx _ _ T' W2 _ (some (w.heap.size + 1)) hix (grownBy_putObj' _ _ _) (fun r e => by cases e; exact ⟨by omega, _, hl, rfl⟩)) ((World.putObj_heap_other (by omega)).trans hd)⟩
end Qe
end Go.Proofs.YtnhhalabmmcemaaDoor
namespace Go.Proofs.YtnhhalabmmcemaaDoor
namespace Qb
open Go.RowKit Go.Shelf CMath Byt Laws Irw Crw Cod Qe
set_option linter.unusedVariables false
set_option linter.unusedSimpArgs false
set_option maxRecDepth 100000
attribute [local go_sem] Oper.semAt_some

/-- What rdE reads is short. -/
theorem rdE_le {b ah : List Nat} {x : En × Nat} (hb : ∀ x ∈ b, x < 256) (ha : ∀ x ∈ ah, x < 256) (h : rdE b ah = some x) : x.1.1.size ≤ 64 ∧ x.2 ≤ b.length := by
  have rdl : ∀ p, (rd (b.drop p) 0 0).2.2 = 0 → p + (rd (b.drop p) 0 0).2.1 ≤ b.length ∨ b.length < p := by
    intro p hz
    have hd : ∀ x ∈ b.drop p, x < 256 := fun x hx => hb x (List.mem_of_mem_drop hx)
    have he : rd (b.drop p) 0 0 = ((rd (b.drop p) 0 0).1, (rd (b.drop p) 0 0).2.1, 0) := Prod.ext rfl (Prod.ext rfl hz)
    have h6 := rd_bytes hd he
    rw [List.length_drop] at h6
    omega
  have hk : ∀ {s m p : Nat}, ¬ (ah.length < s ∨ 64 < s + m ∨ b.length - p < m) → (ofB (ah.take s ++ (b.drop p).take m)).size ≤ 64 := by
    intro s m p h
    rw [← strB_length, strB_ofB (byte_app (fun y hy => ha y (List.mem_of_mem_take hy)) (fun y hy => hb y (List.mem_of_mem_drop (List.mem_of_mem_take hy))))]
    simp
    omega
  unfold rdE at h
  split at h
  · cases h
  split at h
  · cases h
  split at h
  · cases h
  rename_i z0 z1 z2
  have l0 := rdl 0 (by simpa using z0)
  simp only [List.drop_zero, Nat.zero_add] at l0
  have l1 := rdl _ (by simpa using z1)
  have l2 := rdl _ (by simpa using z2)
  unfold rdE.rdK at h
  split at h
  · cases h
  rename_i hbad
  split at h
  · cases h
    exact ⟨hk hbad, by simp only; omega⟩
  split at h
  · cases h
  · cases h
    refine ⟨hk hbad, ?_⟩
    have := text_le (b.drop ((rd b 0 0).2.1 + (rd (b.drop (rd b 0 0).2.1) 0 0).2.1 + (rd (b.drop ((rd b 0 0).2.1 + (rd (b.drop (rd b 0 0).2.1) 0 0).2.1)) 0 0).2.1 + (rd (b.drop (rd b 0 0).2.1) 0 0).1)) 512
    rw [List.length_drop] at this
    simp only
    omega

/-- A block as it lies; what it reads isn't of the tags that turn. -/
structure BlkAt (u : Nat → Prop) (T : Nat → Nat) (w : World) (K o : Nat) (eb pb : List Nat) : Prop where
  lt : K < w.heap.size
  tag : ¬ u (T K)
  ent : ∃ a c, w.cell? ⟨K, o, none⟩ = some (.slice a eb.length c) ∧ IsB w a eb ∧ eb.length ≤ c ∧ (c ≤ 9223372036854775807 ∧ eb.length ≤ 1000000000000) ∧ ∀ b off, a = some ⟨b, off, none⟩ → eb ≠ [] → ¬ u (T b)
  pla : ∃ a c, w.cell? ⟨K, o + 1, none⟩ = some (.slice a pb.length c) ∧ IsB w a pb ∧ pb.length ≤ c ∧ (c ≤ 9223372036854775807 ∧ pb.length ≤ 1000000000000) ∧ ∀ b off, a = some ⟨b, off, none⟩ → pb ≠ [] → ¬ u (T b)
theorem isB_goes {u : Nat → Prop} {T T' : Nat → Nat} {w w' : World} {a : Option Addr} {l : List Nat} (h : IsB w a l) (hg : Goes u T w T' w') (ht : ∀ b off, a = some ⟨b, off, none⟩ → l ≠ [] → ¬ u (T b)) : IsB w' a l ∧ ∀ b off, a = some ⟨b, off, none⟩ → l ≠ [] → ¬ u (T' b) := by
  refine ⟨⟨fun hne => ?_, h.2⟩, fun b off e hne => ?_⟩
  · obtain ⟨b, off, e, hr⟩ := h.1 hne
    exact ⟨b, off, e, hr.keep (hg.block b hr.1 (ht b off e hne)) hg.size⟩
  · obtain ⟨b', off', e', hr⟩ := h.1 hne
    rw [e] at e'
    cases e'
    rw [hg.tag b hr.1 (ht b off e hne)]
    exact ht b off e hne
theorem BlkAt.goes {u : Nat → Prop} {T T' : Nat → Nat} {w w' : World} {K o : Nat} {eb pb : List Nat} (h : BlkAt u T w K o eb pb) (hg : Goes u T w T' w') : BlkAt u T' w' K o eb pb := by
  obtain ⟨a, c, h1, h2, h3, h4, h5⟩ := h.ent
  obtain ⟨a', c', k1, k2, k3, k4, k5⟩ := h.pla
  have i1 := isB_goes h2 hg h5
  have i2 := isB_goes k2 hg k5
  exact ⟨Nat.lt_of_lt_of_le h.lt hg.size, by rw [hg.tag K h.lt h.tag]; exact h.tag, ⟨a, c, (hg.cell h.lt h.tag).trans h1, i1.1, h3, h4, i1.2⟩, ⟨a', c', (hg.cell h.lt h.tag).trans k1, i2.1, k3, k4, i2.2⟩⟩
theorem BlkAt.below {u : Nat → Prop} {T : Nat → Nat} {w w' : World} {K o : Nat} {eb pb : List Nat} (h : BlkAt u T w K o eb pb) (hb : Below w.heap.size w w') : BlkAt u T w' K o eb pb := h.goes (Goes.below hb)

def encP (x : Nat × En) : Array Value := #[.int .i64 (x.1 : Int), .agg #[.string x.2.1, .int .u64 x.2.2.1, .bool x.2.2.2.1, .string x.2.2.2.2]]
def pos : Nat → List (En × Nat) → List (Nat × En)
  | _, [] => []
  | p, x :: t => (p, x.1) :: pos (p + x.2) t
/-- What walk gives from a place on. -/
def wkp (eb : List Nat) (fr : Nat) : List (Nat × En) := pos fr (wk (eb.drop fr) [])

set_option maxHeartbeats 4000000 in
theorem walk_in (u : Nat → Prop) (hu0 : ¬ u 0) (n : Nat) (hn : 1 ≤ n) (T0 : Nat → Nat) (l Bk Bf K o fr : Nat) (eb pb : List Nat) (W : World) (hfr : fr ≤ eb.length)
    (hk : BlkAt u T0 W K o eb pb) (hz0 : ∀ b, W.heap.size ≤ b → T0 b = 0)
    (hBk : W.cell? ⟨Bk, 0, none⟩ = some (.pointer (some ⟨K, o, none⟩))) (hBf : W.cell? ⟨Bf, 0, none⟩ = some (.int .i64 (fr : Int))) (tBk : ¬ u (T0 Bk)) (tBf : ¬ u (T0 Bf))
    (J Jx : List (Nat × En) → (Nat → Nat) → World → Prop) (hJ : Lasts W.heap.size J) (hJx : Lasts W.heap.size Jx) (h0 : J [] T0 W)
    (hY : ∀ (es : List (Nat × En)) (e : Nat × En) T W1, J es T W1 → (∀ b, W1.heap.size ≤ b → T b = 0) → es ++ [e] <+: wkp eb fr → YieldAt Fence.wide (n - 1) Tryd.prog l (encP e) W1 fun r W2 => ∃ b, r = .returned (.bool b) ∧ Gives u W.heap.size J Jx (es ++ [e]) T W1 b W2) :
    CallsIn Fence.wide n Tryd.prog 74 #[.func (.yield l) #[] #[], .pointer (some ⟨Bk, 0, none⟩), .pointer (some ⟨Bf, 0, none⟩)] W fun e W' => (∃ v, e = .returned v) ∧ ((∃ T', J (wkp eb fr) T' W') ∨ ∃ es T', es <+: wkp eb fr ∧ Jx es T' W') := by
  have HK : Hid (BlkAt u T0 W K o eb pb) := hk
  have HY : Hid (∀ (es : List (Nat × En)) (e : Nat × En) T W1, J es T W1 → (∀ b, W1.heap.size ≤ b → T b = 0) → es ++ [e] <+: wkp eb fr → YieldAt Fence.wide (n - 1) Tryd.prog l (encP e) W1 fun r W2 => ∃ b, r = .returned (.bool b) ∧ Gives u W.heap.size J Jx (es ++ [e]) T W1 b W2) := hY
  have HJ : Hid (Lasts W.heap.size J ∧ Lasts W.heap.size Jx) := ⟨hJ, hJx⟩
  have H0 : Hid (J [] T0 W) := h0
  have HT : Hid (¬ u 0 ∧ ¬ u (T0 Bk) ∧ ¬ u (T0 Bf) ∧ ∀ b, W.heap.size ≤ b → T0 b = 0) := ⟨hu0, tBk, tBf, hz0⟩
  obtain ⟨a, c, ce, hie, hec, hc12, _⟩ := hk.ent
  have hby := hie.2
  have HBY : Hid (∀ x ∈ eb, x < 256) := hby
  have lBk := World.block_lt_of_cell? W _ hBk
  have lBf := World.block_lt_of_cell? W _ hBf
  clear hY hJ hJx h0 hu0 tBk tBf hz0 hk hie hby
  refine callsIn_of_wp Tryd.func74 rfl trivial ?_ rfl
  simp only [Tryd.ntmps74, List.size_toArray, List.length_cons, List.length_nil, Nat.reduceAdd, Nat.reduceSub, Array.replicate_succ, Array.replicate_zero, List.push_toArray, List.append_toArray, List.nil_append, List.cons_append]
  have hfR : Fence.wide.fn 75 := trivial
  gi_wp2
  gi_loopw [5, 6] (fun s i wr => ∃ (p : Nat) (A : ByteArray) (es : List (Nat × En)) (T : Nat → Nat), p ≤ eb.length ∧ A.size ≤ 64 ∧ s = .string A ∧ i = .int .i64 (p : Int) ∧ Hid (es ++ pos p (wk (eb.drop p) (strB A)) = wkp eb fr ∧ J es T wr ∧ Goes u T0 W T wr ∧ ∀ b, wr.heap.size ≤ b → T b = 0)) (fun _ i _ => eb.length - (intOf i).toNat)
  case atStart => exact ⟨fr, ⟨#[]⟩, [], T0, hfr, Nat.zero_le _, rfl, rfl, rfl, H0.out, Goes.refl _ _ _, HT.out.2.2.2⟩
  case round =>
    obtain ⟨p, A, es, T, hp, hA, rfl, rfl, HR⟩ := hrel
    have HGO := HR.out.2.2.1
    by_cases hlt : p < eb.length
    · have q1 : (p : Int) < (eb.length : Int) := by omega
      have hne : eb ≠ [] := by rintro rfl; simp at hlt
      have hkw := HK.out.goes HGO
      obtain ⟨a', c', ce', hie', _, _, _⟩ := hkw.ent
      have cK : wr.cell? ⟨K, o, none⟩ = some (.slice a eb.length c) := (HGO.cell HK.out.lt HK.out.tag).trans ce
      rw [cK] at ce'
      cases ce'
      obtain ⟨b, off, rfl, hrow⟩ := hie'.1 hne
      have cBk : wr.cell? ⟨Bk, 0, none⟩ = some (.pointer (some ⟨K, o, none⟩)) := (HGO.cell lBk HT.out.2.1).trans hBk
      have HC : Hid (Calls Tryd.prog 75 #[.slice (some ⟨b, off + p, none⟩) (eb.length - p) (eb.length - p), .string A] wr fun e w' => ReIs (eb.drop p) A wr e w') := readEntry_any b (off + p) (eb.length - p) (eb.length - p) (eb.drop p) A wr (isB_drop hie' p) (by simp) (by omega) (by simp) hA
      clear hkw hie' hrow hne
      have HHI : Hid (∀ b, wr.heap.size ≤ b → T b = 0) := HR.out.2.2.2
      have HJ1 : Hid (J es T wr) := HR.out.2.1
      cases hrd : rdE (eb.drop p) (strB A) with
      | none =>
        have HEQ : Hid (es = wkp eb fr) := by
          have := HR.out.1
          rw [wk_none hrd] at this
          show _ = _
          rw [← this]; simp [pos]
        have HC2 : Hid (Calls Tryd.prog 75 #[.slice (some ⟨b, off + p, none⟩) (eb.length - p) (eb.length - p), .string A] wr fun e w' => e = .returned (.tuple #[.agg #[.string ⟨#[]⟩, .int .u64 0, .bool false, .string ⟨#[]⟩], .int .i64 0, .bool false]) ∧ Below wr.heap.size wr w') := HC.out.mono fun e w' h => by
          obtain ⟨h1, h2⟩ := h
          rw [hrd] at h1
          exact ⟨h1, h2⟩
        clear HC hrd
        gi_wp2_with (gi_at_call 75; go_loud (refine (callsIn_wide.2 HC2.out).mono ?_; rintro e w1 ⟨rfl, hb1⟩; have HB1 : Hid (Below wr.heap.size wr w1) := hb1; clear hb1))
        refine ⟨(by intro f h; cases h), ?_⟩
        gi_wp2
        refine bodyPost_ret (results_none rfl _ _ _) rfl ?_
        refine ⟨⟨_, rfl⟩, .inl ⟨T, ?_⟩⟩
        rw [← HEQ.out]
        have hbz := HB1.out.alloc HB1.out.size (.cells #[.string ⟨#[]⟩, .int .u64 0, .bool false, .string ⟨#[]⟩] 43)
        exact HJ.out.1 es T wr _ none HJ1.out ⟨hbz.os, hbz.tape, hbz.output, hbz.size, fun b hb _ => hbz.block b hb⟩ (fun r e => by cases e)
      | some x =>
        have hle := rdE_le (fun y hy => HBY.out y (List.mem_of_mem_drop hy)) (strB_byte A) hrd
        have hpos := rdE_pos hrd (fun y hy => HBY.out y (List.mem_of_mem_drop hy))
        obtain ⟨⟨xk, xs, xd, xv⟩, k⟩ := x
        simp only at hle hpos
        rw [List.length_drop] at hle
        have HEQ : Hid ((es ++ [(p, (xk, xs, xd, xv))]) ++ pos (p + k) (wk (eb.drop (p + k)) (strB xk)) = wkp eb fr) := by
          have := HR.out.1
          rw [wk_some (by intro h; have := congrArg List.length h; simp at this; omega) (fun y hy => HBY.out y (List.mem_of_mem_drop hy)) hrd] at this
          show _ = _
          rw [← this]
          simp only [pos, List.drop_drop, List.append_assoc, List.singleton_append]
          rfl
        have HPX : Hid (es ++ [(p, (xk, xs, xd, xv))] <+: wkp eb fr) := ⟨_, HEQ.out⟩
        have HC2 : Hid (Calls Tryd.prog 75 #[.slice (some ⟨b, off + p, none⟩) (eb.length - p) (eb.length - p), .string A] wr fun e w' => e = .returned (.tuple #[.agg #[.string xk, .int .u64 xs, .bool xd, .string xv], .int .i64 (k : Int), .bool true]) ∧ Below wr.heap.size wr w') := HC.out.mono fun e w' h => by
          obtain ⟨h1, h2⟩ := h
          rw [hrd] at h1
          exact ⟨h1, h2⟩
        clear HC hrd
        have HGOH : Hid (Goes u T0 W T wr) := HGO
        clear HGO
        gi_wp2_with (gi_at_call 75; go_loud (refine (callsIn_wide.2 HC2.out).mono ?_; rintro e w1 ⟨rfl, hb1⟩; have HB1 : Hid (Below wr.heap.size wr w1) := hb1; have hsz1 := hb1.size; clear hb1; obtain ⟨fn, tmps, assign, body, hy, hR⟩ := HY.out es (p, (xk, xs, xd, xv)) T (w1.alloc (.cells #[.string xk, .int .u64 xs, .bool xd, .string xv] 43)) (HJ.out.1 es T wr _ none HJ1.out ⟨(HB1.out.alloc (by omega) _).os, (HB1.out.alloc (by omega) _).tape, (HB1.out.alloc (by omega) _).output, (HB1.out.alloc (by omega) _).size, fun b hb _ => (HB1.out.alloc (by omega) _).block b hb⟩ (fun r e => by cases e)) (fun b hb => HHI.out b (by simp at hb; omega)) HPX.out; simp only [encP] at hy))
        refine hR.mono ?_
        rintro r W3 ⟨bo, rfl, hj⟩
        have HG3 : Hid (Gives u W.heap.size J Jx (es ++ [(p, (xk, xs, xd, xv))]) T (w1.alloc (.cells #[.string xk, .int .u64 xs, .bool xd, .string xv] 43)) bo W3) := hj
        clear hj hR hy
        cases bo with
        | true =>
          obtain ⟨T2, _, q5, _⟩ := HG3.out
          obtain ⟨q1', q2, q3⟩ := q5 rfl
          have HJ3 : Hid (J (es ++ [(p, (xk, xs, xd, xv))]) T2 W3.drew ∧ Goes u T0 W T2 W3.drew ∧ ∀ b, W3.drew.heap.size ≤ b → T2 b = 0) := ⟨HJ.out.1 _ T2 W3 W3.drew none q1' ⟨rfl, rfl, rfl, Nat.le_refl _, fun _ _ _ => rfl⟩ (fun r e => by cases e), ((HGOH.out.trans (Goes.below (HB1.out.alloc (by omega) _))).trans q2).trans (Goes.below (Below.refl _ _).drew), q3⟩
          have cx : W3.cell? ⟨w1.heap.size, 0, none⟩ = some (.string xk) := (q2.cell (b := w1.heap.size) (j := 0) (by simp) (by rw [HHI.out _ hsz1]; exact HT.out.1)).trans (by simp)
          clear q1' q2 q3 q5 HG3
          gi_wp2
          gi_region
          all_goals
            gi_wp2
            go_roundw
            case rel =>
              exact ⟨p + k, xk, es ++ [(p, (xk, xs, xd, xv))], T2, by omega, hle.1, rfl, by go_num, HEQ.out, HJ3.out⟩
            case measure => simp [intOf]; omega
        | false =>
          obtain ⟨T2, _, _, q5⟩ := HG3.out
          have HJ3 : Hid (Jx (es ++ [(p, (xk, xs, xd, xv))]) T2 W3) := q5 rfl
          clear q5 HG3
          gi_wp2
          refine bodyPost_ret (results_none rfl _ _ _) rfl ?_
          exact ⟨⟨_, rfl⟩, .inr ⟨_, T2, HPX.out, HJ3.out⟩⟩
    · have hpL : p = eb.length := by omega
      subst hpL
      have HEQ : Hid (es = wkp eb fr) := by
        have := HR.out.1
        rw [List.drop_length, wk_nil] at this
        show _ = _
        rw [← this]; simp [pos]
      gi_wp2
      go_end0
      refine ⟨⟨_, rfl⟩, .inl ⟨T, ?_⟩⟩
      rw [← HEQ.out]
      exact HR.out.2.1

/-- walk makes an iterator. -/
theorem walk_any (w : World) (K o : Nat) (fr : Nat) :
    Calls Tryd.prog 54 #[.pointer (some ⟨K, o, none⟩), .int .i64 (fr : Int)] w fun e w' => e = .returned (.func (.func 74) #[] #[.pointer (some ⟨w.heap.size, 0, none⟩), .pointer (some ⟨w.heap.size + 1, 0, none⟩)]) ∧ Below w.heap.size w w' ∧ w'.heap.size = w.heap.size + 2 ∧ w'.cell? ⟨w.heap.size, 0, none⟩ = some (.pointer (some ⟨K, o, none⟩)) ∧ w'.cell? ⟨w.heap.size + 1, 0, none⟩ = some (.int .i64 (fr : Int)) := by
  have hmf : ∀ (fn : Fn) (first cap : Array Value) (w : World), (Instr.makeFunc fn first cap).run Tryd.prog w = .ok (.func fn first cap) w := fun _ _ _ _ => rfl
  go_enter Tryd.func54, Tryd.ntmps54
  go_wp2
  go_ret
  exact ⟨rfl, ((Below.refl _ _).alloc (Nat.le_refl _) _).alloc (by simp) _, by simp, by simp, by simp⟩
theorem walk_seq (u : Nat → Prop) (hu0 : ¬ u 0) (n : Nat) (hn : 1 ≤ n) (T0 : Nat → Nat) (Bk Bf K o fr : Nat) (eb pb : List Nat) (w : World) (hfr : fr ≤ eb.length)
    (hk : BlkAt u T0 w K o eb pb) (hz0 : ∀ b, w.heap.size ≤ b → T0 b = 0)
    (hBk : w.cell? ⟨Bk, 0, none⟩ = some (.pointer (some ⟨K, o, none⟩))) (hBf : w.cell? ⟨Bf, 0, none⟩ = some (.int .i64 (fr : Int))) (tBk : ¬ u (T0 Bk)) (tBf : ¬ u (T0 Bf)) :
    SeqE u Fence.wide n (n - 1) Tryd.prog 74 #[.pointer (some ⟨Bk, 0, none⟩), .pointer (some ⟨Bf, 0, none⟩)] encP (wkp eb fr) w T0 := fun l W J Jx hW hJ hJx h0 hY =>
  walk_in u hu0 n hn T0 l Bk Bf K o fr eb pb W hfr (hk.below hW) (fun b hb => hz0 b (Nat.le_trans hW.size hb)) ((hW.cell (p := ⟨Bk, 0, none⟩) (World.block_lt_of_cell? w _ hBk)).trans hBk) ((hW.cell (p := ⟨Bf, 0, none⟩) (World.block_lt_of_cell? w _ hBf)).trans hBf) tBk tBf J Jx hJ hJx h0 hY

end Qb
end Go.Proofs.YtnhhalabmmcemaaDoor
