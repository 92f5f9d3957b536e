import Derived.Test.YtkebbmdghnplmaaDoorQb5
import Derived.Test.YtkebbmdghnplmaaDoorBat7
namespace Go.Proofs.YtkebbmdghnplmaaDoor
namespace Qb
open Go.RowKit CMath Byt Laws Irw Crw Cod
set_option linter.unusedVariables false
set_option linter.unusedSimpArgs false
set_option maxRecDepth 20000

def entV (e : En) : Value := .agg #[.string e.1, .int .u64 e.2.1, .bool e.2.2.1, .string e.2.2.2]
def ez : En := (⟨#[]⟩, 0, false, ⟨#[]⟩)
/-- The numbers at the head of an entry, read so far. -/
def RA (l : List Nat) : Nat → List Nat → Nat → Prop
  | 0, hs, p => hs = [] ∧ p = 0
  | k + 1, hs, p => ∃ hs' p', RA l k hs' p' ∧ (rd (l.drop p') 0 0).2.2 = 0 ∧ hs = hs' ++ [(rd (l.drop p') 0 0).1] ∧ p = p' + (rd (l.drop p') 0 0).2.1
theorem RA.len {l : List Nat} : ∀ {k : Nat} {hs : List Nat} {p : Nat}, RA l k hs p → hs.length = k
  | 0, hs, p, h => by rw [h.1]; rfl
  | k + 1, hs, p, h => by
    obtain ⟨hs', p', h1, _, h3, _⟩ := h
    rw [h3, List.length_append, h1.len]; rfl
theorem RA.le {l : List Nat} (hl : ∀ x ∈ l, x < 256) : ∀ {k : Nat} {hs : List Nat} {p : Nat}, RA l k hs p → p ≤ l.length ∧ p ≤ 10 * k ∧ ∀ x ∈ hs, x < 18446744073709551616
  | 0, hs, p, h => by rw [h.1, h.2]; simp
  | k + 1, hs, p, h => by
    obtain ⟨hs', p', h1, h2, h3, h4⟩ := h
    have h5 := h1.le hl
    have hd : ∀ x ∈ l.drop p', x < 256 := fun x hx => hl x (List.mem_of_mem_drop hx)
    have he : rd (l.drop p') 0 0 = ((rd (l.drop p') 0 0).1, (rd (l.drop p') 0 0).2.1, 0) := Prod.ext rfl (Prod.ext rfl h2)
    have h6 := rd_bytes hd he
    have h7 := rd_ok0 hd he
    rw [List.length_drop] at h6
    refine ⟨by omega, by omega, fun x hx => ?_⟩
    rw [h3] at hx
    rcases List.mem_append.1 hx with hx | hx
    · exact h5.2.2 x hx
    · simp at hx; subst hx; exact h7.1
theorem rdE_three {l ah : List Nat} {s m t p : Nat} (h : RA l 3 [s, m, t] p) : rdE l ah = rdE.rdK l ah s m t p := by
  obtain ⟨h2, p2, ⟨h1, p1, ⟨h0, p0, ⟨e0, e0'⟩, z0, e1, e1'⟩, z1, e2, e2'⟩, z2, e3, e3'⟩ := h
  subst e0; subst e0'
  simp only [List.drop_zero, List.nil_append, Nat.zero_add] at z0 e1 e1'
  subst e1; subst e1'
  subst e2; subst e2'
  simp only [List.cons_append, List.nil_append, List.cons.injEq, and_true] at e3
  obtain ⟨rfl, rfl, rfl⟩ := e3
  subst e3'
  unfold rdE
  rw [if_neg (by simpa using z0), if_neg (by simpa using z1), if_neg (by simpa using z2)]
theorem rdE_fail {l ah : List Nat} {k : Nat} {hs : List Nat} {p : Nat} (hk : k < 3) (h : RA l k hs p) (hf : (rd (l.drop p) 0 0).2.2 ≠ 0) : rdE l ah = none := by
  match k, hk with
  | 0, _ =>
    obtain ⟨_, rfl⟩ := h
    simp only [List.drop_zero] at hf
    unfold rdE
    rw [if_pos hf]
  | 1, _ =>
    obtain ⟨h0, p0, ⟨e0, e0'⟩, z0, e1, e1'⟩ := h
    subst e0; subst e0'
    simp only [List.drop_zero, List.nil_append, Nat.zero_add] at z0 e1 e1'
    subst e1'
    unfold rdE
    rw [if_neg (by simpa using z0), if_pos hf]
  | 2, _ =>
    obtain ⟨h1, p1, ⟨h0, p0, ⟨e0, e0'⟩, z0, e1, e1'⟩, z1, e2, e2'⟩ := h
    subst e0; subst e0'
    simp only [List.drop_zero, List.nil_append, Nat.zero_add] at z0 e1 e1'
    subst e1; subst e1'
    subst e2'
    unfold rdE
    rw [if_neg (by simpa using z0), if_neg (by simpa using z1), if_pos hf]
theorem res_ent {fn : Func} {p u v : Tmp} (h : fn.results = #[.cell p 30, .tmp u, .tmp v]) (tmps : Array Value) (w : World) (B : Nat) (k : ByteArray) (s : Int) (d : Bool) (x : ByteArray) (hp : tmps.getD p undef = .pointer (some ⟨B, 0, none⟩))
    (c0 : w.cell? ⟨B, 0, none⟩ = some (.string k)) (c1 : w.cell? ⟨B, 1, none⟩ = some (.int .u64 s)) (c2 : w.cell? ⟨B, 2, none⟩ = some (.bool d)) (c3 : w.cell? ⟨B, 3, none⟩ = some (.string x)) :
    (results fn tmps).run Tryd.prog w = .ok (.tuple #[.agg #[.string k, .int .u64 s, .bool d, .string x], tmps.getD u undef, tmps.getD v undef]) w := by
  simp only [results, h]
  have hp' : tmps[p]?.getD undef = .pointer (some ⟨B, 0, none⟩) := by simpa using hp
  simp [Sem.run_bind, Result.andThen, hp', go_sem, c0, c1, c2, c3]
theorem four_set {w : World} {B : Nat} (v0 v1 v2 v3 : Value) {u0 u1 u2 u3 : Value} (c0 : w.cell? ⟨B, 0, none⟩ = some u0) (c1 : w.cell? ⟨B, 1, none⟩ = some u1) (c2 : w.cell? ⟨B, 2, none⟩ = some u2) (c3 : w.cell? ⟨B, 3, none⟩ = some u3) :
    ((((w.setCell ⟨B, 0, none⟩ v0).setCell ⟨B, 1, none⟩ v1).setCell ⟨B, 2, none⟩ v2).setCell ⟨B, 3, none⟩ v3).cell? ⟨B, 0, none⟩ = some v0 ∧ ((((w.setCell ⟨B, 0, none⟩ v0).setCell ⟨B, 1, none⟩ v1).setCell ⟨B, 2, none⟩ v2).setCell ⟨B, 3, none⟩ v3).cell? ⟨B, 1, none⟩ = some v1 ∧ ((((w.setCell ⟨B, 0, none⟩ v0).setCell ⟨B, 1, none⟩ v1).setCell ⟨B, 2, none⟩ v2).setCell ⟨B, 3, none⟩ v3).cell? ⟨B, 2, none⟩ = some v2 ∧ ((((w.setCell ⟨B, 0, none⟩ v0).setCell ⟨B, 1, none⟩ v1).setCell ⟨B, 2, none⟩ v2).setCell ⟨B, 3, none⟩ v3).cell? ⟨B, 3, none⟩ = some v3 := by
  have ne : ∀ {i j : Nat}, i ≠ j → (⟨B, i, none⟩ : Addr) ≠ ⟨B, j, none⟩ := fun h e => h (congrArg Addr.off e)
  refine ⟨?_, ?_, ?_, ?_⟩
  · rw [World.cell?_setCell_other _ _ _ _ (ne (by omega)), World.cell?_setCell_other _ _ _ _ (ne (by omega)), World.cell?_setCell_other _ _ _ _ (ne (by omega)), World.cell?_setCell_same _ _ _ c0]
  · rw [World.cell?_setCell_other _ _ _ _ (ne (by omega)), World.cell?_setCell_other _ _ _ _ (ne (by omega)), World.cell?_setCell_same _ _ _ ((World.cell?_setCell_other _ _ _ _ (ne (by omega))).trans c1)]
  · rw [World.cell?_setCell_other _ _ _ _ (ne (by omega)), World.cell?_setCell_same _ _ _ (((World.cell?_setCell_other _ _ _ _ (ne (by omega))).trans (World.cell?_setCell_other _ _ _ _ (ne (by omega)))).trans c2)]
  · rw [World.cell?_setCell_same _ _ _ ((((World.cell?_setCell_other _ _ _ _ (ne (by omega))).trans (World.cell?_setCell_other _ _ _ _ (ne (by omega)))).trans (World.cell?_setCell_other _ _ _ _ (ne (by omega)))).trans c3)]
theorem four_below {w0 w : World} {B : Nat} (v0 v1 v2 v3 : Value) (hb : Below w0.heap.size w0 w) (hB : w0.heap.size ≤ B) : Below w0.heap.size w0 ((((w.setCell ⟨B, 0, none⟩ v0).setCell ⟨B, 1, none⟩ v1).setCell ⟨B, 2, none⟩ v2).setCell ⟨B, 3, none⟩ v3) :=
  (((hb.setCell (p := ⟨B, 0, none⟩) hB _).setCell (p := ⟨B, 1, none⟩) hB _).setCell (p := ⟨B, 2, none⟩) hB _).setCell (p := ⟨B, 3, none⟩) hB _
theorem and_one (t : Nat) (ht : t < 18446744073709551616) : bits .and .u64 (t : Int) 1 = ((t % 2 : Nat) : Int) := by
  have h := bits_and_u64_nat t 1 ht (by omega)
  rw [show ((1 : Nat) : Int) = 1 by rfl] at h
  rw [h, Nat.and_one_is_mod]
theorem past {w : World} {X : Obj} {B j : Nat} {v : Value} (h : B < w.heap.size) (hc : w.cell? ⟨B, j, none⟩ = some v) : (w.alloc X).cell? ⟨B, j, none⟩ = some v := by
  rw [World.cell?_alloc_past _ _ _ h]; exact hc
theorem text_le (b : List Nat) (most : Int) : (text b most).2.1 ≤ b.length := by
  unfold text
  split
  · exact Nat.zero_le _
  split
  · exact Nat.zero_le _
  split
  · exact Nat.zero_le _
  · dsimp only; omega
/-- What readEntry leaves. -/
def ReIs (l : List Nat) (ah : ByteArray) (w : World) (e : Ending) (w' : World) : Prop :=
  e = (match rdE l (strB ah) with
    | none => .returned (.tuple #[entV ez, .int .i64 0, .bool false])
    | some x => .returned (.tuple #[entV x.1, .int .i64 (x.2 : Int), .bool true])) ∧ Below w.heap.size w w'
theorem ReIs.no {l : List Nat} {ah : ByteArray} {w w' : World} (h : rdE l (strB ah) = none) (hb : Below w.heap.size w w') : ReIs l ah w (.returned (.tuple #[entV ez, .int .i64 0, .bool false])) w' := ⟨by rw [h], hb⟩
theorem ReIs.yes {l : List Nat} {ah : ByteArray} {w w' : World} {x : En × Nat} (h : rdE l (strB ah) = some x) (hb : Below w.heap.size w w') : ReIs l ah w (.returned (.tuple #[entV x.1, .int .i64 (x.2 : Int), .bool true])) w' := ⟨by rw [h], hb⟩
/-- The piece of a slice from a place on. -/
theorem isB_drop {w : World} {b off : Nat} {l : List Nat} (h : IsB w (some ⟨b, off, none⟩) l) (p : Nat) : IsB w (some ⟨b, off + p, none⟩) (l.drop p) := by
  refine ⟨fun hne => ?_, fun x hx => h.2 x (List.mem_of_mem_drop hx)⟩
  obtain ⟨b', off', e, hr⟩ := h.1 (by rintro rfl; simp at hne)
  cases e
  exact ⟨b, off + p, rfl, hr.drop p⟩

theorem _root_.Go.Proofs.YtkebbmdghnplmaaDoor.Byt.IsB.below' {w w' : World} {a : Option Addr} {l : List Nat} (h : IsB w a l) (hb : Below w.heap.size w w') : IsB w' a l := h.below hb
/-- The boxes of readEntry: R its answer, R + 1 the head. -/
structure RB (w0 w : World) (hs : List Nat) : Prop where
  below : Below w0.heap.size w0 w
  lt : w0.heap.size + 1 < w.heap.size
  r0 : w.cell? ⟨w0.heap.size, 0, none⟩ = some (.string ⟨#[]⟩)
  r1 : w.cell? ⟨w0.heap.size, 1, none⟩ = some (.int .u64 0)
  r2 : w.cell? ⟨w0.heap.size, 2, none⟩ = some (.bool false)
  r3 : w.cell? ⟨w0.heap.size, 3, none⟩ = some (.string ⟨#[]⟩)
  rf : ∀ j, w.frozen? ⟨w0.heap.size, j, none⟩ = false
  h : ∀ j, j < 3 → w.cell? ⟨w0.heap.size + 1, j, none⟩ = some (.int .u64 ((hs.getD j 0 : Nat) : Int))
  hf : ∀ j, w.frozen? ⟨w0.heap.size + 1, j, none⟩ = false
theorem RB.set {w0 w : World} {hs : List Nat} (p : RB w0 w hs) {k : Nat} (hk : hs.length = k) (hk3 : k < 3) (n : Nat) : RB w0 (w.setCell ⟨w0.heap.size + 1, k, none⟩ (.int .u64 (n : Int))) (hs ++ [n]) := by
  have ho : ∀ j, (w.setCell ⟨w0.heap.size + 1, k, none⟩ (.int .u64 (n : Int))).cell? ⟨w0.heap.size, j, none⟩ = w.cell? ⟨w0.heap.size, j, none⟩ := fun j => World.cell?_setCell_other _ _ _ _ (by intro h; have := congrArg Addr.block h; simp at this)
  refine ⟨p.below.setCell (p := ⟨w0.heap.size + 1, k, none⟩) (by simp) _, by simpa using p.lt, (ho 0).trans p.r0, (ho 1).trans p.r1, (ho 2).trans p.r2, (ho 3).trans p.r3, fun j => by rw [World.frozen?_setCell]; exact p.rf j, fun j hj => ?_, fun j => by rw [World.frozen?_setCell]; exact p.hf j⟩
  by_cases e : j = k
  · subst e
    rw [World.cell?_setCell_same _ _ _ (p.h j hj)]
    simp [List.getD, hk]
  · rw [World.cell?_setCell_other _ _ _ _ (by intro h; exact e (congrArg Addr.off h).symm), p.h j hj]
    congr 3
    simp only [List.getD]
    congr 1
    by_cases hlt : j < hs.length
    · rw [List.getElem?_append_left hlt]
    · rw [List.getElem?_eq_none (by omega), List.getElem?_eq_none (by simp; omega)]

set_option maxHeartbeats 2000000 in
theorem readEntry_any (b off : Nat) (cap n : Nat) (l : List Nat) (ah : ByteArray) (w : World) (ha : IsB w (some ⟨b, off, none⟩) l) (hcap : l.length ≤ cap) (hlen : cap ≤ 1000000000000) (hn : n = l.length) (hah : ah.size ≤ 64) :
    Calls Tryd.prog 70 #[.slice (some ⟨b, off, none⟩) n cap, .string ah] w fun e w' => ReIs l ah w e w' := by
  subst hn
  have HB0 : Hid (∀ x ∈ l, x < 256) := ha.2
  have HA : Hid (IsB w (some ⟨b, off, none⟩) l) := ha
  clear ha
  go_enter Tryd.func70, Tryd.ntmps70
  go_wp2
  go_loopw [8, 19] (fun v i wr => ∃ (k p : Nat) (hs : List Nat), k ≤ 3 ∧ p ≤ l.length ∧ v = .int .i64 (p : Int) ∧ i = .int .i64 (k : Int) ∧ Hid (RA l k hs p ∧ RB w wr hs)) (fun _ i _ => 3 - (intOf i).toNat)
  case atStart => exact ⟨0, 0, [], by omega, by omega, rfl, rfl, ⟨rfl, rfl⟩, ⟨by first | exact ((Below.refl _ _).alloc (Nat.le_refl _) _).alloc (by simp) _ | trace_state, by simp, by simp, by simp, by simp, by simp, fun j => by simp, fun j hj => by rcases (show j = 0 ∨ j = 1 ∨ j = 2 by omega) with rfl | rfl | rfl <;> simp, fun j => by simp⟩⟩
  case round =>
    obtain ⟨k, p, hs, hk, hp, rfl, rfl, HK⟩ := hrel
    rename World => wr
    have hW := HK.out.2.below
    by_cases hlt : k < 3
    · have q1 : (k : Int) < 3 := by omega
      obtain ⟨nn, mm, ff, hrd⟩ : ∃ nn mm ff, rd (l.drop p) 0 0 = (nn, mm, ff) := ⟨_, _, _, rfl⟩
      have HRD : Hid (rd (l.drop p) 0 0 = (nn, mm, ff)) := hrd
      have hRA := HK.out.1
      have r0 := HK.out.2.r0
      have r1 := HK.out.2.r1
      have r2 := HK.out.2.r2
      have r3 := HK.out.2.r3
      have rf := HK.out.2.rf
      have rlt := HK.out.2.lt
      by_cases hpL : p = l.length
      · have hnone : rdE l (strB ah) = none := rdE_fail hlt hRA (by rw [hpL, List.drop_length]; simp [rd])
        have HNO : Hid (rdE l (strB ah) = none) := hnone
        have HU : Hid (∀ ad, Calls Tryd.prog 87 #[.slice ad 0 0] wr fun e w' => e = .returned (.tuple #[.int .u64 0, .int .i64 0, .int .i64 20]) ∧ w' = wr) := fun ad => by
          have := uint_any ad 0 0 [] wr (IsB.nil _ _) (Nat.le_refl _) (by omega) rfl
          simpa [rd] using this
        clear hnone hrd HRD hRA
        subst hpL
        go_wp2_with (go_at_call 87; go_loud (refine (HU.out _).mono ?_; rintro e w1 ⟨rfl, hw⟩; have hw2 := hw.symm; clear hw; subst hw2))
        (try simp only [Exit.inBlock, Exit.then])
        have h4 := four_set (.string ⟨#[]⟩) (.int .u64 0) (.bool false) (.string ⟨#[]⟩) r0 r1 r2 r3
        refine bodyPost_ret (res_ent rfl _ _ w.heap.size ⟨#[]⟩ 0 false ⟨#[]⟩ (by rfl) h4.1 h4.2.1 h4.2.2.1 h4.2.2.2) rfl ?_
        exact ReIs.no HNO.out (four_below _ _ _ _ hW (Nat.le_refl _))
      · have hu := uint_any (some ⟨b, off + p, none⟩) (l.length - p) (l.length - p) (l.drop p) wr ((isB_drop HA.out p).below' hW) (by simp) (by omega) (by simp)
        rw [hrd] at hu
        have HU : Hid (Calls Tryd.prog 87 #[.slice (some ⟨b, off + p, none⟩) (l.length - p) (l.length - p)] wr fun e w' => e = .returned (.tuple #[.int .u64 (nn : Int), .int .i64 (mm : Int), .int .i64 (ff : Int)]) ∧ w' = wr) := hu
        clear hu
        have qp : (p : Int) < (l.length : Int) := by omega
        by_cases hff : ff = 0
        · subst hff
          have hz : (rd (l.drop p) 0 0).2.2 = 0 := by rw [hrd]
          have HRA : Hid (RA l (k + 1) (hs ++ [nn]) (p + mm)) := ⟨hs, p, hRA, hz, by rw [hrd], by rw [hrd]⟩
          have hle := (RA.le HB0.out HRA.out).1
          have hc := HK.out.2.h k hlt
          have hcf := HK.out.2.hf k
          have HRB : Hid (RB w (wr.setCell ⟨w.heap.size + 1, k, none⟩ (.int .u64 (nn : Int))) (hs ++ [nn])) := HK.out.2.set hRA.len hlt nn
          clear hRA hz hrd HRD r0 r1 r2 r3 rf
          go_wp2_with (go_at_call 87; go_loud (refine HU.out.mono ?_; rintro e w1 ⟨rfl, hw⟩; have hw2 := hw.symm; clear hw; subst hw2))
          go_roundw
          case rel => exact ⟨k + 1, p + mm, hs ++ [nn], by omega, hle, by go_num, by go_num, HRA.out, HRB.out⟩
          case measure => simp [intOf]; omega
        · have hnone : rdE l (strB ah) = none := rdE_fail hlt hRA (by rw [hrd]; exact hff)
          have HNO : Hid (rdE l (strB ah) = none) := hnone
          have hfi : ((ff : Int) != 0) = true := by simp; omega
          clear hnone hrd HRD hRA
          go_wp2_with (go_at_call 87; go_loud (refine HU.out.mono ?_; rintro e w1 ⟨rfl, hw⟩; have hw2 := hw.symm; clear hw; subst hw2))
          (try simp only [Exit.inBlock, Exit.then])
          have h4 := four_set (.string ⟨#[]⟩) (.int .u64 0) (.bool false) (.string ⟨#[]⟩) r0 r1 r2 r3
          refine bodyPost_ret (res_ent rfl _ _ w.heap.size ⟨#[]⟩ 0 false ⟨#[]⟩ (by rfl) h4.1 h4.2.1 h4.2.2.1 h4.2.2.2) rfl ?_
          exact ReIs.no HNO.out (four_below _ _ _ _ hW (Nat.le_refl _))
    · have hk3 : k = 3 := by omega
      subst hk3
      have hRA := HK.out.1
      have hlen3 := hRA.len
      match hs, hlen3 with
      | [s, m, t], _ =>
        have HE3 : Hid (rdE l (strB ah) = rdE.rdK l (strB ah) s m t p) := rdE_three hRA
        have hle := RA.le HB0.out hRA
        have hs64 : s < 18446744073709551616 := hle.2.2 s (by simp)
        have hm64 : m < 18446744073709551616 := hle.2.2 m (by simp)
        have ht64 : t < 18446744073709551616 := hle.2.2 t (by simp)
        have hp30 : p ≤ 30 := hle.2.1
        have r0 := HK.out.2.r0
        have r1 := HK.out.2.r1
        have r2 := HK.out.2.r2
        have r3 := HK.out.2.r3
        have rf := HK.out.2.rf
        have rlt := HK.out.2.lt
        have h0 : wr.cell? ⟨w.heap.size + 1, 0, none⟩ = some (.int .u64 (s : Int)) := HK.out.2.h 0 (by omega)
        have h1 : wr.cell? ⟨w.heap.size + 1, 1, none⟩ = some (.int .u64 (m : Int)) := HK.out.2.h 1 (by omega)
        have h2 : wr.cell? ⟨w.heap.size + 1, 2, none⟩ = some (.int .u64 (t : Int)) := HK.out.2.h 2 (by omega)
        have HD : Hid (∀ ad, (p < l.length → ad = some ⟨b, off + p, none⟩) → ∀ z, Calls Tryd.prog 88 #[.slice ad (l.length - p) (l.length - p), .string ah, .int .u64 (s : Int), .int .u64 (m : Int)] (wr.drewN z) fun e w' => (e = .returned (if ah.size < s ∨ 64 < s + m ∨ l.length - p < m then .tuple #[.string ⟨#[]⟩, .bool false] else .tuple #[.string (ofB ((strB ah).take s ++ (l.drop p).take m)), .bool true])) ∧ ∃ n, w' = wr.drewN n) := fun ad had z => by
          have hi : IsB (wr.drewN z) ad (l.drop p) := by
            by_cases hlt : p < l.length
            · rw [had hlt]; exact (isB_drop HA.out p).below' (below_drewN hW z)
            · rw [List.drop_of_length_le (by omega)]; exact IsB.nil _ _
          have := readKey_any ad (l.length - p) (l.length - p) (l.drop p) ah s m (wr.drewN z) hi (by simp) (by
            intro h
            by_cases hlt : p < l.length
            · rw [had hlt] at h; cases h
            · omega) (by omega) (by simp) hah hs64 hm64
          rw [List.length_drop] at this
          refine this.mono ?_
          rintro e w' ⟨h1, n, h2⟩
          exact ⟨h1, z + n, by rw [h2, World.drewN_drewN]⟩
        clear hRA hle
        by_cases hpL : p = l.length
        · have qp : (p : Int) = (l.length : Int) := by omega
          have HQ : Hid (∀ z, Calls Tryd.prog 88 #[.slice (some ⟨b, off, none⟩) 0 0, .string ah, .int .u64 (s : Int), .int .u64 (m : Int)] (wr.drewN z) fun e w' => (e = .returned (if ah.size < s ∨ 64 < s + m ∨ l.length - p < m then .tuple #[.string ⟨#[]⟩, .bool false] else .tuple #[.string (ofB ((strB ah).take s ++ (l.drop p).take m)), .bool true])) ∧ ∃ n, w' = wr.drewN n) := fun z => by have := HD.out (some ⟨b, off, none⟩) (fun h => absurd h (by omega)) z; rw [show l.length - p = 0 by omega] at this; rw [show l.length - p = 0 by omega]; exact this
          by_cases hbad : ah.size < s ∨ 64 < s + m ∨ l.length - p < m
          · have HNO : Hid (rdE l (strB ah) = none) := by
              show _ = _
              rw [HE3.out]; unfold rdE.rdK; rw [if_pos (by rw [strB_length]; exact hbad)]
            have HC : Hid (∀ z, Calls Tryd.prog 88 #[.slice (some ⟨b, off, none⟩) 0 0, .string ah, .int .u64 (s : Int), .int .u64 (m : Int)] (wr.drewN z) fun e w' => (e = .returned (.tuple #[.string ⟨#[]⟩, .bool false])) ∧ ∃ n, w' = wr.drewN n) := fun z => by have := HQ.out z; rw [if_pos hbad] at this; exact this
            clear hbad HD HQ
            go_wp2
            go_quiet ((go_at_call 88; exact (HC.out _)))
            go_wp2
            (try simp only [Exit.inBlock, Exit.then])
            have h4 := four_set (w := wr.drewN nq) (.string ⟨#[]⟩) (.int .u64 0) (.bool false) (.string ⟨#[]⟩) r0 r1 r2 r3
            refine bodyPost_ret (res_ent rfl _ _ w.heap.size ⟨#[]⟩ 0 false ⟨#[]⟩ (by rfl) h4.1 h4.2.1 h4.2.2.1 h4.2.2.2) rfl ?_
            exact ReIs.no HNO.out (four_below _ _ _ _ (below_drewN hW _) (Nat.le_refl _))
          · obtain ⟨K, hK⟩ : ∃ K, K = ofB ((strB ah).take s ++ (l.drop p).take m) := ⟨_, rfl⟩
            have HE4 : Hid (rdE l (strB ah) = if t % 2 = 1 then some ((K, ((t / 2 : Nat) : Int), true, ⟨#[]⟩), p + m) else if (text (l.drop (p + m)) 512).2.2 ≠ 0 then none else some ((K, ((t / 2 : Nat) : Int), false, ofB (text (l.drop (p + m)) 512).1), p + m + (text (l.drop (p + m)) 512).2.1)) := by
              show _ = _
              rw [HE3.out, hK]; unfold rdE.rdK; rw [if_neg (by rw [strB_length]; exact hbad)]
            have HC : Hid (∀ z, Calls Tryd.prog 88 #[.slice (some ⟨b, off, none⟩) 0 0, .string ah, .int .u64 (s : Int), .int .u64 (m : Int)] (wr.drewN z) fun e w' => (e = .returned (.tuple #[.string K, .bool true])) ∧ ∃ n, w' = wr.drewN n) := fun z => by have := HQ.out z; rw [if_neg hbad, ← hK] at this; exact this
            have hm64' : m ≤ 64 := by omega
            have hpm : p + m ≤ l.length := by omega
            have htd : ((t / 2 : Nat) : Int) = (t : Int) / 2 := by omega
            clear hbad HD HQ hK
            by_cases hodd : t % 2 = 1
            · have hand : bits .and .u64 (t : Int) 1 = 1 := by have := and_one t ht64; rw [hodd] at this; exact this
              have HYE : Hid (rdE l (strB ah) = some ((K, (t : Int) / 2, true, ⟨#[]⟩), p + m)) := by show _ = _; rw [HE4.out, if_pos hodd, htd]
              clear HE4 HE3 htd
              go_wp2
              go_quiet ((go_at_call 88; exact (HC.out _)))
              have RB5 : Hid (Below w.heap.size w (wr.drewN nq)) := below_drewN hW _
              have r0' : (wr.drewN nq).cell? ⟨w.heap.size, 0, none⟩ = some (.string ⟨#[]⟩) := r0
              have r1' : (wr.drewN nq).cell? ⟨w.heap.size, 1, none⟩ = some (.int .u64 0) := r1
              have r2' : (wr.drewN nq).cell? ⟨w.heap.size, 2, none⟩ = some (.bool false) := r2
              have r3' : (wr.drewN nq).cell? ⟨w.heap.size, 3, none⟩ = some (.string ⟨#[]⟩) := r3
              have rf' : ∀ j, (wr.drewN nq).frozen? ⟨w.heap.size, j, none⟩ = false := rf
              have rlt' : w.heap.size + 1 < (wr.drewN nq).heap.size := rlt
              have h1' : (wr.drewN nq).cell? ⟨w.heap.size + 1, 1, none⟩ = some (.int .u64 (m : Int)) := h1
              have h2' : (wr.drewN nq).cell? ⟨w.heap.size + 1, 2, none⟩ = some (.int .u64 (t : Int)) := h2
              clear HC HK hW r0 r1 r2 r3 rf rlt h0 h1 h2
              generalize wr.drewN nq = V at *
              have f0' := rf' 0
              have f1' := rf' 1
              have f2' := rf' 2
              have f3' := rf' 3
              have hne : ¬ w.heap.size = V.heap.size := by omega
              have hlt' : w.heap.size < V.heap.size := by omega
              go_wp2
              (try simp only [Exit.inBlock, Exit.then])
              have h4 := four_set (w := V) (.string K) (.int .u64 ((t : Int) / 2)) (.bool true) (.string ⟨#[]⟩) r0' r1' r2' r3'
              have hb4 : w.heap.size < ((((V.setCell ⟨w.heap.size, 0, none⟩ (.string K)).setCell ⟨w.heap.size, 1, none⟩ (.int .u64 ((t : Int) / 2))).setCell ⟨w.heap.size, 2, none⟩ (.bool true)).setCell ⟨w.heap.size, 3, none⟩ (.string ⟨#[]⟩)).heap.size := by simpa using hlt'
              refine bodyPost_ret (res_ent rfl _ _ w.heap.size K ((t : Int) / 2) true ⟨#[]⟩ (by rfl) (past hb4 h4.1) (past hb4 h4.2.1) (past hb4 h4.2.2.1) (past hb4 h4.2.2.2)) rfl ?_
              have hfin := ReIs.yes HYE.out ((four_below (.string K) (.int .u64 ((t : Int) / 2)) (.bool true) (.string ⟨#[]⟩) RB5.out (Nat.le_refl _)).alloc (by simpa using Nat.le_of_lt hlt') (.cells #[.string K, .int .u64 ((t : Int) / 2), .bool true, .string ⟨#[]⟩] 30))
              rw [show (((K, (t : Int) / 2, true, (⟨#[]⟩ : ByteArray)), p + m) : En × Nat).2 = p + m from rfl, show ((p + m : Nat) : Int) = (p : Int) + (m : Int) by omega] at hfin
              first | (rw [qp] at hfin; exact hfin) | exact hfin
            · have hand : bits .and .u64 (t : Int) 1 = 0 := by have := and_one t ht64; rw [show t % 2 = 0 by omega] at this; exact this
              obtain ⟨tx, tn, tf, htxt⟩ : ∃ tx tn tf, text (l.drop (p + m)) 512 = (tx, tn, tf) := ⟨_, _, _, rfl⟩
              rw [if_neg hodd, htxt] at HE4
              dsimp only at HE4
              have HT : Hid (∀ ad V', Below w.heap.size w V' → (p + m < l.length → ad = some ⟨b, off + (p + m), none⟩) → Calls Tryd.prog 89 #[.slice ad (l.length - (p + m)) (l.length - (p + m)), .int .i64 512] V' fun e w' => e = .returned (.tuple #[.string (ofB tx), .int .i64 (tn : Int), .int .i64 (tf : Int)]) ∧ w' = V') := fun ad V' hV had => by
                have hi : IsB V' ad (l.drop (p + m)) := by
                  by_cases hlt : p + m < l.length
                  · rw [had hlt]; exact (isB_drop HA.out (p + m)).below' hV
                  · rw [List.drop_of_length_le (by omega)]; exact IsB.nil _ _
                have := text_any ad (l.length - (p + m)) (l.length - (p + m)) (l.drop (p + m)) 512 V' hi (by simp) (by omega) (by omega) (by simp)
                unfold txt at this
                rw [htxt] at this
                exact this
              have HTN : Hid (tn ≤ l.length) := by
                have := text_le (l.drop (p + m)) 512
                rw [htxt, List.length_drop] at this
                show tn ≤ _
                have h : tn ≤ l.length - (p + m) := this
                omega
              have htn := HTN.out
              clear htxt HE3
              go_wp2
              go_quiet ((go_at_call 88; exact (HC.out _)))
              have RB5 : Hid (Below w.heap.size w (wr.drewN nq)) := below_drewN hW _
              have r0' : (wr.drewN nq).cell? ⟨w.heap.size, 0, none⟩ = some (.string ⟨#[]⟩) := r0
              have r1' : (wr.drewN nq).cell? ⟨w.heap.size, 1, none⟩ = some (.int .u64 0) := r1
              have r2' : (wr.drewN nq).cell? ⟨w.heap.size, 2, none⟩ = some (.bool false) := r2
              have r3' : (wr.drewN nq).cell? ⟨w.heap.size, 3, none⟩ = some (.string ⟨#[]⟩) := r3
              have rf' : ∀ j, (wr.drewN nq).frozen? ⟨w.heap.size, j, none⟩ = false := rf
              have rlt' : w.heap.size + 1 < (wr.drewN nq).heap.size := rlt
              have h1' : (wr.drewN nq).cell? ⟨w.heap.size + 1, 1, none⟩ = some (.int .u64 (m : Int)) := h1
              have h2' : (wr.drewN nq).cell? ⟨w.heap.size + 1, 2, none⟩ = some (.int .u64 (t : Int)) := h2
              clear HC HK hW r0 r1 r2 r3 rf rlt h0 h1 h2
              generalize wr.drewN nq = V at *
              have f0' := rf' 0
              have f1' := rf' 1
              have f2' := rf' 2
              have f3' := rf' 3
              have hne : ¬ w.heap.size = V.heap.size := by omega
              have hlt' : w.heap.size < V.heap.size := by omega
              have HV2 : Hid (Below w.heap.size w (V.alloc (.cells #[.string K, .int .u64 ((t : Int) / 2), .bool false, .string ⟨#[]⟩] 30))) := RB5.out.alloc (Nat.le_of_lt hlt') _
              by_cases hpm2 : p + m = l.length
              · have HT2 : Hid (∀ ad V', Below w.heap.size w V' → Calls Tryd.prog 89 #[.slice ad 0 0, .int .i64 512] V' fun e w' => e = .returned (.tuple #[.string (ofB tx), .int .i64 (tn : Int), .int .i64 (tf : Int)]) ∧ w' = V') := fun ad V' hV => by have := HT.out ad V' hV (fun h => absurd h (by omega)); rw [show l.length - (p + m) = 0 by omega] at this; exact this
                clear HT
                have q9 : (p : Int) + (m : Int) = (l.length : Int) := by omega
                by_cases htf : tf = 0
                · subst htf
                  have HYE : Hid (rdE l (strB ah) = some ((K, (t : Int) / 2, false, ofB tx), p + m + tn)) := by show _ = _; rw [HE4.out, if_neg (by simp), htd]
                  clear HE4
                  go_wp2_with (go_at_call 89; go_loud (refine (HT2.out _ _ HV2.out).mono ?_; rintro e w1 ⟨rfl, hw⟩; have hw2 := hw.symm; clear hw; subst hw2))
                  (try simp only [Exit.inBlock, Exit.then])
                  have h4 := four_set (w := V) (.string K) (.int .u64 ((t : Int) / 2)) (.bool false) (.string (ofB tx)) r0' r1' r2' r3'
                  have hb4 : w.heap.size < ((((V.setCell ⟨w.heap.size, 0, none⟩ (.string K)).setCell ⟨w.heap.size, 1, none⟩ (.int .u64 ((t : Int) / 2))).setCell ⟨w.heap.size, 2, none⟩ (.bool false)).setCell ⟨w.heap.size, 3, none⟩ (.string (ofB tx))).heap.size := by simpa using hlt'
                  refine bodyPost_ret (res_ent rfl _ _ w.heap.size K ((t : Int) / 2) false (ofB tx) (by rfl) (past hb4 h4.1) (past hb4 h4.2.1) (past hb4 h4.2.2.1) (past hb4 h4.2.2.2)) rfl ?_
                  have hfin := ReIs.yes HYE.out ((four_below (.string K) (.int .u64 ((t : Int) / 2)) (.bool false) (.string (ofB tx)) RB5.out (Nat.le_refl _)).alloc (by simpa using Nat.le_of_lt hlt') (.cells #[.string K, .int .u64 ((t : Int) / 2), .bool false, .string (ofB tx)] 30))
                  rw [show (((K, (t : Int) / 2, false, ofB tx), p + m + tn) : En × Nat).2 = p + m + tn from rfl, show ((p + m + tn : Nat) : Int) = (p : Int) + (m : Int) + (tn : Int) by omega] at hfin
                  first | (rw [qp] at hfin; exact hfin) | (rw [q9] at hfin; exact hfin) | (rw [show (p : Int) + (m : Int) + (tn : Int) = (l.length : Int) + (tn : Int) by omega] at hfin; exact hfin) | exact hfin
                · have HNO : Hid (rdE l (strB ah) = none) := by show _ = _; rw [HE4.out, if_pos htf]
                  have hfi : ((tf : Int) != 0) = true := by simp; omega
                  clear HE4
                  go_wp2_with (go_at_call 89; go_loud (refine (HT2.out _ _ HV2.out).mono ?_; rintro e w1 ⟨rfl, hw⟩; have hw2 := hw.symm; clear hw; subst hw2))
                  (try simp only [Exit.inBlock, Exit.then])
                  have h4 := four_set (w := V) (.string ⟨#[]⟩) (.int .u64 0) (.bool false) (.string ⟨#[]⟩) r0' r1' r2' r3'
                  have hb4 : w.heap.size < ((((V.setCell ⟨w.heap.size, 0, none⟩ (.string ⟨#[]⟩)).setCell ⟨w.heap.size, 1, none⟩ (.int .u64 0)).setCell ⟨w.heap.size, 2, none⟩ (.bool false)).setCell ⟨w.heap.size, 3, none⟩ (.string ⟨#[]⟩)).heap.size := by simpa using hlt'
                  refine bodyPost_ret (res_ent rfl _ _ w.heap.size ⟨#[]⟩ 0 false ⟨#[]⟩ (by rfl) (past hb4 h4.1) (past hb4 h4.2.1) (past hb4 h4.2.2.1) (past hb4 h4.2.2.2)) rfl ?_
                  exact ReIs.no HNO.out ((four_below (.string ⟨#[]⟩) (.int .u64 0) (.bool false) (.string ⟨#[]⟩) RB5.out (Nat.le_refl _)).alloc (by simpa using Nat.le_of_lt hlt') _)
              · exact absurd (show p + m = l.length by omega) hpm2
        · have qp : (p : Int) < (l.length : Int) := by omega
          have HQ : Hid (∀ z, Calls Tryd.prog 88 #[.slice (some ⟨b, off + p, none⟩) (l.length - p) (l.length - p), .string ah, .int .u64 (s : Int), .int .u64 (m : Int)] (wr.drewN z) fun e w' => (e = .returned (if ah.size < s ∨ 64 < s + m ∨ l.length - p < m then .tuple #[.string ⟨#[]⟩, .bool false] else .tuple #[.string (ofB ((strB ah).take s ++ (l.drop p).take m)), .bool true])) ∧ ∃ n, w' = wr.drewN n) := HD.out _ (fun _ => rfl)
          by_cases hbad : ah.size < s ∨ 64 < s + m ∨ l.length - p < m
          · have HNO : Hid (rdE l (strB ah) = none) := by
              show _ = _
              rw [HE3.out]; unfold rdE.rdK; rw [if_pos (by rw [strB_length]; exact hbad)]
            have HC : Hid (∀ z, Calls Tryd.prog 88 #[.slice (some ⟨b, off + p, none⟩) (l.length - p) (l.length - p), .string ah, .int .u64 (s : Int), .int .u64 (m : Int)] (wr.drewN z) fun e w' => (e = .returned (.tuple #[.string ⟨#[]⟩, .bool false])) ∧ ∃ n, w' = wr.drewN n) := fun z => by have := HQ.out z; rw [if_pos hbad] at this; exact this
            clear hbad HD HQ
            go_wp2
            go_quiet ((go_at_call 88; exact (HC.out _)))
            go_wp2
            (try simp only [Exit.inBlock, Exit.then])
            have h4 := four_set (w := wr.drewN nq) (.string ⟨#[]⟩) (.int .u64 0) (.bool false) (.string ⟨#[]⟩) r0 r1 r2 r3
            refine bodyPost_ret (res_ent rfl _ _ w.heap.size ⟨#[]⟩ 0 false ⟨#[]⟩ (by rfl) h4.1 h4.2.1 h4.2.2.1 h4.2.2.2) rfl ?_
            exact ReIs.no HNO.out (four_below _ _ _ _ (below_drewN hW _) (Nat.le_refl _))
          · obtain ⟨K, hK⟩ : ∃ K, K = ofB ((strB ah).take s ++ (l.drop p).take m) := ⟨_, rfl⟩
            have HE4 : Hid (rdE l (strB ah) = if t % 2 = 1 then some ((K, ((t / 2 : Nat) : Int), true, ⟨#[]⟩), p + m) else if (text (l.drop (p + m)) 512).2.2 ≠ 0 then none else some ((K, ((t / 2 : Nat) : Int), false, ofB (text (l.drop (p + m)) 512).1), p + m + (text (l.drop (p + m)) 512).2.1)) := by
              show _ = _
              rw [HE3.out, hK]; unfold rdE.rdK; rw [if_neg (by rw [strB_length]; exact hbad)]
            have HC : Hid (∀ z, Calls Tryd.prog 88 #[.slice (some ⟨b, off + p, none⟩) (l.length - p) (l.length - p), .string ah, .int .u64 (s : Int), .int .u64 (m : Int)] (wr.drewN z) fun e w' => (e = .returned (.tuple #[.string K, .bool true])) ∧ ∃ n, w' = wr.drewN n) := fun z => by have := HQ.out z; rw [if_neg hbad, ← hK] at this; exact this
            have hm64' : m ≤ 64 := by omega
            have hpm : p + m ≤ l.length := by omega
            have htd : ((t / 2 : Nat) : Int) = (t : Int) / 2 := by omega
            clear hbad HD HQ hK
            by_cases hodd : t % 2 = 1
            · have hand : bits .and .u64 (t : Int) 1 = 1 := by have := and_one t ht64; rw [hodd] at this; exact this
              have HYE : Hid (rdE l (strB ah) = some ((K, (t : Int) / 2, true, ⟨#[]⟩), p + m)) := by show _ = _; rw [HE4.out, if_pos hodd, htd]
              clear HE4 HE3 htd
              go_wp2
              go_quiet ((go_at_call 88; exact (HC.out _)))
              have RB5 : Hid (Below w.heap.size w (wr.drewN nq)) := below_drewN hW _
              have r0' : (wr.drewN nq).cell? ⟨w.heap.size, 0, none⟩ = some (.string ⟨#[]⟩) := r0
              have r1' : (wr.drewN nq).cell? ⟨w.heap.size, 1, none⟩ = some (.int .u64 0) := r1
              have r2' : (wr.drewN nq).cell? ⟨w.heap.size, 2, none⟩ = some (.bool false) := r2
              have r3' : (wr.drewN nq).cell? ⟨w.heap.size, 3, none⟩ = some (.string ⟨#[]⟩) := r3
              have rf' : ∀ j, (wr.drewN nq).frozen? ⟨w.heap.size, j, none⟩ = false := rf
              have rlt' : w.heap.size + 1 < (wr.drewN nq).heap.size := rlt
              have h1' : (wr.drewN nq).cell? ⟨w.heap.size + 1, 1, none⟩ = some (.int .u64 (m : Int)) := h1
              have h2' : (wr.drewN nq).cell? ⟨w.heap.size + 1, 2, none⟩ = some (.int .u64 (t : Int)) := h2
              clear HC HK hW r0 r1 r2 r3 rf rlt h0 h1 h2
              generalize wr.drewN nq = V at *
              have f0' := rf' 0
              have f1' := rf' 1
              have f2' := rf' 2
              have f3' := rf' 3
              have hne : ¬ w.heap.size = V.heap.size := by omega
              have hlt' : w.heap.size < V.heap.size := by omega
              go_wp2
              (try simp only [Exit.inBlock, Exit.then])
              have h4 := four_set (w := V) (.string K) (.int .u64 ((t : Int) / 2)) (.bool true) (.string ⟨#[]⟩) r0' r1' r2' r3'
              have hb4 : w.heap.size < ((((V.setCell ⟨w.heap.size, 0, none⟩ (.string K)).setCell ⟨w.heap.size, 1, none⟩ (.int .u64 ((t : Int) / 2))).setCell ⟨w.heap.size, 2, none⟩ (.bool true)).setCell ⟨w.heap.size, 3, none⟩ (.string ⟨#[]⟩)).heap.size := by simpa using hlt'
              refine bodyPost_ret (res_ent rfl _ _ w.heap.size K ((t : Int) / 2) true ⟨#[]⟩ (by rfl) (past hb4 h4.1) (past hb4 h4.2.1) (past hb4 h4.2.2.1) (past hb4 h4.2.2.2)) rfl ?_
              have hfin := ReIs.yes HYE.out ((four_below (.string K) (.int .u64 ((t : Int) / 2)) (.bool true) (.string ⟨#[]⟩) RB5.out (Nat.le_refl _)).alloc (by simpa using Nat.le_of_lt hlt') (.cells #[.string K, .int .u64 ((t : Int) / 2), .bool true, .string ⟨#[]⟩] 30))
              rw [show (((K, (t : Int) / 2, true, (⟨#[]⟩ : ByteArray)), p + m) : En × Nat).2 = p + m from rfl, show ((p + m : Nat) : Int) = (p : Int) + (m : Int) by omega] at hfin
              exact hfin
            · have hand : bits .and .u64 (t : Int) 1 = 0 := by have := and_one t ht64; rw [show t % 2 = 0 by omega] at this; exact this
              obtain ⟨tx, tn, tf, htxt⟩ : ∃ tx tn tf, text (l.drop (p + m)) 512 = (tx, tn, tf) := ⟨_, _, _, rfl⟩
              rw [if_neg hodd, htxt] at HE4
              dsimp only at HE4
              have HT : Hid (∀ ad V', Below w.heap.size w V' → (p + m < l.length → ad = some ⟨b, off + (p + m), none⟩) → Calls Tryd.prog 89 #[.slice ad (l.length - (p + m)) (l.length - (p + m)), .int .i64 512] V' fun e w' => e = .returned (.tuple #[.string (ofB tx), .int .i64 (tn : Int), .int .i64 (tf : Int)]) ∧ w' = V') := fun ad V' hV had => by
                have hi : IsB V' ad (l.drop (p + m)) := by
                  by_cases hlt : p + m < l.length
                  · rw [had hlt]; exact (isB_drop HA.out (p + m)).below' hV
                  · rw [List.drop_of_length_le (by omega)]; exact IsB.nil _ _
                have := text_any ad (l.length - (p + m)) (l.length - (p + m)) (l.drop (p + m)) 512 V' hi (by simp) (by omega) (by omega) (by simp)
                unfold txt at this
                rw [htxt] at this
                exact this
              have HTN : Hid (tn ≤ l.length) := by
                have := text_le (l.drop (p + m)) 512
                rw [htxt, List.length_drop] at this
                show tn ≤ _
                have h : tn ≤ l.length - (p + m) := this
                omega
              have htn := HTN.out
              clear htxt HE3
              go_wp2
              go_quiet ((go_at_call 88; exact (HC.out _)))
              have RB5 : Hid (Below w.heap.size w (wr.drewN nq)) := below_drewN hW _
              have r0' : (wr.drewN nq).cell? ⟨w.heap.size, 0, none⟩ = some (.string ⟨#[]⟩) := r0
              have r1' : (wr.drewN nq).cell? ⟨w.heap.size, 1, none⟩ = some (.int .u64 0) := r1
              have r2' : (wr.drewN nq).cell? ⟨w.heap.size, 2, none⟩ = some (.bool false) := r2
              have r3' : (wr.drewN nq).cell? ⟨w.heap.size, 3, none⟩ = some (.string ⟨#[]⟩) := r3
              have rf' : ∀ j, (wr.drewN nq).frozen? ⟨w.heap.size, j, none⟩ = false := rf
              have rlt' : w.heap.size + 1 < (wr.drewN nq).heap.size := rlt
              have h1' : (wr.drewN nq).cell? ⟨w.heap.size + 1, 1, none⟩ = some (.int .u64 (m : Int)) := h1
              have h2' : (wr.drewN nq).cell? ⟨w.heap.size + 1, 2, none⟩ = some (.int .u64 (t : Int)) := h2
              clear HC HK hW r0 r1 r2 r3 rf rlt h0 h1 h2
              generalize wr.drewN nq = V at *
              have f0' := rf' 0
              have f1' := rf' 1
              have f2' := rf' 2
              have f3' := rf' 3
              have hne : ¬ w.heap.size = V.heap.size := by omega
              have hlt' : w.heap.size < V.heap.size := by omega
              have HV2 : Hid (Below w.heap.size w (V.alloc (.cells #[.string K, .int .u64 ((t : Int) / 2), .bool false, .string ⟨#[]⟩] 30))) := RB5.out.alloc (Nat.le_of_lt hlt') _
              by_cases hpm2 : p + m = l.length
              · have HT2 : Hid (∀ ad V', Below w.heap.size w V' → Calls Tryd.prog 89 #[.slice ad 0 0, .int .i64 512] V' fun e w' => e = .returned (.tuple #[.string (ofB tx), .int .i64 (tn : Int), .int .i64 (tf : Int)]) ∧ w' = V') := fun ad V' hV => by have := HT.out ad V' hV (fun h => absurd h (by omega)); rw [show l.length - (p + m) = 0 by omega] at this; exact this
                clear HT
                have q9 : (p : Int) + (m : Int) = (l.length : Int) := by omega
                by_cases htf : tf = 0
                · subst htf
                  have HYE : Hid (rdE l (strB ah) = some ((K, (t : Int) / 2, false, ofB tx), p + m + tn)) := by show _ = _; rw [HE4.out, if_neg (by simp), htd]
                  clear HE4
                  go_wp2_with (go_at_call 89; go_loud (refine (HT2.out _ _ HV2.out).mono ?_; rintro e w1 ⟨rfl, hw⟩; have hw2 := hw.symm; clear hw; subst hw2))
                  (try simp only [Exit.inBlock, Exit.then])
                  have h4 := four_set (w := V) (.string K) (.int .u64 ((t : Int) / 2)) (.bool false) (.string (ofB tx)) r0' r1' r2' r3'
                  have hb4 : w.heap.size < ((((V.setCell ⟨w.heap.size, 0, none⟩ (.string K)).setCell ⟨w.heap.size, 1, none⟩ (.int .u64 ((t : Int) / 2))).setCell ⟨w.heap.size, 2, none⟩ (.bool false)).setCell ⟨w.heap.size, 3, none⟩ (.string (ofB tx))).heap.size := by simpa using hlt'
                  refine bodyPost_ret (res_ent rfl _ _ w.heap.size K ((t : Int) / 2) false (ofB tx) (by rfl) (past hb4 h4.1) (past hb4 h4.2.1) (past hb4 h4.2.2.1) (past hb4 h4.2.2.2)) rfl ?_
                  have hfin := ReIs.yes HYE.out ((four_below (.string K) (.int .u64 ((t : Int) / 2)) (.bool false) (.string (ofB tx)) RB5.out (Nat.le_refl _)).alloc (by simpa using Nat.le_of_lt hlt') (.cells #[.string K, .int .u64 ((t : Int) / 2), .bool false, .string (ofB tx)] 30))
                  rw [show (((K, (t : Int) / 2, false, ofB tx), p + m + tn) : En × Nat).2 = p + m + tn from rfl, show ((p + m + tn : Nat) : Int) = (p : Int) + (m : Int) + (tn : Int) by omega] at hfin
                  rw [q9] at hfin
                  exact hfin
                · have HNO : Hid (rdE l (strB ah) = none) := by show _ = _; rw [HE4.out, if_pos htf]
                  have hfi : ((tf : Int) != 0) = true := by simp; omega
                  clear HE4
                  go_wp2_with (go_at_call 89; go_loud (refine (HT2.out _ _ HV2.out).mono ?_; rintro e w1 ⟨rfl, hw⟩; have hw2 := hw.symm; clear hw; subst hw2))
                  (try simp only [Exit.inBlock, Exit.then])
                  have h4 := four_set (w := V) (.string ⟨#[]⟩) (.int .u64 0) (.bool false) (.string ⟨#[]⟩) r0' r1' r2' r3'
                  have hb4 : w.heap.size < ((((V.setCell ⟨w.heap.size, 0, none⟩ (.string ⟨#[]⟩)).setCell ⟨w.heap.size, 1, none⟩ (.int .u64 0)).setCell ⟨w.heap.size, 2, none⟩ (.bool false)).setCell ⟨w.heap.size, 3, none⟩ (.string ⟨#[]⟩)).heap.size := by simpa using hlt'
                  refine bodyPost_ret (res_ent rfl _ _ w.heap.size ⟨#[]⟩ 0 false ⟨#[]⟩ (by rfl) (past hb4 h4.1) (past hb4 h4.2.1) (past hb4 h4.2.2.1) (past hb4 h4.2.2.2)) rfl ?_
                  exact ReIs.no HNO.out ((four_below (.string ⟨#[]⟩) (.int .u64 0) (.bool false) (.string ⟨#[]⟩) RB5.out (Nat.le_refl _)).alloc (by simpa using Nat.le_of_lt hlt') _)
              · have HT2 : Hid (∀ ad V', Below w.heap.size w V' → ad = some ⟨b, off + (p + m), none⟩ → Calls Tryd.prog 89 #[.slice ad (l.length - (p + m)) (l.length - (p + m)), .int .i64 512] V' fun e w' => e = .returned (.tuple #[.string (ofB tx), .int .i64 (tn : Int), .int .i64 (tf : Int)]) ∧ w' = V') := fun ad V' hV h => HT.out ad V' hV (fun _ => h)
                clear HT
                have q9 : (p : Int) + (m : Int) < (l.length : Int) := by omega
                by_cases htf : tf = 0
                · subst htf
                  have HYE : Hid (rdE l (strB ah) = some ((K, (t : Int) / 2, false, ofB tx), p + m + tn)) := by show _ = _; rw [HE4.out, if_neg (by simp), htd]
                  clear HE4
                  go_wp2_with (go_at_call 89; go_loud (refine (HT2.out _ _ HV2.out rfl).mono ?_; rintro e w1 ⟨rfl, hw⟩; have hw2 := hw.symm; clear hw; subst hw2))
                  (try simp only [Exit.inBlock, Exit.then])
                  have h4 := four_set (w := V) (.string K) (.int .u64 ((t : Int) / 2)) (.bool false) (.string (ofB tx)) r0' r1' r2' r3'
                  have hb4 : w.heap.size < ((((V.setCell ⟨w.heap.size, 0, none⟩ (.string K)).setCell ⟨w.heap.size, 1, none⟩ (.int .u64 ((t : Int) / 2))).setCell ⟨w.heap.size, 2, none⟩ (.bool false)).setCell ⟨w.heap.size, 3, none⟩ (.string (ofB tx))).heap.size := by simpa using hlt'
                  refine bodyPost_ret (res_ent rfl _ _ w.heap.size K ((t : Int) / 2) false (ofB tx) (by rfl) (past hb4 h4.1) (past hb4 h4.2.1) (past hb4 h4.2.2.1) (past hb4 h4.2.2.2)) rfl ?_
                  have hfin := ReIs.yes HYE.out ((four_below (.string K) (.int .u64 ((t : Int) / 2)) (.bool false) (.string (ofB tx)) RB5.out (Nat.le_refl _)).alloc (by simpa using Nat.le_of_lt hlt') (.cells #[.string K, .int .u64 ((t : Int) / 2), .bool false, .string (ofB tx)] 30))
                  rw [show (((K, (t : Int) / 2, false, ofB tx), p + m + tn) : En × Nat).2 = p + m + tn from rfl, show ((p + m + tn : Nat) : Int) = (p : Int) + (m : Int) + (tn : Int) by omega] at hfin
                  exact hfin
                · have HNO : Hid (rdE l (strB ah) = none) := by show _ = _; rw [HE4.out, if_pos htf]
                  have hfi : ((tf : Int) != 0) = true := by simp; omega
                  clear HE4
                  go_wp2_with (go_at_call 89; go_loud (refine (HT2.out _ _ HV2.out rfl).mono ?_; rintro e w1 ⟨rfl, hw⟩; have hw2 := hw.symm; clear hw; subst hw2))
                  (try simp only [Exit.inBlock, Exit.then])
                  have h4 := four_set (w := V) (.string ⟨#[]⟩) (.int .u64 0) (.bool false) (.string ⟨#[]⟩) r0' r1' r2' r3'
                  have hb4 : w.heap.size < ((((V.setCell ⟨w.heap.size, 0, none⟩ (.string ⟨#[]⟩)).setCell ⟨w.heap.size, 1, none⟩ (.int .u64 0)).setCell ⟨w.heap.size, 2, none⟩ (.bool false)).setCell ⟨w.heap.size, 3, none⟩ (.string ⟨#[]⟩)).heap.size := by simpa using hlt'
                  refine bodyPost_ret (res_ent rfl _ _ w.heap.size ⟨#[]⟩ 0 false ⟨#[]⟩ (by rfl) (past hb4 h4.1) (past hb4 h4.2.1) (past hb4 h4.2.2.1) (past hb4 h4.2.2.2)) rfl ?_
                  exact ReIs.no HNO.out ((four_below (.string ⟨#[]⟩) (.int .u64 0) (.bool false) (.string ⟨#[]⟩) RB5.out (Nat.le_refl _)).alloc (by simpa using Nat.le_of_lt hlt') _)

end Qb
end Go.Proofs.YtkebbmdghnplmaaDoor
