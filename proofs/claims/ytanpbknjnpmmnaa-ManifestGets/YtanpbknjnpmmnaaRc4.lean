import Derived.Test.YtanpbknjnpmmnaaCRw
import Derived.Test.YtanpbknjnpmmnaaIRw
import Derived.Test.YtanpbknjnpmmnaaRom
import Derived.BigQuiet
import Derived.Deep.DeepCutAuto
import Derived.Deep.RegionHeld3
namespace Go.Proofs.Ytanpbknjnpmmnaa
namespace Rqc
open Go.RowKit Laws Irw Crw Byt
open Rom (mark_lt lotN lot_byte lot_any)
set_option linter.unusedVariables false
set_option linter.unusedSimpArgs false
set_option maxRecDepth 100000
abbrev Wr := Nat
abbrev Sv := Option Addr × Nat × Nat
def kY : Knd Nat := ⟨5, 1, 1, .int .u8 0, fun x => [.int .u8 (x : Int)], fun _ => rfl, fun x u hu => by simp at hu; subst hu; rfl, by omega, rfl, by omega⟩
theorem infoY' : (Try.prog.info? 5).map (fun i => (i.zero, i.size, i.bytes)) = some (some kY.zero, 1, 1) := by kernel_rfl
theorem undY' : Try.prog.underlying 24 = some (.slice 5) := by kernel_rfl
def kS : Knd Sv := ⟨24, 1, 24, .slice none 0 0, fun x => [.slice x.1 x.2.1 x.2.2], fun _ => rfl, fun x u hu => by simp at hu; subst hu; rfl, by omega, rfl, by omega⟩
theorem infoS : (Try.prog.info? 24).map (fun i => (i.zero, i.size, i.bytes)) = some (some kS.zero, 1, 24) := by kernel_rfl
theorem undG : Try.prog.underlying 22 = some (.slice 24) := by kernel_rfl
theorem hid {p : Prop} (h : p) : Hid p := h
/-- The marks behind a list of bytes. -/
def marks (k : Nat) : List Nat := (List.range k).map Rom.mark
theorem marks_succ (k : Nat) : marks (k + 1) = marks k ++ [Rom.mark k] := by simp [marks, List.range_succ]
theorem marks_length (k : Nat) : (marks k).length = k := by simp [marks]
theorem marks_get {k i : Nat} (h : i < k) : (marks k)[i]? = some (Rom.mark i) := by simp [marks, h]
theorem isK_b {w : World} {a : Option Addr} {l : List Nat} (h : IsB w a l) : IsK kY w a l := fun hne => by
  obtain ⟨b, off, e, hr⟩ := h.1 hne
  refine ⟨b, off, e, hr.1, fun i x hx j u hu => ?_⟩
  have h0 := hr.2 i x hx
  match j with
  | 0 => cases hu; rw [show off + i * kY.size + 0 = off + i by show off + i * 1 + 0 = _; omega]; exact h0
  | j + 1 => exact absurd hu (by rw [show (kY.cs x)[j + 1]? = none from rfl]; simp)
theorem b_of {w : World} {b off : Nat} {l : List Nat} (h : KRow kY w b off l) : BRow w b off l :=
  ⟨h.1, fun i x hx => by have := h.2 i x hx 0 _ rfl; rw [show off + i * kY.size + 0 = off + i by show off + i * 1 + 0 = _; omega] at this; exact this⟩
theorem isK_one {w : World} {x : Nat} {u : TypeId} {g : Nat} (hg : w.heap.size = g) {z : Int} (hz : z = (x : Int)) : IsK kY (w.alloc (.cells #[.int .u8 z] u)) (some ⟨g, 0, none⟩) [x] := by
  subst hg
  subst hz
  refine IsK.of ⟨by simp, fun i z hz j v hv => ?_⟩
  cases i with
  | zero =>
    simp at hz; subst hz
    rw [World.cell?_alloc_at _ _ _ _ rfl]
    match j with
    | 0 => exact hv
    | j + 1 => exact absurd hv (by rw [show (kY.cs x)[j + 1]? = none from rfl]; simp)
  | succ i => simp at hz
theorem isS_one {w : World} {v : Sv} {u : TypeId} {g : Nat} (hg : w.heap.size = g) : IsK kS (w.alloc (.cells #[.slice v.1 v.2.1 v.2.2] u)) (some ⟨g, 0, none⟩) [v] := by
  subst hg
  refine IsK.of ⟨by simp, fun i z hz j x hx => ?_⟩
  cases i with
  | zero =>
    simp at hz; subst hz
    rw [World.cell?_alloc_at _ _ _ _ rfl]
    match j with
    | 0 => exact hx
    | j + 1 => exact absurd hx (by rw [show (kS.cs v)[j + 1]? = none from rfl]; simp)
  | succ i => simp at hz
theorem isI_one {w : World} {x : Int} {u : TypeId} {g : Nat} (hg : w.heap.size = g) : IsI (w.alloc (.cells #[.int .i64 x] u)) (some ⟨g, 0, none⟩) [x] := by
  subst hg
  refine IsI.of ⟨by simp, fun i z hz => ?_⟩
  rw [World.cell?_alloc_at _ _ _ _ rfl]
  cases i with
  | zero => simp at hz; subst hz; rfl
  | succ i => simp at hz
theorem infoI : (Try.prog.info? 3).map (fun i => (i.zero, i.size, i.bytes)) = some (some (.int .i64 0), 1, 8) := by kernel_rfl
/-- A list that was laid: a block of tag 0, marks behind. -/
def Lw (T : Nat → Nat) (w : World) (v : Sv) (ws : List Wr) : Prop := v.2.1 = ws.length + 4 ∧ ∃ b, v.1 = some ⟨b, 0, none⟩ ∧ T b = 0 ∧ KRow kY w b 0 (ws ++ marks 4) ∧ ∀ j, w.frozen? ⟨b, j, none⟩ = false
theorem Lw.goes {u : Nat → Prop} {T T' : Nat → Nat} {w w' : World} {v : Sv} {ws : List Wr} (h : Lw T w v ws) (hg : Goes u T w T' w') (h0 : ¬ u 0) : Lw T' w' v ws := by
  obtain ⟨h1, b, e, ht, hr, hf⟩ := h
  exact ⟨h1, b, e, (hg.tag b hr.1 (by rw [ht]; exact h0)).trans ht, hr.keep (hg.block b hr.1 (by rw [ht]; exact h0)) hg.size, fun j => (World.frozen?_of_block (a := ⟨b, j, none⟩) (hg.block b hr.1 (by rw [ht]; exact h0))).trans (hf j)⟩
/-- A room that has lent lists of writes alone: tags 1 (itself), 2, 3 (its two lists). -/
structure Rm (T : Nat → Nat) (w : World) (R : Nat) (vs : List Sv) (gs : List (List Wr)) : Prop where
  lt : R < w.heap.size
  tag : T R = 1
  c0 : ∃ v, w.cell? ⟨R, 0, none⟩ = some v ∧ OwnK kS 2 T w v vs
  c1 : ∃ v, w.cell? ⟨R, 1, none⟩ = some v ∧ OwnL 3 T w v (gs.map fun g => (g.length : Int))
  nil : ∀ j, j < 28 → j ≠ 0 → j ≠ 1 → w.cell? ⟨R, j, none⟩ = some (.slice none 0 0)
  fz : ∀ j, w.frozen? ⟨R, j, none⟩ = false
  ln : vs.length = gs.length
  ok : ∀ (i : Nat) v g, vs[i]? = some v → gs[i]? = some g → Lw T w v g
def u3 (x : Nat) : Prop := x = 1 ∨ x = 2 ∨ x = 3
theorem Rm.goes {u : Nat → Prop} {T T' : Nat → Nat} {w w' : World} {R : Nat} {vs : List Sv} {gs : List (List Wr)} (h : Rm T w R vs gs) (hg : Goes u T w T' w') (h0 : ¬ u 0) (h1 : ¬ u 1) (h2 : ¬ u 2) (h3 : ¬ u 3) : Rm T' w' R vs gs := by
  have e : ¬ u (T R) := by rw [h.tag]; exact h1
  obtain ⟨v2, k2, o2⟩ := h.c0
  obtain ⟨v3, k3, o3⟩ := h.c1
  exact ⟨Nat.lt_of_lt_of_le h.lt hg.size, (hg.tag R h.lt e).trans h.tag, ⟨v2, (hg.cell h.lt e).trans k2, o2.goes hg h2⟩, ⟨v3, (hg.cell h.lt e).trans k3, o3.goes hg h3⟩, fun j q1 q2 q3 => (hg.cell h.lt e).trans (h.nil j q1 q2 q3), fun j => (World.frozen?_of_block (a := ⟨R, j, none⟩) (hg.block R h.lt e)).trans (h.fz j), h.ln, fun i v g hv hw => (h.ok i v g hv hw).goes hg h0⟩
theorem Rm.below {T : Nat → Nat} {w w' : World} {R : Nat} {vs : List Sv} {gs : List (List Wr)} (h : Rm T w R vs gs) (hb : Below w.heap.size w w') : Rm T w' R vs gs := h.goes (Goes.below (t := fun _ => False) hb) (fun z => z) (fun z => z) (fun z => z) (fun z => z)
/-- One list more was laid. -/
theorem Rm.more {T T2 T3 : Nat → Nat} {w w2 w3 : World} {R : Nat} {vs : List Sv} {gs : List (List Wr)} {v : Sv} {ws : List Wr} {x2 x3 : Value} (h : Rm T w R vs gs) (hv : Lw T w v ws)
    (g2 : Goes (· = 2) T w T2 w2) (o2 : OwnK kS 2 T2 w2 x2 (vs ++ [v])) (g3 : Goes (· = 3) T2 (w2.setCell ⟨R, 0, none⟩ x2) T3 w3) (o3 : OwnL 3 T3 w3 x3 ((gs.map fun g => (g.length : Int)) ++ [(ws.length : Int)])) :
    Rm T3 (w3.setCell ⟨R, 1, none⟩ x3) R (vs ++ [v]) (gs ++ [ws]) ∧ Goes u3 T w T3 (w3.setCell ⟨R, 1, none⟩ x3) := by
  have e2 : ¬ (T R = 2) := by rw [h.tag]; omega
  have t2 : T2 R = 1 := (g2.tag R h.lt e2).trans h.tag
  have l2 : R < w2.heap.size := Nat.lt_of_lt_of_le h.lt g2.size
  have s2 : Goes (· = 1) T2 w2 T2 (w2.setCell ⟨R, 0, none⟩ x2) := Goes.setCell t2
  have l2' : R < (w2.setCell ⟨R, 0, none⟩ x2).heap.size := by simpa using l2
  have e3 : ¬ (T2 R = 3) := by rw [t2]; omega
  have t3 : T3 R = 1 := (g3.tag R l2' e3).trans t2
  have l3 : R < w3.heap.size := Nat.lt_of_lt_of_le l2' g3.size
  have s3 : Goes (· = 1) T3 w3 T3 (w3.setCell ⟨R, 1, none⟩ x3) := Goes.setCell t3
  have G : Goes u3 T w T3 (w3.setCell ⟨R, 1, none⟩ x3) := (g2.mono fun x hx => .inr (.inl hx)).trans ((s2.mono fun x hx => .inl hx).trans ((g3.mono fun x hx => .inr (.inr hx)).trans (s3.mono fun x hx => .inl hx)))
  obtain ⟨v2, k2, _⟩ := h.c0
  obtain ⟨v3, k3, _⟩ := h.c1
  have c0 : w3.cell? ⟨R, 0, none⟩ = some x2 := (g3.cell l2' e3).trans (World.cell?_setCell_same _ _ _ ((g2.cell h.lt e2).trans k2))
  have c1 : w3.cell? ⟨R, 1, none⟩ = some v3 := (g3.cell l2' e3).trans ((World.cell?_setCell_other _ _ _ _ (by intro z; cases z)).trans ((g2.cell h.lt e2).trans k3))
  have co : ∀ j, j ≠ 0 → j ≠ 1 → (w3.setCell ⟨R, 1, none⟩ x3).cell? ⟨R, j, none⟩ = w.cell? ⟨R, j, none⟩ := fun j q1 q2 => (World.cell?_setCell_other _ _ _ _ (by intro z; exact q2 (congrArg Addr.off z).symm)).trans ((g3.cell l2' e3).trans ((World.cell?_setCell_other _ _ _ _ (by intro z; exact q1 (congrArg Addr.off z).symm)).trans (g2.cell h.lt e2)))
  have n0 : ¬ u3 0 := by unfold u3; omega
  refine ⟨⟨by simpa using l3, t3, ⟨x2, (World.cell?_setCell_other _ _ _ _ (by intro z; cases z)).trans c0, ((o2.goes s2 (by omega)).goes g3 (by omega)).goes s3 (by omega)⟩, ⟨x3, World.cell?_setCell_same _ _ _ c1, by rw [List.map_append]; exact o3.goes s3 (by omega)⟩, fun j q1 q2 q3 => (co j q2 q3).trans (h.nil j q1 q2 q3), fun j => ?_, by simp [h.ln], fun i y g hy hg => ?_⟩, G⟩
  · rw [World.frozen?_setCell]
    refine (World.frozen?_of_block (a := ⟨R, j, none⟩) (g3.block R l2' e3)).trans ?_
    rw [World.frozen?_setCell]
    exact (World.frozen?_of_block (a := ⟨R, j, none⟩) (g2.block R h.lt e2)).trans (h.fz j)
  · by_cases hi : i < vs.length
    · rw [List.getElem?_append_left hi] at hy
      rw [List.getElem?_append_left (by rw [← h.ln]; exact hi)] at hg
      exact (h.ok i y g hy hg).goes G n0
    · have hi2 : i = vs.length := by
        have := (List.getElem?_eq_some_iff.1 hy).1
        simp at this
        omega
      subst hi2
      rw [List.getElem?_concat_length] at hy
      rw [h.ln, List.getElem?_concat_length] at hg
      cases hy
      cases hg
      exact hv.goes G n0
theorem frz {w : World} {g : Nat} {cs : Array Value} {t : TypeId} (h : w.heap[g]? = some (.cells cs t)) (j : Nat) : w.frozen? ⟨g, j, none⟩ = false := by
  unfold World.frozen?
  rw [h]
  rfl
/-- A list of bytes of one's own, made since w. -/
def Nw (w wr : World) (v : Value) (l : List Wr) : Prop := ∃ T, OwnK kY 1 T wr v l ∧ (∀ b, b < w.heap.size → T b = 0) ∧ Below w.heap.size w wr
theorem Nw.first (w : World) : OwnK kY 1 (Irw.upd (fun _ => 0) w.heap.size 1) (w.alloc (.cells #[] 5)) (.slice (some ⟨w.heap.size, 0, none⟩) 0 0) [] :=
  ⟨World.ownsRow_lit w #[] 0 (Nat.zero_le _) (by simp [maxLen]) (by simp), fun g hg => by cases hg; exact upd_same _ _ _⟩
theorem Nw.of {w W wr : World} {T T' : Nat → Nat} {v : Value} {l : List Wr} (hb : Below w.heap.size w W) (hT : ∀ b, b < w.heap.size → T b = 0) (hg : Goes (· = 1) T W T' wr) (ho : OwnK kY 1 T' wr v l) : Nw w wr v l :=
  ⟨T', ho, fun b h => (hg.tag b (Nat.lt_of_lt_of_le h hb.size) (by rw [hT b h]; omega)).trans (hT b h), hb.trans ⟨hg.os, hg.tape, hg.output, hg.size, fun b h => hg.block b (Nat.lt_of_lt_of_le h hb.size) (by rw [hT b h]; omega)⟩⟩
/-- What was made lies in a block of tag 0. -/
theorem Nw.lw {w wr : World} {a : Option Addr} {n c : Nat} {ws : List Wr} {T : Nat → Nat} (h : Nw w wr (.slice a n c) (ws ++ marks 4)) (hz : ∀ b, w.heap.size ≤ b → T b = 0) : Lw T wr (a, n, c) ws ∧ n = ws.length + 4 ∧ n ≤ c ∧ ∃ b, a = some ⟨b, 0, none⟩ ∧ w.heap.size ≤ b := by
  obtain ⟨T', ho, h0, hb⟩ := h
  have hlen : (ws ++ marks 4).length = ws.length + 4 := by simp [marks_length]
  rcases ho.1.2 with ⟨h1, h2⟩ | ⟨g, cap, cur, hv, hq⟩
  · rw [hlen] at h2; omega
  · have hfz : ∀ j, wr.frozen? ⟨g, j, none⟩ = false := fun j => frz hq.2.1 j
    have hf := ho.form
    obtain ⟨a', c', e, hi, hle, _⟩ := hf
    cases hv
    cases e
    have ht := ho.2 g rfl
    have hge : w.heap.size ≤ g := by
      rcases Nat.lt_or_ge g w.heap.size with hl | hl
      · have := h0 g hl; omega
      · exact hl
    obtain ⟨b, off, e, hr⟩ := hi (by intro z; rw [z] at hlen; simp at hlen)
    cases e
    exact ⟨⟨hlen, g, rfl, hz g hge, hr, hfz⟩, hlen, hle, g, rfl, hge⟩
end Rqc
end Go.Proofs.Ytanpbknjnpmmnaa
namespace Go.Proofs.Ytanpbknjnpmmnaa
namespace Rqc
open Go.RowKit Laws Irw Crw Byt
open Rom (mark_lt lotN lot_byte lot_any)
set_option linter.unusedVariables false
set_option linter.unusedSimpArgs false
set_option maxRecDepth 400000
/-- What layBytes leaves. -/
def LayIs (T : Nat → Nat) (w : World) (R : Nat) (vs : List Sv) (gs : List (List Wr)) (ws : List Wr) (n : Nat) (e : Ending) (w' : World) : Prop :=
  ∃ b c T', e = .returned (.slice (some ⟨b, 0, none⟩) n (n + 4)) ∧ Rm T' w' R (vs ++ [(some ⟨b, 0, none⟩, n + 4, c)]) (gs ++ [ws]) ∧ Goes u3 T w T' w' ∧ w.heap.size ≤ b
set_option maxHeartbeats 2000000 in
theorem layBytes_any (T : Nat → Nat) (w : World) (R : Nat) (vs : List Sv) (gs : List (List Wr)) (a : Option Addr) (cap n : Nat) (ws : List Wr) (h : Rm T w R vs gs) (hz : ∀ b, w.heap.size ≤ b → T b = 0) (hn : n = ws.length) (hc : a = none → cap = 0) (hi : IsB w a ws) (hl : n ≤ 400000) (hv : vs.length ≤ 400000) :
    Calls Try.prog 36 #[.pointer (some ⟨R, 0, none⟩), .slice a n cap, .int .i64 4] w fun e w' => LayIs T w R vs gs ws n e w' := by
  obtain ⟨iW, hiW, hz0, hz1, hz2⟩ := info_parts infoY'
  obtain ⟨iS, hiS, hy0, hy1, hy2⟩ := info_parts infoS
  obtain ⟨iI, hiI, hx0, hx1, hx2⟩ := info_parts infoI
  have HR : Hid (Rm T w R vs gs) := h
  have HZ : Hid (∀ b, w.heap.size ≤ b → T b = 0) := hz
  have HN : Hid (n = ws.length) := hn
  have HI : Hid (IsK kY (w.alloc (.cells #[] 5)) a ws ∧ (a = none → cap = 0)) := ⟨(isK_b hi).below ((Below.refl _ _).alloc (Nat.le_refl _) _), hc⟩
  have HV : Hid (vs.length ≤ 400000 ∧ gs.length = vs.length) := ⟨hv, h.ln.symm⟩
  clear h hz hn hc hi hv
  go_enter Try.func36, Try.ntmps36
  go_wp2_with (at_builtin; go_loud (refine wpList_appK kY _ (by rfl) (.tmp 10) (.tmp 11) 24 (by rfl) iW undY' hiW hz0 hz1 hz2 1 (Irw.upd (fun _ => 0) w.heap.size 1) (.slice (some ⟨w.heap.size, 0, none⟩) 0 0) [] (by rfl) (Nw.first w) a n cap ws (by rfl) HN.out HI.out.2 HI.out.1 (by have := HN.out; simp; omega) ?_; intro a1 c1 T1 w1 hown1 hgo1; have H1 : Hid (Nw w w1 (.slice a1 n c1) ws) := (by have h9 := Nw.of ((Below.refl _ _).alloc (Nat.le_refl _) _) (fun b hb => upd_other _ _ (by omega)) hgo1 hown1; rw [List.nil_append, List.length_nil, Nat.zero_add, ← HN.out] at h9; exact h9); clear hown1 hgo1; rw [List.length_nil, Nat.zero_add, ← HN.out]))
  go_loopw [7, 8] (fun v i wr => ∃ (k : Nat) (aa : Option Addr) (cc : Nat), k ≤ 4 ∧ i = .int .i64 (k : Int) ∧ v = .slice aa (n + k) cc ∧ Hid (Nw w wr (.slice aa (n + k) cc) (ws ++ marks k))) (fun _ i _ => 4 - (intOf i).toNat)
  case atStart => exact ⟨0, a1, c1, by omega, rfl, rfl, by rw [Nat.add_zero, show marks 0 = [] from rfl, List.append_nil]; exact H1.out⟩
  case round =>
    clear H1
    obtain ⟨k, aa, cc, hk, rfl, rfl, HK⟩ := hrel
    by_cases hlt : k < 4
    · have q1 : (k : Int) < 4 := by omega
      obtain ⟨T9, ho9, h09, hb9⟩ := HK.out
      have HO : Hid (OwnK kY 1 T9 wr (.slice aa (n + k) cc) (ws ++ marks k) ∧ (∀ b, b < w.heap.size → T9 b = 0) ∧ Below w.heap.size w wr) := ⟨ho9, h09, hb9⟩
      have HLN : Hid ((ws ++ marks k).length = n + k) := by show (ws ++ marks k).length = n + k; rw [List.length_append, marks_length, ← HN.out]
      clear ho9 h09 hb9 HK
      go_wp2_with (first
        | (go_at_call 37; go_loud (refine (lot_any _ k _ rfl (by omega)).mono ?_; rintro e w' ⟨rfl, hw⟩; have hw2 := hw.symm; clear hw; subst hw2))
        | (at_builtin; go_loud (refine wpList_appK kY _ (by rfl) (.tmp 18) (.tmp 22) 24 (by rfl) iW undY' hiW hz0 hz1 hz2 1 T9 (.slice aa (n + k) cc) (ws ++ marks k) (by rfl) (HO.out.1.below ((Below.refl _ _).alloc (Nat.le_refl _) _)) (some ⟨wr.heap.size, 0, none⟩) 1 1 [Rom.mark k] (by rfl) (by rfl) (by simp) (isK_one rfl (Rom.lot_byte k)) (by have := HLN.out; rw [this]; simp; omega) ?_; intro a2 c2 T2 w2 hown2 hgo2; have H2 : Hid (Nw w w2 (.slice a2 (n + (k + 1)) c2) (ws ++ marks (k + 1))) := (by have h9 := Nw.of (HO.out.2.2.trans (((Below.refl _ _).alloc (Nat.le_refl _) _).mono HO.out.2.2.size)) HO.out.2.1 hgo2 hown2; rw [HLN.out, List.append_assoc, ← marks_succ] at h9; exact h9); clear hown2 hgo2; rw [HLN.out]; simp only [List.length_cons, List.length_nil, Nat.zero_add])))
      go_roundw
      case rel => exact ⟨k + 1, a2, c2, by omega, by go_num, by rw [Nat.add_assoc], H2⟩
      case measure => simp [intOf]; omega
    · obtain rfl : k = 4 := by omega
      obtain ⟨hlw, hq9, hcc, b, hb, hbw⟩ := HK.out.lw HZ.out
      clear hq9
      subst hb
      obtain ⟨_, _, _, hbe⟩ := HK.out
      have HLW : Hid (Lw T wr (some ⟨b, 0, none⟩, n + 4, cc) ws ∧ w.heap.size ≤ b ∧ Below w.heap.size w wr) := ⟨hlw, hbw, hbe⟩
      have HRr : Hid (Rm T wr R vs gs) := HR.out.below hbe
      obtain ⟨x2, k2, o2⟩ := HRr.out.c0
      obtain ⟨x3, k3, o3⟩ := HRr.out.c1
      obtain ⟨a2, c2, rfl, _⟩ := o2.form
      obtain ⟨a3, c3, rfl, _⟩ := o3.form
      rw [List.length_map, HV.out.2] at k3 o3
      have f2 := HRr.out.fz 0
      have f3 := HRr.out.fz 1
      have HO2 : Hid (OwnK kS 2 T wr (.slice a2 vs.length c2) vs) := o2
      have HO3 : Hid (OwnL 3 T wr (.slice a3 vs.length c3) (gs.map fun g => (g.length : Int))) := o3
      have hlt := HRr.out.lt
      obtain ⟨VN, hVN⟩ : ∃ VN, VN = vs.length := ⟨_, rfl⟩
      have HVN : Hid (VN = vs.length) := hVN
      rw [← hVN] at k2 k3
      rw [← hVN] at HO2 HO3
      clear hlw hbw hbe o2 o3 HK hVN
      have hci : (n : Int) + 4 ≤ (cc : Int) := by omega
      have hn4 : (n : Int) ≤ (n : Int) + 4 := by omega
      have HT1 : Hid (T R = 1 ∧ R < wr.heap.size) := ⟨HRr.out.tag, hlt⟩
      go_upto_region 7 with (fail)
      go_wp2_with (first
        | (at_builtin; go_loud (refine wpList_appK kS _ (by rfl) (.tmp 28) (.tmp 30) 22 (by rfl) iS undG hiS hy0 hy1 hy2 2 T (.slice a2 VN c2) vs (by rfl) (HO2.out.below ((Below.refl _ _).alloc (Nat.le_refl _) _)) (some ⟨wr.heap.size, 0, none⟩) 1 1 [(some ⟨b, 0, none⟩, n + 4, cc)] (by rfl) (by rfl) (by simp) (isS_one (v := (some ⟨b, 0, none⟩, n + 4, cc)) rfl) (by have := HV.out.1; simp; omega) ?_; intro a4 c4 T4 w4 hown4 hgo4; have hg4 : Goes (· = 2) T wr T4 w4 := (Goes.below ((Below.refl _ _).alloc (Nat.le_refl _) _)).trans hgo4; have HG4 : Hid (OwnK kS 2 T4 w4 (.slice a4 (VN + 1) c4) (vs ++ [(some ⟨b, 0, none⟩, n + 4, cc)]) ∧ Goes (· = 2) T wr T4 w4) := ⟨(by rw [HVN.out]; exact hown4), hg4⟩; have m2 := (hg4.cell HT1.out.2 (by rw [HT1.out.1]; omega)).trans k2; have m3 := (hg4.cell HT1.out.2 (by rw [HT1.out.1]; omega)).trans k3; have n2 : w4.frozen? ⟨R, 0, none⟩ = false := (World.frozen?_of_block (a := ⟨R, 0, none⟩) (hg4.block R HT1.out.2 (by rw [HT1.out.1]; omega))).trans f2; have n3 : w4.frozen? ⟨R, 1, none⟩ = false := (World.frozen?_of_block (a := ⟨R, 1, none⟩) (hg4.block R HT1.out.2 (by rw [HT1.out.1]; omega))).trans f3; rw [← HVN.out]; simp only [List.length_cons, List.length_nil, Nat.zero_add]; clear hown4 hgo4 hg4 k2 k3 f2 f3))
        | (at_builtin; go_loud (refine wpList_appL _ (by rfl) (.tmp 38) (.tmp 41) 26 (by rfl) iI Try.underlying26 hiI hx0 hx1 hx2 3 T4 (.slice a3 VN c3) (gs.map fun g => (g.length : Int)) (by rfl) (((HO3.out.goes HG4.out.2 (by omega)).goes (Goes.setCell (t := (· = 1)) ((HG4.out.2.tag R HT1.out.2 (by rw [HT1.out.1]; omega)).trans HT1.out.1)) (by omega)).below ((Below.refl _ _).alloc (Nat.le_refl _) _)) (some ⟨w4.heap.size, 0, none⟩) 1 1 [(n : Int)] (by rfl) (by rfl) (by simp) (isI_one (by simp)) (by have := HV.out; simp; omega) ?_; intro a5 c5 T5 w5 hown5 hgo5 _; have hg5 : Goes (· = 3) T4 (w4.setCell ⟨R, 0, none⟩ (.slice a4 (VN + 1) c4)) T5 w5 := (Goes.below ((Below.refl _ _).alloc (Nat.le_refl _) _)).trans hgo5; have HF : Hid (Rm T5 (w5.setCell ⟨R, 1, none⟩ (.slice a5 (VN + 1) c5)) R (vs ++ [(some ⟨b, 0, none⟩, n + 4, cc)]) (gs ++ [ws]) ∧ Goes u3 T wr T5 (w5.setCell ⟨R, 1, none⟩ (.slice a5 (VN + 1) c5))) := HRr.out.more HLW.out.1 HG4.out.2 HG4.out.1 hg5 (by rw [← HN.out]; rw [List.length_map, HV.out.2, ← HVN.out] at hown5; exact hown5); have hR4 : R < (w4.setCell ⟨R, 0, none⟩ (.slice a4 (VN + 1) c4)).heap.size := (by have := HT1.out.2; have := HG4.out.2.size; simp; omega); have hT4 : ¬ T4 R = 3 := (by rw [(HG4.out.2.tag R HT1.out.2 (by rw [HT1.out.1]; omega)).trans HT1.out.1]; omega); have m5 : w5.cell? ⟨R, 1, none⟩ = some (.slice a3 VN c3) := (hg5.cell hR4 hT4).trans ((World.cell?_setCell_other _ _ _ _ (by intro z; cases z)).trans m3); have n5 : w5.frozen? ⟨R, 1, none⟩ = false := (World.frozen?_of_block (a := ⟨R, 1, none⟩) (hg5.block R hR4 hT4)).trans (by rw [World.frozen?_setCell]; exact n3); rw [List.length_map, HV.out.2, ← HVN.out]; simp only [List.length_cons, List.length_nil, Nat.zero_add]; clear hown5 hgo5 hg5 hR4 hT4 m2 m3 n2 n3)))
      go_ret
      exact ⟨b, cc, T5, rfl, HF.out.1, (Goes.below HLW.out.2.2).trans HF.out.2, HLW.out.2.1⟩
end Rqc
end Go.Proofs.Ytanpbknjnpmmnaa
namespace Go.Proofs.Ytanpbknjnpmmnaa
namespace Rqc
open Go.RowKit Laws Irw Crw Byt
open Rom (mark_lt lotN lot_byte lot_any)
set_option linter.unusedVariables false
set_option linter.unusedSimpArgs false
set_option maxRecDepth 400000
/-- Lists of writes, none of which is nil and has room. -/
def GZ (w : World) (a : Option Addr) (gs : List (List Wr)) : Prop := ∃ vs : List Sv, vs.length = gs.length ∧ IsK kS w a vs ∧ ∀ (i : Nat) v ws, vs[i]? = some v → gs[i]? = some ws → v.2.1 = ws.length ∧ IsB w v.1 ws ∧ (v.1 = none → v.2.2 = 0)
theorem GZ.below {w w' : World} {a : Option Addr} {gs : List (List Wr)} (h : GZ w a gs) (hb : Below w.heap.size w w') : GZ w' a gs := by
  obtain ⟨vs, h1, h2, h3⟩ := h
  exact ⟨vs, h1, h2.below hb, fun i v ws hv hw => ⟨(h3 i v ws hv hw).1, (h3 i v ws hv hw).2.1.below hb, (h3 i v ws hv hw).2.2⟩⟩
theorem GZ.rd {w : World} {a : Option Addr} {gs : List (List Wr)} (h : GZ w a gs) {k : Nat} (hk : k < gs.length) : ∃ b off ad c ws, a = some ⟨b, off, none⟩ ∧ gs[k]? = some ws ∧ b < w.heap.size ∧ w.cell? ⟨b, off + k, none⟩ = some (.slice ad ws.length c) ∧ IsB w ad ws ∧ (ad = none → c = 0) := by
  obtain ⟨vs, h1, h2, h3⟩ := h
  obtain ⟨b, off, e, hr⟩ := h2.at_ (by omega)
  have hv : vs[k]? = some (vs[k]'(by omega)) := List.getElem?_eq_getElem (by omega)
  have hg : gs[k]? = some gs[k] := List.getElem?_eq_getElem hk
  obtain ⟨q1, q2, q3⟩ := h3 k _ _ hv hg
  have hc := hr.2 k _ hv 0 _ rfl
  rw [show off + k * kS.size + 0 = off + k by show off + k * 1 + 0 = _; omega, q1] at hc
  exact ⟨b, off, _, _, _, e, hg, hr.1, hc, q2, q3⟩
/-- What was lent of one list. -/
def Fs (T : Nat → Nat) (w : World) (v : Sv) (ws : List Wr) : Prop := v.2.1 = ws.length ∧ (v.2.1 ≤ v.2.2 ∧ v.2.2 ≤ v.2.1 + 4) ∧ ∃ b, v.1 = some ⟨b, 0, none⟩ ∧ T b = 0 ∧ KRow kY w b 0 ws ∧ ∀ j, w.frozen? ⟨b, j, none⟩ = false
theorem Fs.goes {u : Nat → Prop} {T T' : Nat → Nat} {w w' : World} {v : Sv} {ws : List Wr} (h : Fs T w v ws) (hg : Goes u T w T' w') (h0 : ¬ u 0) : Fs T' w' v ws := by
  obtain ⟨h1, hc, b, e, ht, hr, hf⟩ := h
  exact ⟨h1, hc, b, e, (hg.tag b hr.1 (by rw [ht]; exact h0)).trans ht, hr.keep (hg.block b hr.1 (by rw [ht]; exact h0)) hg.size, fun j => (World.frozen?_of_block (a := ⟨b, j, none⟩) (hg.block b hr.1 (by rw [ht]; exact h0))).trans (hf j)⟩
theorem row_pre {w : World} {b off : Nat} {l r : List Wr} (h : KRow kY w b off (l ++ r)) : KRow kY w b off l :=
  ⟨h.1, fun i e he j u hu => h.2 i e (by rw [List.getElem?_append_left (List.getElem?_eq_some_iff.1 he).1]; exact he) j u hu⟩
/-- one mark, as a list of its own -/
def mk1 (i : Nat) : List Wr := [Rom.mark i]
/-- a list's block -/
def blk (v : Sv) : Nat := match v.1 with
  | some a => a.block
  | none => 0
theorem snoc_ds {fs : List Sv} {x : Sv} (h : ∀ (i j : Nat) v u, i < j → fs[i]? = some v → fs[j]? = some u → blk v < blk u) (hx : ∀ v ∈ fs, blk v < blk x) : ∀ (i j : Nat) v u, i < j → (fs ++ [x])[i]? = some v → (fs ++ [x])[j]? = some u → blk v < blk u := by
  intro i j v u hij hv hu
  have hj := (List.getElem?_eq_some_iff.1 hu).1
  simp at hj
  rw [List.getElem?_append_left (by omega)] at hv
  by_cases hj2 : j < fs.length
  · rw [List.getElem?_append_left hj2] at hu
    exact h i j v u hij hv hu
  · obtain rfl : j = fs.length := by omega
    rw [List.getElem?_concat_length] at hu
    cases hu
    exact hx v (List.mem_of_getElem? hv)
/-- The lists of a room of groups, as far as they are laid: those lent, then marks. -/
structure Fl (T : Nat → Nat) (w : World) (fs : List Sv) (gs : List (List Wr)) (k : Nat) : Prop where
  ln : fs.length = gs.length + k
  ok : ∀ (i : Nat) v ws, fs[i]? = some v → (gs ++ (List.range k).map mk1)[i]? = some ws → Fs T w v ws
  ds : ∀ (i j : Nat) v u, i < j → fs[i]? = some v → fs[j]? = some u → blk v < blk u
theorem Fl.goes {u : Nat → Prop} {T T' : Nat → Nat} {w w' : World} {fs : List Sv} {gs : List (List Wr)} {k : Nat} (h : Fl T w fs gs k) (hg : Goes u T w T' w') (h0 : ¬ u 0) : Fl T' w' fs gs k := ⟨h.ln, fun i v ws hv hw => (h.ok i v ws hv hw).goes hg h0, h.ds⟩
theorem Fl.lt {T : Nat → Nat} {w : World} {fs : List Sv} {gs : List (List Wr)} {k : Nat} (h : Fl T w fs gs k) : ∀ v ∈ fs, blk v < w.heap.size := by
  intro v hv
  obtain ⟨i, hi, rfl⟩ := List.getElem_of_mem hv
  have hl : (gs ++ (List.range k).map mk1).length = fs.length := by simp [h.ln]
  obtain ⟨_, _, b, e, _, hr, _⟩ := h.ok i _ _ (List.getElem?_eq_getElem hi) (List.getElem?_eq_getElem (by omega))
  unfold blk
  rw [e]
  exact hr.1
theorem snoc_at {α β : Type} {P : α → β → Prop} {xs : List α} {ys : List β} {x : α} {y : β} (hl : xs.length = ys.length) (h : ∀ (i : Nat) a b, xs[i]? = some a → ys[i]? = some b → P a b) (hx : P x y) : ∀ (i : Nat) a b, (xs ++ [x])[i]? = some a → (ys ++ [y])[i]? = some b → P a b := by
  intro i a b ha hb
  by_cases hi : i < xs.length
  · rw [List.getElem?_append_left hi] at ha
    rw [List.getElem?_append_left (by omega)] at hb
    exact h i a b ha hb
  · have hi2 : i = xs.length := by
      have := (List.getElem?_eq_some_iff.1 ha).1
      simp at this
      omega
    subst hi2
    rw [List.getElem?_concat_length] at ha
    rw [hl, List.getElem?_concat_length] at hb
    cases ha
    cases hb
    exact hx
theorem lo_snoc {fs : List Sv} {x : Sv} {m : Nat} (h : ∀ v ∈ fs, m ≤ blk v) (hx : m ≤ blk x) : ∀ v ∈ fs ++ [x], m ≤ blk v := by
  intro v hv
  rcases List.mem_append.1 hv with hv | hv
  · exact h v hv
  · simp at hv; rw [hv]; exact hx
/-- Where layChunks stands. -/
structure Lg (w0 : World) (R : Nat) (vs fs : List Sv) (gs : List (List Wr)) (k : Nat) (v : Value) (T : Nat → Nat) (w : World) : Prop where
  rm : Rm T w R vs gs
  ow : OwnK kS 4 T w v fs
  fl : Fl T w fs gs k
  bl : Below w0.heap.size w0 w
  fr : ∀ b, b < w0.heap.size → T b = 0
  hi : ∀ b, w.heap.size ≤ b → T b = 0
  lo : ∀ v ∈ fs, w0.heap.size ≤ blk v
theorem bel_goes {u : Nat → Prop} {w W W' : World} {T T' : Nat → Nat} (hb : Below w.heap.size w W) (hf : ∀ b, b < w.heap.size → T b = 0) (hg : Goes u T W T' W') (h0 : ¬ u 0) : Below w.heap.size w W' ∧ ∀ b, b < w.heap.size → T' b = 0 :=
  ⟨hb.trans ⟨hg.os, hg.tape, hg.output, hg.size, fun b hl => hg.block b (Nat.lt_of_lt_of_le hl hb.size) (by rw [hf b hl]; exact h0)⟩, fun b hl => (hg.tag b (Nat.lt_of_lt_of_le hl hb.size) (by rw [hf b hl]; exact h0)).trans (hf b hl)⟩
theorem Lg.below {w0 w w' : World} {R : Nat} {vs fs : List Sv} {gs : List (List Wr)} {k : Nat} {v : Value} {T : Nat → Nat} (h : Lg w0 R vs fs gs k v T w) (hb : Below w.heap.size w w') : Lg w0 R vs fs gs k v T w' :=
  ⟨h.rm.below hb, h.ow.below hb, h.fl.goes (Goes.below (t := fun _ => False) hb) (fun z => z), h.bl.trans (hb.mono h.bl.size), h.fr, fun b hb' => h.hi b (Nat.le_trans hb.size hb'), h.lo⟩
/-- One list was laid and put behind. -/
theorem Lg.lay {w0 w w2 w3 : World} {R : Nat} {vs fs : List Sv} {gs : List (List Wr)} {v v3 : Value} {T T2 T3 : Nat → Nat} {b c n : Nat} {ws : List Wr} (h : Lg w0 R vs fs gs 0 v T w) (hbw : w.heap.size ≤ b) (hn : n = ws.length) (hr : Rm T2 w2 R (vs ++ [(some ⟨b, 0, none⟩, n + 4, c)]) (gs ++ [ws])) (g2 : Goes u3 T w T2 w2) (g3 : Goes (· = 4) T2 w2 T3 w3) (o3 : OwnK kS 4 T3 w3 v3 (fs ++ [(some ⟨b, 0, none⟩, n, n + 4)])) :
    Lg w0 R (vs ++ [(some ⟨b, 0, none⟩, n + 4, c)]) (fs ++ [(some ⟨b, 0, none⟩, n, n + 4)]) (gs ++ [ws]) 0 v3 T3 w3 := by
  have n0 : ¬ u3 0 := by unfold u3; omega
  have a1 := bel_goes h.bl h.fr g2 n0
  have a2 := bel_goes a1.1 a1.2 g3 (by omega)
  have hlv : vs.length = gs.length := h.rm.ln
  have hlast : Lw T2 w2 (some ⟨b, 0, none⟩, n + 4, c) ws := hr.ok vs.length _ _ (by rw [List.getElem?_concat_length]) (by rw [hlv, List.getElem?_concat_length])
  have hfs : Fs T2 w2 (some ⟨b, 0, none⟩, n, n + 4) ws := by
    obtain ⟨_, b', e, ht, hrow, hf⟩ := hlast
    exact ⟨hn, ⟨by simp, by simp⟩, b', e, ht, row_pre hrow, hf⟩
  have hln := h.fl.ln
  have hfl2 := h.fl.goes g2 n0
  refine ⟨hr.goes g3 (by omega) (by omega) (by omega) (by omega), o3, ⟨by simp at hln ⊢; exact hln, ?_, snoc_ds h.fl.ds (fun v hv => by have := h.fl.lt v hv; show blk v < b; omega)⟩, a2.1, a2.2, fun x hx => g3.high x hx (g2.high x (Nat.le_trans g3.size hx) (h.hi x (Nat.le_trans g2.size (Nat.le_trans g3.size hx)))), lo_snoc h.lo (show w0.heap.size ≤ b from Nat.le_trans h.bl.size hbw)⟩
  have e0 : ∀ l : List (List Wr), l ++ (List.range 0).map mk1 = l := fun l => by simp
  rw [e0]
  have hok : ∀ (i : Nat) v ws, fs[i]? = some v → gs[i]? = some ws → Fs T2 w2 v ws := by
    have := hfl2.ok
    rw [e0] at this
    exact this
  exact fun i y z hy hz => (snoc_at (P := fun y z => Fs T2 w2 y z) (by simpa using hln) hok hfs i y z hy hz).goes g3 (by omega)
/-- One mark was put behind. -/
theorem Lg.mark {w0 w w2 w3 : World} {R : Nat} {vs fs : List Sv} {gs : List (List Wr)} {k b : Nat} {v v3 : Value} {T T3 : Nat → Nat} (h : Lg w0 R vs fs gs k v T w) (hb : Below w.heap.size w w2) (hw : w.heap.size ≤ b) (hrow : KRow kY w2 b 0 (mk1 k)) (hfz : ∀ j, w2.frozen? ⟨b, j, none⟩ = false) (g3 : Goes (· = 4) T w2 T3 w3) (o3 : OwnK kS 4 T3 w3 v3 (fs ++ [(some ⟨b, 0, none⟩, 1, 1)])) :
    Lg w0 R vs (fs ++ [(some ⟨b, 0, none⟩, 1, 1)]) gs (k + 1) v3 T3 w3 := by
  have h2 := h.below hb
  have a2 := bel_goes h2.bl h2.fr g3 (by omega)
  have hln := h2.fl.ln
  have hfs : Fs T w2 (some ⟨b, 0, none⟩, 1, 1) (mk1 k) := ⟨rfl, ⟨by simp, by simp⟩, b, rfl, h.hi b hw, hrow, hfz⟩
  refine ⟨h2.rm.goes g3 (by omega) (by omega) (by omega) (by omega), o3, ⟨by simp at hln ⊢; omega, ?_, snoc_ds h.fl.ds (fun v hv => by have := h.fl.lt v hv; show blk v < b; omega)⟩, a2.1, a2.2, fun x hx => g3.high x hx (h2.hi x (Nat.le_trans g3.size hx)), lo_snoc h.lo (show w0.heap.size ≤ b from Nat.le_trans h.bl.size hw)⟩
  have e1 : gs ++ (List.range (k + 1)).map mk1 = (gs ++ (List.range k).map mk1) ++ [mk1 k] := by rw [List.range_succ, List.map_append, List.append_assoc]; rfl
  rw [e1]
  exact fun i y z hy hz => (snoc_at (P := fun y z => Fs T w2 y z) (by simp at hln ⊢; exact hln) h2.fl.ok hfs i y z hy hz).goes g3 (by omega)
end Rqc
end Go.Proofs.Ytanpbknjnpmmnaa
namespace Go.Proofs.Ytanpbknjnpmmnaa
namespace Rqc
open Go.RowKit Laws Irw Crw Byt
open Rom (mark_lt lotN lot_byte lot_any)
set_option linter.unusedVariables false
set_option linter.unusedSimpArgs false
set_option maxRecDepth 400000
def kG : Knd Sv := ⟨22, 1, 24, .slice none 0 0, fun x => [.slice x.1 x.2.1 x.2.2], fun _ => rfl, fun x u hu => by simp at hu; subst hu; rfl, by omega, rfl, by omega⟩
theorem infoG' : (Try.prog.info? 22).map (fun i => (i.zero, i.size, i.bytes)) = some (some kG.zero, 1, 24) := by kernel_rfl
theorem undGG : Try.prog.underlying 36 = some (.slice 22) := by kernel_rfl
theorem isG_one {w : World} {v : Sv} {u : TypeId} {g : Nat} (hg : w.heap.size = g) : IsK kG (w.alloc (.cells #[.slice v.1 v.2.1 v.2.2] u)) (some ⟨g, 0, none⟩) [v] := by
  subst hg
  refine IsK.of ⟨by simp, fun i z hz j x hx => ?_⟩
  cases i with
  | zero =>
    simp at hz; subst hz
    rw [World.cell?_alloc_at _ _ _ _ rfl]
    match j with
    | 0 => exact hx
    | j + 1 => exact absurd hx (by rw [show (kG.cs v)[j + 1]? = none from rfl]; simp)
  | succ i => simp at hz
/-- no tags at all -/
def T0 (_ : Nat) : Nat := 0
/-- The room when it has lent groups: what stays in every later world. -/
structure Ro (w : World) (R : Nat) (vs fs : List Sv) (gs : List (List Wr)) (f : Option Addr) (d : Nat) : Prop where
  lt : R < w.heap.size
  c0 : ∃ a c, w.cell? ⟨R, 0, none⟩ = some (.slice a gs.length c) ∧ IsK kS w a vs
  c1 : ∃ a c, w.cell? ⟨R, 1, none⟩ = some (.slice a gs.length c) ∧ IsI w a (gs.map fun g => (g.length : Int))
  c20 : ∃ a c, w.cell? ⟨R, 20, none⟩ = some (.slice a 1 c) ∧ IsK kG w a [(f, gs.length + 40, d)]
  c21 : ∃ a c, w.cell? ⟨R, 21, none⟩ = some (.slice a 1 c) ∧ IsI w a [(gs.length : Int)]
  nil : ∀ j, j < 28 → j ≠ 0 → j ≠ 1 → j ≠ 20 → j ≠ 21 → w.cell? ⟨R, j, none⟩ = some (.slice none 0 0)
  ln : vs.length = gs.length
  ok : ∀ (i : Nat) v g, vs[i]? = some v → gs[i]? = some g → Lw T0 w v g
  full : IsK kS w f fs
  fl : Fl T0 w fs gs 40
theorem Lw.zero {T : Nat → Nat} {w : World} {v : Sv} {ws : List Wr} (h : Lw T w v ws) : Lw T0 w v ws := by
  obtain ⟨h1, b, e, ht, hr, hf⟩ := h
  exact ⟨h1, b, e, rfl, hr, hf⟩
theorem Fs.zero {T : Nat → Nat} {w : World} {v : Sv} {ws : List Wr} (h : Fs T w v ws) : Fs T0 w v ws := by
  obtain ⟨h1, hc, b, e, ht, hr, hf⟩ := h
  exact ⟨h1, hc, b, e, rfl, hr, hf⟩
theorem Ro.below {w w' : World} {R : Nat} {vs fs : List Sv} {gs : List (List Wr)} {f : Option Addr} {d : Nat} (h : Ro w R vs fs gs f d) (hb : Below w.heap.size w w') : Ro w' R vs fs gs f d := by
  have g : Goes (fun _ => False) T0 w T0 w' := Goes.below hb
  have c : ∀ j, w'.cell? ⟨R, j, none⟩ = w.cell? ⟨R, j, none⟩ := fun j => g.cell h.lt (fun z => z)
  obtain ⟨a2, c2, k2, i2⟩ := h.c0
  obtain ⟨a3, c3, k3, i3⟩ := h.c1
  obtain ⟨a4, c4, k4, i4⟩ := h.c20
  obtain ⟨a5, c5, k5, i5⟩ := h.c21
  exact ⟨Nat.lt_of_lt_of_le h.lt hb.size, ⟨a2, c2, (c 0).trans k2, i2.below hb⟩, ⟨a3, c3, (c 1).trans k3, i3.below hb⟩, ⟨a4, c4, (c 20).trans k4, i4.below hb⟩, ⟨a5, c5, (c 21).trans k5, i5.below hb⟩, fun j q1 q2 q3 q4 q5 => (c j).trans (h.nil j q1 q2 q3 q4 q5), h.ln, fun i v z hv hz => (h.ok i v z hv hz).goes g (fun z => z), h.full.below hb, h.fl.goes g (fun z => z)⟩
theorem Lg.start {w0 w : World} {R : Nat} {T : Nat → Nat} {u : TypeId} (h : Rm T w R [] []) (hz : ∀ b, w.heap.size ≤ b → T b = 0) (h0 : ∀ b, b < w0.heap.size → T b = 0) (hb : Below w0.heap.size w0 w) :
    Lg w0 R [] [] [] 0 (.slice (some ⟨w.heap.size, 0, none⟩) 0 0) (Irw.upd T w.heap.size 4) (w.alloc (.cells #[] 24)) := by
  have hbe : Below w.heap.size w (w.alloc (.cells #[] 24)) := (Below.refl _ _).alloc (Nat.le_refl _) _
  have g : Goes (fun _ => False) T w (Irw.upd T w.heap.size 4) (w.alloc (.cells #[] 24)) := ⟨hbe.os, hbe.tape, hbe.output, hbe.size, fun b hl _ => hbe.block b hl, fun b hl _ => upd_other _ _ (by omega), fun b hl hh => by simp at hl; exact (upd_other _ _ (by omega)).trans hh⟩
  refine ⟨h.goes g (fun z => z) (fun z => z) (fun z => z) (fun z => z), ⟨World.ownsRow_lit w #[] 0 (Nat.zero_le _) (by simp [maxLen]) (by simp), fun x hx => by cases hx; exact upd_same _ _ _⟩, ⟨rfl, fun i v ws hv => by simp at hv, fun i j v u _ hv => by simp at hv⟩, hb.trans (hbe.mono hb.size), fun b hl => (upd_other _ _ (by have := hb.size; omega)).trans (h0 b hl), fun b hl => by simp at hl; exact (upd_other _ _ (by omega)).trans (hz b (by omega)), fun v hv => by simp at hv⟩
/-- Both lists of the room were written. -/
theorem Lg.done {w0 w w4 w5 : World} {R n : Nat} {vs fs : List Sv} {gs : List (List Wr)} {f a4 a5 : Option Addr} {d c4 c5 : Nat} {T T4 T5 : Nat → Nat} (h : Lg w0 R vs fs gs 40 (.slice f (n + 40) d) T w) (hn : n = gs.length)
    (g4 : Goes (· = 5) T w T4 w4) (o4 : OwnK kG 5 T4 w4 (.slice a4 1 c4) [(f, n + 40, d)]) (g5 : Goes (· = 6) T4 (w4.setCell ⟨R, 20, none⟩ (.slice a4 1 c4)) T5 w5) (o5 : OwnL 6 T5 w5 (.slice a5 1 c5) [(n : Int)]) :
    Ro (w5.setCell ⟨R, 21, none⟩ (.slice a5 1 c5)) R vs fs gs f d ∧ Below w0.heap.size w0 (w5.setCell ⟨R, 21, none⟩ (.slice a5 1 c5)) ∧ n + 40 ≤ d ∧ ∃ b, f = some ⟨b, 0, none⟩ := by
  subst hn
  have hr := h.rm
  have e2 : ¬ (T R = 5) := by rw [hr.tag]; omega
  have t2 : T4 R = 1 := (g4.tag R hr.lt e2).trans hr.tag
  have l2 : R < w4.heap.size := Nat.lt_of_lt_of_le hr.lt g4.size
  have s2 : Goes (· = 1) T4 w4 T4 (w4.setCell ⟨R, 20, none⟩ (.slice a4 1 c4)) := Goes.setCell t2
  have l2' : R < (w4.setCell ⟨R, 20, none⟩ (.slice a4 1 c4)).heap.size := by simpa using l2
  have e3 : ¬ (T4 R = 6) := by rw [t2]; omega
  have t3 : T5 R = 1 := (g5.tag R l2' e3).trans t2
  have l3 : R < w5.heap.size := Nat.lt_of_lt_of_le l2' g5.size
  have s3 : Goes (· = 1) T5 w5 T5 (w5.setCell ⟨R, 21, none⟩ (.slice a5 1 c5)) := Goes.setCell t3
  have G : Goes (fun x => x = 5 ∨ x = 1 ∨ x = 6) T w T5 (w5.setCell ⟨R, 21, none⟩ (.slice a5 1 c5)) := (g4.mono fun x hx => .inl hx).trans ((s2.mono fun x hx => .inr (.inl hx)).trans ((g5.mono fun x hx => .inr (.inr hx)).trans (s3.mono fun x hx => .inr (.inl hx))))
  have c20 : w5.cell? ⟨R, 20, none⟩ = some (.slice a4 1 c4) := (g5.cell l2' e3).trans (World.cell?_setCell_same _ _ _ ((g4.cell hr.lt e2).trans (hr.nil 20 (by omega) (by omega) (by omega))))
  have c21 : w5.cell? ⟨R, 21, none⟩ = some (.slice none 0 0) := (g5.cell l2' e3).trans ((World.cell?_setCell_other _ _ _ _ (by intro z; cases z)).trans ((g4.cell hr.lt e2).trans (hr.nil 21 (by omega) (by omega) (by omega))))
  have co : ∀ j, j ≠ 20 → j ≠ 21 → (w5.setCell ⟨R, 21, none⟩ (.slice a5 1 c5)).cell? ⟨R, j, none⟩ = w.cell? ⟨R, j, none⟩ := fun j q1 q2 => (World.cell?_setCell_other _ _ _ _ (by intro z; exact q2 (congrArg Addr.off z).symm)).trans ((g5.cell l2' e3).trans ((World.cell?_setCell_other _ _ _ _ (by intro z; exact q1 (congrArg Addr.off z).symm)).trans (g4.cell hr.lt e2)))
  obtain ⟨x2, k2, q2⟩ := hr.c0
  obtain ⟨x3, k3, q3⟩ := hr.c1
  obtain ⟨b2, d2, rfl, _⟩ := q2.form
  obtain ⟨b3, d3, rfl, _⟩ := q3.form
  obtain ⟨_, _, r2, i2, _⟩ := (q2.goes G (by omega)).form
  obtain ⟨_, _, r3, i3, _⟩ := (q3.goes G (by omega)).form
  obtain ⟨_, _, r4, i4, _⟩ := (((o4.goes s2 (by omega)).goes g5 (by omega)).goes s3 (by omega)).form
  obtain ⟨_, _, r5, i5, _⟩ := (o5.goes s3 (by omega)).form
  obtain ⟨_, _, r6, i6, le6, _⟩ := (h.ow.goes G (by omega)).form
  have hlf := h.fl.ln
  cases r2
  cases r3
  cases r4
  cases r5
  injection r6 with r61 r62 r63
  subst r61
  subst r63
  refine ⟨⟨by simpa using l3, ⟨_, _, (co 0 (by omega) (by omega)).trans (by rw [← hr.ln]; exact k2), i2⟩, ⟨_, _, (co 1 (by omega) (by omega)).trans (by rw [List.length_map] at k3; exact k3), i3⟩, ⟨_, _, (World.cell?_setCell_other _ _ _ _ (by intro z; cases z)).trans c20, i4⟩, ⟨_, _, World.cell?_setCell_same _ _ _ c21, i5⟩, fun j z1 z2 z3 z4 z5 => (co j z4 z5).trans (hr.nil j z1 z2 z3), hr.ln, fun i v z hv hz => ((hr.ok i v z hv hz).goes G (by omega)).zero, i6, ⟨hlf, fun i v z hv hz => ((h.fl.ok i v z hv hz).goes G (by omega)).zero, h.fl.ds⟩⟩, (bel_goes h.bl h.fr G (by omega)).1, by omega, ?_⟩
  rcases h.ow.1.2 with ⟨z1, z2⟩ | ⟨g, cap, cur, hv, _⟩
  · omega
  · injection hv with hv1
    exact ⟨g, hv1⟩
end Rqc
end Go.Proofs.Ytanpbknjnpmmnaa
