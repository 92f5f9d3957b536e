import Derived.Test.YtkjddbplaicmjaaChk7
import Derived.Test.YtkjddbplaicmjaaGr1
import Derived.Test.YtkjddbplaicmjaaIRw
namespace Go.Proofs.Ytkjddbplaicmjaa
namespace Rq
open Go.RowKit Laws Irw Crw Grp
set_option linter.unusedVariables false
set_option linter.unusedSimpArgs false
set_option maxRecDepth 100000
abbrev Wr := ByteArray × Bool × ByteArray
def kW : Knd Wr := ⟨65, 3, 40, .agg #[.string ⟨#[]⟩, .bool false, .string ⟨#[]⟩], fun x => [.string x.1, .bool x.2.1, .string x.2.2], fun _ => rfl, fun x u hu => by simp at hu; rcases hu with rfl | rfl | rfl <;> rfl, by omega, rfl, by omega⟩
theorem infoW' : (Try.prog.info? 65).map (fun i => (i.zero, i.size, i.bytes)) = some (some kW.zero, 3, 40) := by kernel_rfl
theorem undW' : Try.prog.underlying 63 = some (.slice 65) := by kernel_rfl
theorem hid {p : Prop} (h : p) : Hid p := h
/-- The marks behind a list of writes. -/
def wordB (i : Nat) : ByteArray := if i % 2 = 0 then ⟨#[60, 111, 110, 101, 62]⟩ else ⟨#[60, 116, 119, 111, 62]⟩
def marks (k : Nat) : List Wr := (List.range k).map fun i => (wordB i, false, ⟨#[]⟩)
theorem marks_succ (k : Nat) : marks (k + 1) = marks k ++ [(wordB k, false, ⟨#[]⟩)] := by simp [marks, List.range_succ]
theorem marks_length (k : Nat) : (marks k).length = k := by simp [marks]
theorem marks_get {k i : Nat} (h : i < k) : (marks k)[i]? = some (wordB i, false, ⟨#[]⟩) := by simp [marks, h]
set_option maxHeartbeats 400000 in
theorem word_any (x : Int) (i : Nat) (w : World) (hx : x = i) (hi : i ≤ 1000000) :
    Calls Try.prog 48 #[.int .i64 x] w fun e w' => e = .returned (.string (wordB i)) ∧ w' = w := by
  subst hx
  unfold wordB
  by_cases h : i % 2 = 0
  · have g : ((i : Int) % 2 == 0) = true := by simp; omega
    rw [if_pos h]
    go_enter Try.func48, Try.ntmps48
    go_wp2
    go_ret
    exact ⟨rfl, rfl⟩
  · have g : ((i : Int) % 2 == 0) = false := by simp; omega
    rw [if_neg h]
    go_enter Try.func48, Try.ntmps48
    go_wp2
    go_ret
    exact ⟨rfl, rfl⟩
theorem isK_wr {w : World} {a : Option Addr} {ws : List Wr} (h : Chk.IsWr w a ws) : IsK kW w a ws := fun hne => by
  obtain ⟨b, off, e, hr⟩ := h.1 hne
  refine ⟨b, off, e, hr.1, fun i x hx j u hu => ?_⟩
  obtain ⟨h0, h1, h2⟩ := hr.2 i x hx
  match j with
  | 0 => cases hu; exact h0
  | 1 => cases hu; exact h1
  | 2 => cases hu; exact h2
  | j + 3 => exact absurd hu (by rw [show (kW.cs x)[j + 3]? = none from rfl]; simp)
theorem wr_of {w : World} {b off : Nat} {ws : List Wr} (h : KRow kW w b off ws) : Chk.WrRow w b off ws :=
  ⟨h.1, fun i x hx => ⟨h.2 i x hx 0 _ rfl, h.2 i x hx 1 _ rfl, h.2 i x hx 2 _ rfl⟩⟩
theorem isK_one {w : World} {s : ByteArray} {u : TypeId} {g : Nat} (hg : w.heap.size = g) : IsK kW (w.alloc (.cells #[.string s, .bool false, .string ⟨#[]⟩] u)) (some ⟨g, 0, none⟩) [(s, false, ⟨#[]⟩)] := by
  subst hg
  refine IsK.of ⟨by simp, fun i z hz j v hv => ?_⟩
  cases i with
  | zero =>
    simp at hz; subst hz
    rw [World.cell?_alloc_at _ _ _ _ rfl]
    match j with
    | 0 => exact hv
    | 1 => exact hv
    | 2 => exact hv
    | j + 3 => exact absurd hv (by rw [show (kW.cs (s, false, ⟨#[]⟩))[j + 3]? = none from rfl]; simp)
  | succ i => simp at hz
theorem isS_one {w : World} {v : Sv} {u : TypeId} {g : Nat} (hg : w.heap.size = g) : IsK kS (w.alloc (.cells #[.slice v.1 v.2.1 v.2.2] u)) (some ⟨g, 0, none⟩) [v] := by
  subst hg
  refine IsK.of ⟨by simp, fun i z hz j x hx => ?_⟩
  cases i with
  | zero =>
    simp at hz; subst hz
    rw [World.cell?_alloc_at _ _ _ _ rfl]
    match j with
    | 0 => exact hx
    | j + 1 => exact absurd hx (by rw [show (kS.cs v)[j + 1]? = none from rfl]; simp)
  | succ i => simp at hz
theorem isI_one {w : World} {x : Int} {u : TypeId} {g : Nat} (hg : w.heap.size = g) : IsI (w.alloc (.cells #[.int .i64 x] u)) (some ⟨g, 0, none⟩) [x] := by
  subst hg
  refine IsI.of ⟨by simp, fun i z hz => ?_⟩
  rw [World.cell?_alloc_at _ _ _ _ rfl]
  cases i with
  | zero => simp at hz; subst hz; rfl
  | succ i => simp at hz
theorem infoI : (Try.prog.info? 3).map (fun i => (i.zero, i.size, i.bytes)) = some (some (.int .i64 0), 1, 8) := by kernel_rfl
/-- A list that was laid: a block of tag 0, marks behind. -/
def Lw (T : Nat → Nat) (w : World) (v : Sv) (ws : List Wr) : Prop := v.2.1 = ws.length + 4 ∧ ∃ b, v.1 = some ⟨b, 0, none⟩ ∧ T b = 0 ∧ KRow kW w b 0 (ws ++ marks 4)
theorem Lw.goes {u : Nat → Prop} {T T' : Nat → Nat} {w w' : World} {v : Sv} {ws : List Wr} (h : Lw T w v ws) (hg : Goes u T w T' w') (h0 : ¬ u 0) : Lw T' w' v ws := by
  obtain ⟨h1, b, e, ht, hr⟩ := h
  exact ⟨h1, b, e, (hg.tag b hr.1 (by rw [ht]; exact h0)).trans ht, hr.keep (hg.block b hr.1 (by rw [ht]; exact h0)) hg.size⟩
/-- A room that has lent lists of writes alone: tags 1 (itself), 2, 3 (its two lists). -/
structure Rm (T : Nat → Nat) (w : World) (R : Nat) (vs : List Sv) (gs : List (List Wr)) : Prop where
  lt : R < w.heap.size
  tag : T R = 1
  c12 : ∃ v, w.cell? ⟨R, 12, none⟩ = some v ∧ OwnK kS 2 T w v vs
  c13 : ∃ v, w.cell? ⟨R, 13, none⟩ = some v ∧ OwnL 3 T w v (gs.map fun g => (g.length : Int))
  nil : ∀ j, j < 28 → j ≠ 12 → j ≠ 13 → w.cell? ⟨R, j, none⟩ = some (.slice none 0 0)
  fz : ∀ j, w.frozen? ⟨R, j, none⟩ = false
  ln : vs.length = gs.length
  ok : ∀ (i : Nat) v g, vs[i]? = some v → gs[i]? = some g → Lw T w v g
def u3 (x : Nat) : Prop := x = 1 ∨ x = 2 ∨ x = 3
theorem Rm.goes {u : Nat → Prop} {T T' : Nat → Nat} {w w' : World} {R : Nat} {vs : List Sv} {gs : List (List Wr)} (h : Rm T w R vs gs) (hg : Goes u T w T' w') (h0 : ¬ u 0) (h1 : ¬ u 1) (h2 : ¬ u 2) (h3 : ¬ u 3) : Rm T' w' R vs gs := by
  have e : ¬ u (T R) := by rw [h.tag]; exact h1
  obtain ⟨v2, k2, o2⟩ := h.c12
  obtain ⟨v3, k3, o3⟩ := h.c13
  exact ⟨Nat.lt_of_lt_of_le h.lt hg.size, (hg.tag R h.lt e).trans h.tag, ⟨v2, (hg.cell h.lt e).trans k2, o2.goes hg h2⟩, ⟨v3, (hg.cell h.lt e).trans k3, o3.goes hg h3⟩, fun j q1 q2 q3 => (hg.cell h.lt e).trans (h.nil j q1 q2 q3), fun j => (World.frozen?_of_block (a := ⟨R, j, none⟩) (hg.block R h.lt e)).trans (h.fz j), h.ln, fun i v g hv hw => (h.ok i v g hv hw).goes hg h0⟩
theorem Rm.below {T : Nat → Nat} {w w' : World} {R : Nat} {vs : List Sv} {gs : List (List Wr)} (h : Rm T w R vs gs) (hb : Below w.heap.size w w') : Rm T w' R vs gs := h.goes (Goes.below (t := fun _ => False) hb) (fun z => z) (fun z => z) (fun z => z) (fun z => z)
/-- One list more was laid. -/
theorem Rm.more {T T2 T3 : Nat → Nat} {w w2 w3 : World} {R : Nat} {vs : List Sv} {gs : List (List Wr)} {v : Sv} {ws : List Wr} {x2 x3 : Value} (h : Rm T w R vs gs) (hv : Lw T w v ws)
    (g2 : Goes (· = 2) T w T2 w2) (o2 : OwnK kS 2 T2 w2 x2 (vs ++ [v])) (g3 : Goes (· = 3) T2 (w2.setCell ⟨R, 12, none⟩ x2) T3 w3) (o3 : OwnL 3 T3 w3 x3 ((gs.map fun g => (g.length : Int)) ++ [(ws.length : Int)])) :
    Rm T3 (w3.setCell ⟨R, 13, none⟩ x3) R (vs ++ [v]) (gs ++ [ws]) ∧ Goes u3 T w T3 (w3.setCell ⟨R, 13, none⟩ x3) := by
  have e2 : ¬ (T R = 2) := by rw [h.tag]; omega
  have t2 : T2 R = 1 := (g2.tag R h.lt e2).trans h.tag
  have l2 : R < w2.heap.size := Nat.lt_of_lt_of_le h.lt g2.size
  have s2 : Goes (· = 1) T2 w2 T2 (w2.setCell ⟨R, 12, none⟩ x2) := Goes.setCell t2
  have l2' : R < (w2.setCell ⟨R, 12, none⟩ x2).heap.size := by simpa using l2
  have e3 : ¬ (T2 R = 3) := by rw [t2]; omega
  have t3 : T3 R = 1 := (g3.tag R l2' e3).trans t2
  have l3 : R < w3.heap.size := Nat.lt_of_lt_of_le l2' g3.size
  have s3 : Goes (· = 1) T3 w3 T3 (w3.setCell ⟨R, 13, none⟩ x3) := Goes.setCell t3
  have G : Goes u3 T w T3 (w3.setCell ⟨R, 13, none⟩ x3) := (g2.mono fun x hx => .inr (.inl hx)).trans ((s2.mono fun x hx => .inl hx).trans ((g3.mono fun x hx => .inr (.inr hx)).trans (s3.mono fun x hx => .inl hx)))
  obtain ⟨v2, k2, _⟩ := h.c12
  obtain ⟨v3, k3, _⟩ := h.c13
  have c12 : w3.cell? ⟨R, 12, none⟩ = some x2 := (g3.cell l2' e3).trans (World.cell?_setCell_same _ _ _ ((g2.cell h.lt e2).trans k2))
  have c13 : w3.cell? ⟨R, 13, none⟩ = some v3 := (g3.cell l2' e3).trans ((World.cell?_setCell_other _ _ _ _ (by intro z; cases z)).trans ((g2.cell h.lt e2).trans k3))
  have co : ∀ j, j ≠ 12 → j ≠ 13 → (w3.setCell ⟨R, 13, none⟩ x3).cell? ⟨R, j, none⟩ = w.cell? ⟨R, j, none⟩ := fun j q1 q2 => (World.cell?_setCell_other _ _ _ _ (by intro z; exact q2 (congrArg Addr.off z).symm)).trans ((g3.cell l2' e3).trans ((World.cell?_setCell_other _ _ _ _ (by intro z; exact q1 (congrArg Addr.off z).symm)).trans (g2.cell h.lt e2)))
  have n0 : ¬ u3 0 := by unfold u3; omega
  refine ⟨⟨by simpa using l3, t3, ⟨x2, (World.cell?_setCell_other _ _ _ _ (by intro z; cases z)).trans c12, ((o2.goes s2 (by omega)).goes g3 (by omega)).goes s3 (by omega)⟩, ⟨x3, World.cell?_setCell_same _ _ _ c13, by rw [List.map_append]; exact o3.goes s3 (by omega)⟩, fun j q1 q2 q3 => (co j q2 q3).trans (h.nil j q1 q2 q3), fun j => ?_, by simp [h.ln], fun i y g hy hg => ?_⟩, G⟩
  · rw [World.frozen?_setCell]
    refine (World.frozen?_of_block (a := ⟨R, j, none⟩) (g3.block R l2' e3)).trans ?_
    rw [World.frozen?_setCell]
    exact (World.frozen?_of_block (a := ⟨R, j, none⟩) (g2.block R h.lt e2)).trans (h.fz j)
  · by_cases hi : i < vs.length
    · rw [List.getElem?_append_left hi] at hy
      rw [List.getElem?_append_left (by rw [← h.ln]; exact hi)] at hg
      exact (h.ok i y g hy hg).goes G n0
    · have hi2 : i = vs.length := by
        have := (List.getElem?_eq_some_iff.1 hy).1
        simp at this
        omega
      subst hi2
      rw [List.getElem?_concat_length] at hy
      rw [h.ln, List.getElem?_concat_length] at hg
      cases hy
      cases hg
      exact hv.goes G n0
/-- A list of writes of one's own, made since w. -/
def Nw (w wr : World) (v : Value) (l : List Wr) : Prop := ∃ T, OwnK kW 1 T wr v l ∧ (∀ b, b < w.heap.size → T b = 0) ∧ Below w.heap.size w wr
theorem Nw.first (w : World) : OwnK kW 1 (Irw.upd (fun _ => 0) w.heap.size 1) (w.alloc (.cells #[] 65)) (.slice (some ⟨w.heap.size, 0, none⟩) 0 0) [] :=
  ⟨World.ownsRow_lit w #[] 0 (Nat.zero_le _) (by simp [maxLen]) (by simp), fun g hg => by cases hg; exact upd_same _ _ _⟩
theorem Nw.of {w W wr : World} {T T' : Nat → Nat} {v : Value} {l : List Wr} (hb : Below w.heap.size w W) (hT : ∀ b, b < w.heap.size → T b = 0) (hg : Goes (· = 1) T W T' wr) (ho : OwnK kW 1 T' wr v l) : Nw w wr v l :=
  ⟨T', ho, fun b h => (hg.tag b (Nat.lt_of_lt_of_le h hb.size) (by rw [hT b h]; omega)).trans (hT b h), hb.trans ⟨hg.os, hg.tape, hg.output, hg.size, fun b h => hg.block b (Nat.lt_of_lt_of_le h hb.size) (by rw [hT b h]; omega)⟩⟩
/-- What was made lies in a block of tag 0. -/
theorem Nw.lw {w wr : World} {a : Option Addr} {n c : Nat} {ws : List Wr} {T : Nat → Nat} (h : Nw w wr (.slice a n c) (ws ++ marks 4)) (hz : ∀ b, w.heap.size ≤ b → T b = 0) : Lw T wr (a, n, c) ws ∧ n = ws.length + 4 ∧ n ≤ c ∧ ∃ b, a = some ⟨b, 0, none⟩ ∧ w.heap.size ≤ b := by
  obtain ⟨T', ho, h0, hb⟩ := h
  have hlen : (ws ++ marks 4).length = ws.length + 4 := by simp [marks_length]
  rcases ho.1.2 with ⟨h1, h2⟩ | ⟨g, cap, cur, hv, _⟩
  · rw [hlen] at h2; omega
  · have hf := ho.form
    obtain ⟨a', c', e, hi, hle, _⟩ := hf
    cases hv
    cases e
    have ht := ho.2 g rfl
    have hge : w.heap.size ≤ g := by
      rcases Nat.lt_or_ge g w.heap.size with hl | hl
      · have := h0 g hl; omega
      · exact hl
    obtain ⟨b, off, e, hr⟩ := hi (by intro z; rw [z] at hlen; simp at hlen)
    cases e
    exact ⟨⟨hlen, g, rfl, hz g hge, hr⟩, hlen, hle, g, rfl, hge⟩
end Rq
end Go.Proofs.Ytkjddbplaicmjaa
