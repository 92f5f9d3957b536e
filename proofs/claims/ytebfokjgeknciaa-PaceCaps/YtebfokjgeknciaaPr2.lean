import Derived.Test.YtebfokjgeknciaaPcH
import Derived.Test.YtebfokjgeknciaaPr1
namespace Go.Proofs.Ytebfokjgeknciaa
namespace Pcm
open Go.RowKit Laws Irw
set_option linter.unusedVariables false
set_option linter.unusedSimpArgs false
set_option maxRecDepth 20000

set_option maxHeartbeats 2000000 in
theorem rmem_any (c : Cf) (hc : RC c) (w : World) :
    Calls Try.prog 46 #[.agg (cfgA c)] w fun e w' => e = .returned (.int .i64 (rmem c)) ∧ Below w.heap.size w w' := by
  have hL0 := lc_new w c 23
  have k3 := hL0.cell 3 (v := .int .i64 (c 3)) rfl
  have k21 := hL0.cell 21 (v := .int .i64 (c 21)) rfl
  have HB0 : Hid (Below w.heap.size w (w.alloc (.cells (cfgA c) 23))) := (Below.refl _ _).alloc (Nat.le_refl _) _
  clear hc
  go_enter Try.func46, Try.ntmps46
  go_wp2
  go_ret
  exact ⟨rfl, HB0.out⟩
theorem flds_ne {c : Cf} {X Y : Int} {i : Nat} (h : i ≠ 23) : (flds c X)[i]? = (flds c Y)[i]? := by
  unfold flds
  have hl : (flds1 c).length = 23 := rfl
  by_cases hi : i < 23
  · rw [List.getElem?_append_left (by omega), List.getElem?_append_left (by omega)]
  · rw [List.getElem?_append_right (by omega), List.getElem?_append_right (by omega), hl]
    obtain ⟨m, hm⟩ : ∃ m, i - 23 = m + 1 := ⟨i - 24, by omega⟩
    rw [hm]
    rfl
theorem flds_23 (c : Cf) (X : Int) : (flds c X)[23]? = some (c 23, X, 1073741824) := rfl
/-- the bound of DebtStop is written -/
theorem FRow.set {w : World} {b : Nat} {c : Cf} {X Y : Int} (h : FRow w b (flds c X)) : FRow (w.setCell ⟨b, 70, none⟩ (.int .i64 Y)) b (flds c Y) := by
  have ho : ∀ k, k ≠ 70 → (w.setCell ⟨b, 70, none⟩ (.int .i64 Y)).cell? ⟨b, k, none⟩ = w.cell? ⟨b, k, none⟩ := fun k hk => World.cell?_setCell_other w ⟨b, 70, none⟩ ⟨b, k, none⟩ _ (fun e => hk ((congrArg Addr.off e).symm))
  refine ⟨by have := h.1; simpa using this, fun i t ht => ?_⟩
  by_cases hi : i = 23
  · subst hi
    rw [flds_23] at ht
    cases ht
    obtain ⟨c0, c1, c2⟩ := h.2 23 _ (flds_23 c X)
    exact ⟨(ho _ (by omega)).trans c0, World.cell?_setCell_same _ _ _ c1, (ho _ (by omega)).trans c2⟩
  · rw [flds_ne (Y := X) hi] at ht
    obtain ⟨c0, c1, c2⟩ := h.2 i t ht
    rw [ho _ (by omega), ho _ (by omega), ho _ (by omega)]
    exact ⟨c0, c1, c2⟩
theorem Lc.setO {w : World} {B b k : Nat} {c : Cf} {v : Value} (h : Lc w B c) (hne : B ≠ b) : Lc (w.setCell ⟨b, k, none⟩ v) B c := fun j u hu => by
  rw [World.cell?_setCell_other _ ⟨b, k, none⟩ ⟨B, 0 + j, none⟩ _ (fun e => hne (congrArg Addr.block e).symm)]
  exact h j u hu
/-- where the document's Check stands: its list of fields, the configuration -/
structure Rk (w V : World) (b : Nat) (c : Cf) (X : Int) : Prop where
  bel : Below w.heap.size w V
  cfg : Lc V w.heap.size c
  row : FRow V b (flds c X)
  hi : w.heap.size < b
  fz : V.frozen? ⟨b, 70, none⟩ = false
theorem Rk.below {w V V' : World} {b : Nat} {c : Cf} {X : Int} (h : Rk w V b c X) (hb : Below V.heap.size V V') : Rk w V' b c X :=
  ⟨h.bel.trans (hb.mono h.bel.size), h.cfg.keep (Nat.lt_trans h.hi h.row.1) hb, h.row.below hb, h.hi, (hb.frozen (p := ⟨b, 70, none⟩) h.row.1).trans h.fz⟩
theorem Rk.set {w V : World} {b : Nat} {c : Cf} {X Y : Int} (h : Rk w V b c X) : Rk w (V.setCell ⟨b, 70, none⟩ (.int .i64 Y)) b c Y :=
  ⟨h.bel.setCell (p := ⟨b, 70, none⟩) (Nat.le_of_lt h.hi) _, h.cfg.setO (by have := h.hi; omega), h.row.set, h.hi, by rw [World.frozen?_setCell]; exact h.fz⟩
def XAt (c : Cf) (k : Nat) : Int := if k ≤ 23 then 0 else rX c
end Pcm
end Go.Proofs.Ytebfokjgeknciaa
