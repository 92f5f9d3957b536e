import Derived.Test.YtbloifnibgdeoaaRInv
namespace Go.Proofs.Ytbloifnibgdeoaa
namespace Dsk
open Go.RowKit Go.Shelf Go.Maps Go.Sort Byt Laws
set_option linter.unusedVariables false
set_option maxRecDepth 100000
set_option linter.unusedSimpArgs false

set_option maxHeartbeats 1000000 in
theorem rest_none {T : Nat → Nat} {w : World} {d : Nat} {fb : Nat → Nat} {m : Rm} {vf vn vs vc : Value} (h : Rd T w d fb m vf vn vs vc) (hch : m.ch = []) (dir : Int) :
    Calls Try.prog 56 #[.pointer (some ⟨d, 0, none⟩), .int .i64 dir] w fun e w' => ∃ v', e = .returned v' ∧ w'.ownsRow w.heap.size 98 2 v' m.su.length (enRow m.su) ∧ Below w.heap.size w w' := by
  obtain ⟨ac, cc, rfl⟩ := own_slice h.chg
  have hT := (rtwin_any 0 vs m.su.length m.su w h.sur (by have := h.mostS; omega))
  have t3 := (h.top.2 3 (by omega)).1
  have t4 := (h.top.2 4 (by omega)).1
  have hdl := h.top.1
  simp only [rcell] at t3 t4
  rw [hch] at t4
  simp only [List.length_nil] at t4
  have HT : Hid (Calls Try.prog 58 #[vs] w fun e w' => ∃ v', e = .returned v' ∧ w'.ownsRow w.heap.size 98 2 v' m.su.length (enRow m.su) ∧ Below w.heap.size w w') := hT
  obtain ⟨as1, cs1, rfl⟩ := own_slice h.sur
  clear hT h hch
  go_enter Try.func56, Try.ntmps56
  go_wp2_with (go_at_call 58; refine HT.out.mono ?_; rintro e w1 ⟨v1, rfl, h1, h2⟩; have H1 : Hid (w1.ownsRow w.heap.size 98 2 v1 m.su.length (enRow m.su) ∧ Below w.heap.size w w1) := ⟨h1, h2⟩; have t4' : w1.cell? ⟨d, 4, none⟩ = some (.slice ac 0 cc) := (h2.cell (p := ⟨d, 4, none⟩) hdl).trans t4; clear h1 h2)
  go_loopw [5, 6] (fun l i wr => l = v1 ∧ i = .int .i64 0 ∧ wr = w1) (fun _ i _ => (intOf i).toNat)
  case atStart => exact ⟨rfl, rfl, by first | rfl | trivial⟩
  case round =>
    obtain ⟨rfl, rfl, rfl⟩ := hrel
    go_wp2
    go_ret
    exact ⟨_, rfl, H1.out.1, H1.out.2⟩
end Dsk
end Go.Proofs.Ytbloifnibgdeoaa
