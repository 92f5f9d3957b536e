import Derived.Test.YtkofopaejkabhaaMm2
namespace Go.Proofs.Ytkofopaejkabhaa
namespace Mem
open Go.RowKit Laws Irw Erw KMath Skm Byt Sk
set_option linter.unusedVariables false
set_option maxRecDepth 100000
set_option linter.unusedSimpArgs false

def getE (k : ByteArray) : List Nd → Option En
  | [] => none
  | n :: _ => if n.e.1 = k then some n.e else none
def getV : Option En → Value
  | none => .tuple #[.agg #[.string ⟨#[]⟩, .int .u64 0, .bool false, .string ⟨#[]⟩], .bool false]
  | some e => .tuple #[.agg #[.string e.1, .int .u64 e.2.1, .bool e.2.2.1, .string e.2.2.2], .bool true]
set_option maxHeartbeats 1000000 in
theorem get_any {t : Nat} {T : Nat → Nat} {w : World} {M L : Nat} {ds : List Nat} {ns : List Nd} {fz : Bool} (h : Mt t T w M L ds ns fz) (k : ByteArray) (s : Int) :
    Calls Try.prog 25 #[.pointer (some ⟨M, 0, none⟩), .string k, .int .u64 s] w fun r w' => r = .returned (getV (getE k (ns.dropWhile (aheadB k s)))) ∧ Below w.heap.size w w' := by
  obtain ⟨pre, post, hwk⟩ := Wk.of h.sl k s
  have hpo := post_of hwk
  rw [← hpo]
  have hc0 := h.c0
  have hlt := h.lt
  have HS : Hid (∀ W, Below w.heap.size w W → Calls Try.prog 71 #[.pointer (some ⟨L, 0, none⟩), .string k, .int .u64 s] W fun e w' => e = .returned (seekV post) ∧ Below W.heap.size W w') := fun W hW => callsIn_wide.1 (seek_in L k s ns pre post W (hwk.under hW))
  clear h hwk hpo
  have HB1 : Hid (Below w.heap.size w (w.alloc (.cells #[.string ⟨#[]⟩, .int .u64 0, .bool false, .string ⟨#[]⟩] 77))) := (Below.refl _ _).alloc (Nat.le_refl _) _
  have g1 : (w.alloc (.cells #[.string ⟨#[]⟩, .int .u64 0, .bool false, .string ⟨#[]⟩] 77)).heap[w.heap.size]? = some (.cells #[.string ⟨#[]⟩, .int .u64 0, .bool false, .string ⟨#[]⟩] 77) := World.alloc_heap_new _ _
  have hc1 := (HB1.out.cell (p := ⟨M, 0, none⟩) hlt).trans hc0
  clear hc0
  go_enter Try.func25, Try.ntmps25
  generalize hW1 : w.alloc (.cells #[.string ⟨#[]⟩, .int .u64 0, .bool false, .string ⟨#[]⟩] 77) = W1 at *
  go_wp2_with fail
  try rw [hW1]
  refine (HS.out W1 HB1.out).mono ?_
  rintro r w2 ⟨rfl, hb2⟩
  have hE : w.heap.size < W1.heap.size := (Array.getElem?_eq_some_iff.1 g1).1
  have g2 := (hb2.block _ hE).trans g1
  have HB2 : Hid (Below w.heap.size w w2) := HB1.out.trans (hb2.mono HB1.out.size)
  have hs2 : w.heap.size < w2.heap.size := Nat.lt_of_lt_of_le hE hb2.size
  clear hW1 hb2 hc1 g1 HS HB1
  have HB3 : ∀ x, Hid (Below w2.heap.size w2 (w2.alloc (.cells #[.string (x : En).1, .int .u64 x.2.1, .bool x.2.2.1, .string x.2.2.2] 77))) := fun x => (Below.refl _ _).alloc (Nat.le_refl _) _
  have g3 : ∀ x, Hid ((w2.alloc (.cells #[.string (x : En).1, .int .u64 x.2.1, .bool x.2.2.1, .string x.2.2.2] 77)).heap[w2.heap.size]? = some (.cells #[.string x.1, .int .u64 x.2.1, .bool x.2.2.1, .string x.2.2.2] 77)) := fun x => World.alloc_heap_new _ _
  cases post with
  | nil =>
    have k1 := (HB3 (⟨#[]⟩, 0, false, ⟨#[]⟩)).out
    clear HB3 g3
    unfold seekV
    dsimp only at *
    have f0 : w2.cell? ⟨w.heap.size, 0, none⟩ = some (.string ⟨#[]⟩) := by rw [cell_of_obj g2]; rfl
    have f1 : w2.cell? ⟨w.heap.size, 1, none⟩ = some (.int .u64 0) := by rw [cell_of_obj g2]; rfl
    have f2 : w2.cell? ⟨w.heap.size, 2, none⟩ = some (.bool false) := by rw [cell_of_obj g2]; rfl
    have f3 : w2.cell? ⟨w.heap.size, 3, none⟩ = some (.string ⟨#[]⟩) := by rw [cell_of_obj g2]; rfl
    have fz1 : ∀ j, w2.frozen? ⟨w.heap.size, j, none⟩ = false := fun j => froz_of_obj g2
    have K1 : Hid _ := k1
    clear k1 g2
    go_wp2
    clear K1
    obtain ⟨q0, q1, q2, q3⟩ := set4_cells (v0 := .string ⟨#[]⟩) (v1 := .int .u64 0) (v2 := .bool false) (v3 := .string ⟨#[]⟩) ⟨f0, f1, f2, f3⟩
    have hb5 : Below w.heap.size w ((((w2.setCell ⟨w.heap.size, 0, none⟩ (.string ⟨#[]⟩)).setCell ⟨w.heap.size, 1, none⟩ (.int .u64 0)).setCell ⟨w.heap.size, 2, none⟩ (.bool false)).setCell ⟨w.heap.size, 3, none⟩ (.string ⟨#[]⟩)) := (((HB2.out.setCell (p := ⟨w.heap.size, 0, none⟩) (Nat.le_refl _) _).setCell (p := ⟨w.heap.size, 1, none⟩) (Nat.le_refl _) _).setCell (p := ⟨w.heap.size, 2, none⟩) (Nat.le_refl _) _).setCell (p := ⟨w.heap.size, 3, none⟩) (Nat.le_refl _) _
    have hsz : w.heap.size < ((((w2.setCell ⟨w.heap.size, 0, none⟩ (.string ⟨#[]⟩)).setCell ⟨w.heap.size, 1, none⟩ (.int .u64 0)).setCell ⟨w.heap.size, 2, none⟩ (.bool false)).setCell ⟨w.heap.size, 3, none⟩ (.string ⟨#[]⟩)).heap.size := by simpa using hs2
    generalize (((w2.setCell ⟨w.heap.size, 0, none⟩ (.string ⟨#[]⟩)).setCell ⟨w.heap.size, 1, none⟩ (.int .u64 0)).setCell ⟨w.heap.size, 2, none⟩ (.bool false)).setCell ⟨w.heap.size, 3, none⟩ (.string ⟨#[]⟩) = W4 at *
    have hb6 : Below W4.heap.size W4 (W4.alloc (.cells #[.string ⟨#[]⟩, .int .u64 0, .bool false, .string ⟨#[]⟩] 77)) := (Below.refl _ _).alloc (Nat.le_refl _) _
    have hb7 := hb5.trans (hb6.mono hb5.size)
    rw [← hb6.cell (p := ⟨w.heap.size, 0, none⟩) hsz] at q0
    rw [← hb6.cell (p := ⟨w.heap.size, 1, none⟩) hsz] at q1
    rw [← hb6.cell (p := ⟨w.heap.size, 2, none⟩) hsz] at q2
    rw [← hb6.cell (p := ⟨w.heap.size, 3, none⟩) hsz] at q3
    generalize W4.alloc (.cells #[.string ⟨#[]⟩, .int .u64 0, .bool false, .string ⟨#[]⟩] 77) = W6 at *
    refine bodyPost_ret (v := getV none) ?_ rfl ⟨rfl, hb7⟩
    simp [results, Try.results25, go_sem, getV, q0, q1, q2, q3]
  | cons n r =>
    obtain ⟨nb, ⟨ek, es, ed, ev⟩, nh⟩ := n
    have k1 := (HB3 (ek, es, ed, ev)).out
    have k2 := (g3 (ek, es, ed, ev)).out
    clear HB3 g3
    unfold seekV
    dsimp only at *
    generalize hW3 : w2.alloc (.cells #[.string ek, .int .u64 es, .bool ed, .string ev] 77) = W3 at *
    have o1 := (k1.block _ hs2).trans g2
    have f0 : W3.cell? ⟨w.heap.size, 0, none⟩ = some (.string ⟨#[]⟩) := by rw [cell_of_obj o1]; rfl
    have f1 : W3.cell? ⟨w.heap.size, 1, none⟩ = some (.int .u64 0) := by rw [cell_of_obj o1]; rfl
    have f2 : W3.cell? ⟨w.heap.size, 2, none⟩ = some (.bool false) := by rw [cell_of_obj o1]; rfl
    have f3 : W3.cell? ⟨w.heap.size, 3, none⟩ = some (.string ⟨#[]⟩) := by rw [cell_of_obj o1]; rfl
    have fz1 : ∀ j, W3.frozen? ⟨w.heap.size, j, none⟩ = false := fun j => froz_of_obj o1
    have d0 : W3.cell? ⟨w2.heap.size, 0, none⟩ = some (.string ek) := by rw [cell_of_obj k2]; rfl
    have d1 : W3.cell? ⟨w2.heap.size, 1, none⟩ = some (.int .u64 es) := by rw [cell_of_obj k2]; rfl
    have d2 : W3.cell? ⟨w2.heap.size, 2, none⟩ = some (.bool ed) := by rw [cell_of_obj k2]; rfl
    have d3 : W3.cell? ⟨w2.heap.size, 3, none⟩ = some (.string ev) := by rw [cell_of_obj k2]; rfl
    have HB4 : Hid (Below w.heap.size w W3) := HB2.out.trans (k1.mono HB2.out.size)
    clear k1 k2 o1 g2
    by_cases hk : ek = k
    · subst hk
      have HG : Hid (getE ek (⟨nb, (ek, es, ed, ev), nh⟩ :: r) = some (ek, es, ed, ev)) := by show (if ek = ek then _ else _) = _; rw [if_pos rfl]
      have h2' : (ek.toList == ek.toList) = true := by simp
      go_wp2
      try rw [hW3]
      obtain ⟨q0, q1, q2, q3⟩ := set4_cells (v0 := .string ek) (v1 := .int .u64 es) (v2 := .bool ed) (v3 := .string ev) ⟨f0, f1, f2, f3⟩
      have hb5 : Below w.heap.size w ((((W3.setCell ⟨w.heap.size, 0, none⟩ (.string ek)).setCell ⟨w.heap.size, 1, none⟩ (.int .u64 es)).setCell ⟨w.heap.size, 2, none⟩ (.bool ed)).setCell ⟨w.heap.size, 3, none⟩ (.string ev)) := (((HB4.out.setCell (p := ⟨w.heap.size, 0, none⟩) (Nat.le_refl _) _).setCell (p := ⟨w.heap.size, 1, none⟩) (Nat.le_refl _) _).setCell (p := ⟨w.heap.size, 2, none⟩) (Nat.le_refl _) _).setCell (p := ⟨w.heap.size, 3, none⟩) (Nat.le_refl _) _
      generalize (((W3.setCell ⟨w.heap.size, 0, none⟩ (.string ek)).setCell ⟨w.heap.size, 1, none⟩ (.int .u64 es)).setCell ⟨w.heap.size, 2, none⟩ (.bool ed)).setCell ⟨w.heap.size, 3, none⟩ (.string ev) = W4 at *
      refine bodyPost_ret (v := getV (some (ek, es, ed, ev))) ?_ rfl ⟨by rw [HG.out], hb5⟩
      simp [results, Try.results25, go_sem, getV, q0, q1, q2, q3]
    · have HG : Hid (getE k (⟨nb, (ek, es, ed, ev), nh⟩ :: r) = none) := by show (if ek = k then _ else _) = _; rw [if_neg hk]
      have hs2' : (ek.toList == k.toList) = false := by
        rw [beq_eq_false_iff_ne]
        exact fun e => hk (toList_inj e)
      clear hk
      go_wp2
      try rw [hW3]
      obtain ⟨q0, q1, q2, q3⟩ := set4_cells (v0 := .string ⟨#[]⟩) (v1 := .int .u64 0) (v2 := .bool false) (v3 := .string ⟨#[]⟩) ⟨f0, f1, f2, f3⟩
      have hb5 : Below w.heap.size w ((((W3.setCell ⟨w.heap.size, 0, none⟩ (.string ⟨#[]⟩)).setCell ⟨w.heap.size, 1, none⟩ (.int .u64 0)).setCell ⟨w.heap.size, 2, none⟩ (.bool false)).setCell ⟨w.heap.size, 3, none⟩ (.string ⟨#[]⟩)) := (((HB4.out.setCell (p := ⟨w.heap.size, 0, none⟩) (Nat.le_refl _) _).setCell (p := ⟨w.heap.size, 1, none⟩) (Nat.le_refl _) _).setCell (p := ⟨w.heap.size, 2, none⟩) (Nat.le_refl _) _).setCell (p := ⟨w.heap.size, 3, none⟩) (Nat.le_refl _) _
      generalize (((W3.setCell ⟨w.heap.size, 0, none⟩ (.string ⟨#[]⟩)).setCell ⟨w.heap.size, 1, none⟩ (.int .u64 0)).setCell ⟨w.heap.size, 2, none⟩ (.bool false)).setCell ⟨w.heap.size, 3, none⟩ (.string ⟨#[]⟩) = W4 at *
      refine bodyPost_ret (v := getV none) ?_ rfl ⟨by rw [HG.out], hb5⟩
      simp [results, Try.results25, go_sem, getV, q0, q1, q2, q3]
end Mem
end Go.Proofs.Ytkofopaejkabhaa
