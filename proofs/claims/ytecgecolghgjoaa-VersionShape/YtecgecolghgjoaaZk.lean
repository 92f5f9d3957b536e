import Derived.Test.YtecgecolghgjoaaZj
namespace Go.Proofs.Ytecgecolghgjoaa
namespace Vr
open Go.Shelf Go.RowKit Go.Lib Go.Sort Go.Maps Go.ChangeMaps Go.MapKept Laws Irw Crw
set_option linter.unusedVariables false
set_option linter.unusedSimpArgs false
set_option maxRecDepth 20000
theorem zeroPn (w : World) : (zeroValue 79).run Try.prog w = .ok (.agg #[.pointer none, .int .i64 0]) w := by kernel_rfl
/-- clear of one pin -/
theorem run_clearPn (w : World) (b o c : Nat) (hc : ∀ j, j < 2 → (w.cell? ⟨b, o + j, none⟩).isSome = true) (hf : ∀ j, j < 2 → w.frozen? ⟨b, o + j, none⟩ = false) (ty : TypeId) :
    (Builtin.clear_ #[67] ty #[.slice (some ⟨b, o, none⟩) 1 c]).run Try.prog w = .ok (.tuple #[]) (sets w b o [.pointer none, .int .i64 0]) := by
  have hzc : (Builtin.zeroCells (Value.agg #[.pointer none, .int .i64 0]).cells 1).toList = [.pointer none, .int .i64 0] := by
    show (Builtin.zeroCells #[.pointer none, .int .i64 0] 1).toList = _
    simp [Builtin.zeroCells]
    rfl
  have hst := run_storeCells_cells (P := Try.prog) b o [.pointer none, .int .i64 0] 0 w (by simpa using hc) (by simpa using hf) (by intro v hv; simp at hv; rcases hv with rfl | rfl <;> rfl)
  simp only [Nat.add_zero, setC_sets] at hst
  have hz := zeroPn w
  obtain ⟨z, hz2⟩ : ∃ z, (Value.agg #[.pointer none, .int .i64 0]) = z := ⟨_, rfl⟩
  rw [hz2] at hz hzc
  simp [Builtin.clear_, run_underlying Try.underlying67, hz, hzc, hst]
theorem erase_is {P : List Pn} {i : Nat} (h : i < P.length) : P.take i ++ P.drop (i + 1) = P.eraseIdx i := (List.eraseIdx_eq_take_drop_succ P i).symm
/-- the first part, with what lies behind the hole laid on -/
theorem app_fits {T : Nat → Nat} {w : World} {G k c i : Nat} {P : List Pn} (hk : P.length = k + 1) (h : OwnK kPn 6 T w (.slice (some ⟨G, 0, none⟩) (k + 1) c) P) (hi : i ≤ k) (a : Addr) (c2 : Nat) (ha : i < k → a = ⟨G, (i + 1) * 2, none⟩) :
    ∃ w', (∀ ty, (Builtin.append_ #[67, 67] ty #[.slice (some ⟨G, 0, none⟩) i c, .slice (some a) (k - i) c2]).run Try.prog w = .ok (.slice (some ⟨G, 0, none⟩) k c) w') ∧
      OwnK kPn 6 T w' (.slice (some ⟨G, 0, none⟩) k c) (P.eraseIdx i) ∧ Goes (· = 6) T w T w' := by
  obtain ⟨iz, hi0, hz0, hz1, hz2⟩ := info_parts infoPn
  have hG := h.2 G rfl
  have hcut := ownK_cut h (m := i) (by omega)
  have hlt : (P.take i).length = i := by rw [List.length_take]; omega
  have hsk := OwnK.sk (s := (some ⟨G, 0, none⟩, k + 1, c)) h
  have hkc : k + 1 ≤ c := by have := hsk.2.2.1; rw [hk] at this; exact this
  have h1 := hcut.1
  rw [hlt] at h1
  have hdl : (P.drop (i + 1)).length = k - i := by rw [List.length_drop]; omega
  obtain ⟨w', hr, ho, hg⟩ := run_append_fits (P := Try.prog) w 0 67 0 79 iz 2 Try.underlying67 hi0 hz1 G i c _ h1 a (k - i) c2 (kPn.cells (P.drop (i + 1))) (by rw [kPn.cells_length, hdl]; rfl) (fun j u hu => by
      have hj : j < (k - i) * 2 := by
        have := (List.getElem?_eq_some_iff.1 hu).1
        rw [kPn.cells_length, hdl] at this
        exact this
      have hik : i < k := by omega
      rw [ha hik]
      have hd : j / 2 < (P.drop (i + 1)).length := by rw [hdl]; omega
      have hq := kPn.cells_get (P.drop (i + 1)) (j / 2) _ (List.getElem?_eq_getElem hd) (j % 2) (Nat.mod_lt _ (by decide))
      rw [show j / 2 * kPn.size + j % 2 = j by show j / 2 * 2 + j % 2 = j; omega, hu] at hq
      have hd2 : P[i + 1 + j / 2]? = some ((P.drop (i + 1))[j / 2]) := by
        rw [← List.getElem?_drop, List.getElem?_eq_getElem hd]
      obtain ⟨b, off, e, _, hc⟩ := (Ls.own (s := (some ⟨G, 0, none⟩, k + 1, c)) h).cell hd2
      cases e
      have := hc (j % 2) u hq.symm
      rw [show 0 + (i + 1 + j / 2) * kPn.size + j % 2 = (i + 1) * 2 + j by show 0 + (i + 1 + j / 2) * 2 + j % 2 = (i + 1) * 2 + j; omega] at this
      rw [Addr.add_lit]
      exact this) (fun u hu => kPn.cells_one _ u hu) (by omega)
  have hik2 : i + (k - i) = k := by omega
  rw [hik2] at hr ho
  refine ⟨w', fun ty => hr, ⟨?_, h.2⟩, hg.os, hg.tape, hg.output, hg.size, fun b hb ht => hg.block b hb (fun e => ht (by cases e; exact hG)), fun _ _ _ => rfl, fun _ _ h => h⟩
  have hel : (P.eraseIdx i).length = k := by rw [List.length_eraseIdx_of_lt (by omega)]; omega
  rw [hel, ← erase_is (by omega), kPn.cells_append]
  exact ho
end Vr
end Go.Proofs.Ytecgecolghgjoaa
