import Derived.Test.YtaejjpbpnedblaaGreatXj
namespace Go.Proofs.YtaejjpbpnedblaaGreat
namespace Vr
open Go.Shelf Go.RowKit Go.Lib Go.Sort Go.Maps Go.ChangeMaps Go.MapKept Laws Irw Crw
set_option linter.unusedVariables false
set_option linter.unusedSimpArgs false
set_option maxRecDepth 20000
theorem current_any {T : Nat → Nat} {w : World} {sb vb mb : Nat} {V : Lv} (h : SAt T w sb vb mb V) : Calls Tryz.prog 28 #[.pointer (some ⟨sb, 0, none⟩)] w fun e w' => e = .returned (.pointer (some ⟨vb, 0, none⟩)) ∧ w' = w := by
  obtain ⟨ps, hz⟩ := h.box
  have c0 := hz.2.1 0 _ rfl
  clear h hz
  go_enter Tryz.func28, Tryz.ntmps28
  go_wp2
  go_ret
  exact ⟨rfl, rfl⟩
theorem tableI (no we : Int) (le gr : ByteArray) (w : World) :
    Calls Tryz.prog 76 #[.int .u64 no, .int .i64 we, .string le, .string gr] w fun e w' => e = .returned (.agg #[.int .u64 no, .int .i64 we, .int .i64 0, .int .i64 0, .string le, .string gr]) ∧ RowKit.Below w.heap.size w w' := by
  have hz := Zb.new w #[.int .u64 no, .int .i64 we, .int .i64 0, .int .i64 0, .string le, .string gr] 76
  have HB : Hid (RowKit.Below w.heap.size w (w.alloc (.cells #[.int .u64 no, .int .i64 we, .int .i64 0, .int .i64 0, .string le, .string gr] 76))) := (Below.refl _ _).alloc (Nat.le_refl _) _
  have c0 := hz.2.1 0 _ rfl
  have c1 := hz.2.1 1 _ rfl
  have c2 := hz.2.1 2 _ rfl
  have c3 := hz.2.1 3 _ rfl
  have c4 := hz.2.1 4 _ rfl
  have c5 := hz.2.1 5 _ rfl
  have HC := hidV (And.intro c0 (And.intro c1 (And.intro c2 (And.intro c3 (And.intro c4 c5)))))
  clear hz c0 c1 c2 c3 c4 c5
  go_enter Tryz.func76, Tryz.ntmps76
  go_wp2
  obtain ⟨c0, c1, c2, c3, c4, c5⟩ := HC.out
  refine bodyPost_ret (v := .agg #[.int .u64 no, .int .i64 we, .int .i64 0, .int .i64 0, .string le, .string gr]) ?_ rfl ⟨rfl, HB.out⟩
  simp only [results, Tryz.results76]
  simp [Sem.run_bind, Result.andThen, go_sem, c0, c1, c2, c3, c4, c5]
theorem isK_zb {α : Type} {K : Knd α} {w : World} {g : Nat} {l : List α} (h : Zb w g (K.cells l)) : IsK K w (some ⟨g, 0, none⟩) l :=
  IsK.of ⟨h.1, fun i e he j u hu => by
    have hj : j < K.size := by have := (List.getElem?_eq_some_iff.1 hu).1; rw [K.len] at this; exact this
    rw [Nat.zero_add]
    exact h.2.1 _ _ ((K.cells_get l i e he j hj).trans hu)⟩
def exIn : List Pi := [⟨0, exT 9 500 98 100⟩, ⟨0, exT 12 500 99 107⟩, ⟨1, exT 3 2000 97 99⟩, ⟨1, exT 4 2000 101 112⟩, ⟨1, exT 5 1000 113 122⟩, ⟨2, exT 6 3000 100 102⟩, ⟨2, exT 7 3000 103 105⟩, ⟨2, exT 8 2000 107 108⟩, ⟨2, exT 10 1000 120 122⟩, ⟨3, exT 11 90000 97 122⟩]
theorem bring_ex : bring (List.replicate 4 []) exIn = .ok exV := by rfl
theorem srt_self {l : List Tb} (h : l.Pairwise (fun a b => leT a b = true)) : srt l = l := List.mergeSort_of_pairwise h
theorem edit_ex : edit (List.replicate 4 []) exIn = .ok exV := by
  unfold edit
  rw [bring_ex]
  have s1 : srt [exT 3 2000 97 99, exT 4 2000 101 112, exT 5 1000 113 122] = [exT 3 2000 97 99, exT 4 2000 101 112, exT 5 1000 113 122] := srt_self (by simp [leT, ltS, exT]; decide)
  have s2 : srt [exT 6 3000 100 102, exT 7 3000 103 105, exT 8 2000 107 108, exT 10 1000 120 122] = [exT 6 3000 100 102, exT 7 3000 103 105, exT 8 2000 107 108, exT 10 1000 120 122] := srt_self (by simp [leT, ltS, exT]; decide)
  have s3 : srt [exT 11 90000 97 122] = [exT 11 90000 97 122] := srt_self (by simp)
  have e : (exV.drop 1).map srt = exV.drop 1 := by
    show [srt _, srt _, srt _] = _
    rw [s1, s2, s3]
    rfl
  have e2 : ordered exV = exV := by
    unfold ordered
    rw [e]
    rfl
  show (if ((exV.drop 1).map srt).any ovl = true then _ else _) = _
  rw [e, e2]
  rfl
end Vr
end Go.Proofs.YtaejjpbpnedblaaGreat
