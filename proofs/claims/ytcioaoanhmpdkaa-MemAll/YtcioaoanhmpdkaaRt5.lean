import Derived.Test.YtcioaoanhmpdkaaRt4
import Derived.BigQuiet
namespace Go.Proofs.Ytcioaoanhmpdkaa
namespace Mem
open Go.RowKit Laws Irw Erw KMath Skm Byt Sk Grp Crw Chk
set_option linter.unusedVariables false
set_option maxRecDepth 100000
set_option linter.unusedSimpArgs false
/-- one entry of the reference's From -/
def fstep (k : ByteArray) (s : Int) (out : List En) (e : En) : List En := if Op.bytesLess e.1.toList k.toList = false ∧ e.2.1 ≤ s ∧ (out = [] ∨ (out.getD (out.length - 1) ez).1 ≠ e.1) then out ++ [e] else out
theorem fstep_len {k : ByteArray} {s : Int} {out : List En} {e : En} : (fstep k s out e).length ≤ out.length + 1 := by
  unfold fstep
  split
  · simp
  · omega
theorem fsteps_len {k : ByteArray} {s : Int} : ∀ {l out : List En}, (l.foldl (fstep k s) out).length ≤ out.length + l.length
  | [], out => by simp
  | x :: r, out => by
    have h1 := fsteps_len (k := k) (s := s) (l := r) (out := fstep k s out x)
    have h2 := fstep_len (k := k) (s := s) (out := out) (e := x)
    simp only [List.foldl_cons, List.length_cons]
    omega
def RFromAns (w : World) (l : List En) (r : Ending) (w' : World) : Prop := ∃ a c, r = .returned (.slice a l.length c) ∧ IsE w' a l ∧ l.length ≤ c ∧ (a = none → c = 0) ∧ (∀ b off, a = some ⟨b, off, none⟩ → w.heap.size ≤ b) ∧ Below w.heap.size w w'
set_option maxHeartbeats 4000000 in
/-- the reference's From -/
theorem refFrom6 {w : World} {Q R n : Nat} {es : List En} {hs : List Int} {bs : List Nat} {fz : Bool} (h : Rt w Q R es hs bs fz) (hl : es.length ≤ 1000000000) (hn : es.length = n) (key : ByteArray) (s : Int) :
    Calls Try.prog 47 #[.pointer (some ⟨Q, 0, none⟩), .string key, .int .u64 s] w fun r w' => RFromAns w (es.foldl (fstep key s) []) r w' := by
  have HA : Hid _ := refAll6 h (by omega) hn
  have hn9 : n ≤ 1000000000 := by omega
  have HN : Hid (es.length = n) := hn
  obtain ⟨i0, hi0, hz0, hz1, hz2⟩ := info_parts infoE
  clear h hl hn
  go_enter Try.func47, Try.ntmps47
  go_wp2_with fail
  refine Calls.mono HA.out ?_
  rintro e w1 ⟨a, c, rfl, hi, hc, hnil, hb1⟩
  have HI : Hid (IsE w1 a es) := hi
  have HB1 : Hid (Below w.heap.size w w1) := hb1
  clear hi hc hnil hb1 HA
  go_wp2
  go_loopw [7, 9] (fun v i wr => ∃ (k : Nat) (T : Nat → Nat), k ≤ n ∧ i = .int .i64 (k : Int) ∧ Hid (Old w1 T wr ∧ OwnE 1 T wr v ((es.take k).foldl (fstep key s) []))) (fun _ i _ => n - (intOf i).toNat)
  case atStart => exact ⟨0, fun _ => 0, Nat.zero_le _, rfl, Old.first w1, OwnE.empty _ _ _⟩
  case round =>
    obtain ⟨k, T, hk, rfl, HK⟩ := hrel
    rename World => wr
    obtain ⟨ao, co, e5, io, ho, hno⟩ := HK.out.2.form
    subst e5
    by_cases hlt : k < n
    · have hkl : k < es.length := by rw [HN.out]; exact hlt
      obtain ⟨bA, oA, rfl, hbA, y0, y1, y2, y3⟩ := SkipOrder.rd (HI.out.below HK.out.1.below) hkl
      have HTK : Hid ((es.take (k + 1)).foldl (fstep key s) [] = fstep key s ((es.take k).foldl (fstep key s) []) (es.getD k ez)) := by
        show (es.take (k + 1)).foldl (fstep key s) [] = _
        rw [List.take_add_one, List.getElem?_eq_getElem hkl, List.foldl_append, List.getD_eq_getElem?_getD, List.getElem?_eq_getElem hkl]
        rfl
      have HLX : Hid (((es.take k).foldl (fstep key s) []).length ≤ 1000000000) := by
        have := fsteps_len (k := key) (s := s) (l := es.take k) (out := [])
        rw [List.length_take, List.length_nil] at this
        show _ ≤ _
        omega
      generalize es.getD k ez = x at *
      obtain ⟨xk, xs, xd, xv⟩ := x
      dsimp only at y0 y1 y2 y3
      generalize (es.take k).foldl (fstep key s) [] = out at *
      obtain ⟨X, hX⟩ : ∃ X, out.length = X := ⟨_, rfl⟩
      rw [hX] at HK HLX ⊢
      have HXX : Hid (out.length = X) := hX
      have q1 : (k : Int) < (n : Int) := by omega
      have q2 : (n : Int) ≤ 1000000000 := by omega
      have HBA : Hid (Below wr.heap.size wr (wr.alloc (.cells #[.string xk, .int .u64 xs, .bool xd, .string xv] 77))) := (Below.refl _ _).alloc (Nat.le_refl _) _
      have gB : (wr.alloc (.cells #[.string xk, .int .u64 xs, .bool xd, .string xv] 77)).heap[wr.heap.size]? = some (.cells #[.string xk, .int .u64 xs, .bool xd, .string xv] 77) := World.alloc_heap_new _ _
      have b0 : (wr.alloc (.cells #[.string xk, .int .u64 xs, .bool xd, .string xv] 77)).cell? ⟨wr.heap.size, 0, none⟩ = some (.string xk) := by rw [cell_of_obj gB]; rfl
      have b1 : (wr.alloc (.cells #[.string xk, .int .u64 xs, .bool xd, .string xv] 77)).cell? ⟨wr.heap.size, 1, none⟩ = some (.int .u64 xs) := by rw [cell_of_obj gB]; rfl
      have b2 : (wr.alloc (.cells #[.string xk, .int .u64 xs, .bool xd, .string xv] 77)).cell? ⟨wr.heap.size, 2, none⟩ = some (.bool xd) := by rw [cell_of_obj gB]; rfl
      have b3 : (wr.alloc (.cells #[.string xk, .int .u64 xs, .bool xd, .string xv] 77)).cell? ⟨wr.heap.size, 3, none⟩ = some (.string xv) := by rw [cell_of_obj gB]; rfl
      clear gB ho hno hX hkl
      by_cases hA : Op.bytesLess xk.toList key.toList = true
      · have HS : Hid (fstep key s out (xk, xs, xd, xv) = out) := by
          show fstep key s out (xk, xs, xd, xv) = out
          unfold fstep; rw [if_neg (fun h => by have h1 := h.1; dsimp only at h1; rw [hA] at h1; cases h1)]
        go_wp2
        go_quiet (fail)
        go_wp2
        go_roundw
        case rel => exact ⟨k + 1, T, by omega, by go_num, HK.out.1.goes (Goes.below (t := fun _ => False) (below_drewN HBA.out _)) (fun z => z), by rw [HTK.out, HS.out]; exact HK.out.2.below (below_drewN HBA.out _)⟩
        case measure => simp [intOf]; omega
      · have hA2 : Op.bytesLess xk.toList key.toList = false := by simpa using hA
        clear hA
        by_cases hB : s < xs
        · have HS : Hid (fstep key s out (xk, xs, xd, xv) = out) := by
            show fstep key s out (xk, xs, xd, xv) = out
            unfold fstep; rw [if_neg (fun h => by have h1 := h.2.1; dsimp only at h1; omega)]
          have hB2 : decide (xs ≤ s) = false := by simp; omega
          go_wp2
          go_quiet (fail)
          go_wp2
          go_roundw
          case rel => exact ⟨k + 1, T, by omega, by go_num, HK.out.1.goes (Goes.below (t := fun _ => False) (below_drewN HBA.out _)) (fun z => z), by rw [HTK.out, HS.out]; exact HK.out.2.below (below_drewN HBA.out _)⟩
          case measure => simp [intOf]; omega
        · have hB2 : xs ≤ s := by omega
          clear hB
          by_cases hC : X = 0
          · subst hC
            have hout : out = [] := List.eq_nil_of_length_eq_zero HXX.out
            have HS : Hid (fstep key s out (xk, xs, xd, xv) = out ++ [(xk, xs, xd, xv)]) := by
              show fstep key s out (xk, xs, xd, xv) = _
              unfold fstep; rw [if_pos ⟨hA2, hB2, .inl hout⟩]
            clear hout
            go_wp2
            go_quiet (fail)
            generalize hW2 : (wr.alloc (.cells #[.string xk, .int .u64 xs, .bool xd, .string xv] 77)).drewN nq = W2 at *
            have HB2 : Hid (Below wr.heap.size wr W2) := by rw [← hW2]; exact below_drewN HBA.out _
            have e0 : W2.cell? ⟨wr.heap.size, 0, none⟩ = some (.string xk) := by rw [← hW2]; exact b0
            have e1 : W2.cell? ⟨wr.heap.size, 1, none⟩ = some (.int .u64 xs) := by rw [← hW2]; exact b1
            have e2 : W2.cell? ⟨wr.heap.size, 2, none⟩ = some (.bool xd) := by rw [← hW2]; exact b2
            have e3 : W2.cell? ⟨wr.heap.size, 3, none⟩ = some (.string xv) := by rw [← hW2]; exact b3
            have HBC : Hid (Below wr.heap.size wr (W2.alloc (.cells #[.string xk, .int .u64 xs, .bool xd, .string xv] 77))) := HB2.out.alloc HB2.out.size _
            clear hW2 b0 b1 b2 b3
            go_wp2_with (at_builtin; go_loud (refine wpList_appE _ (by rfl) (.tmp 50) (.tmp 52) 80 (by rfl) i0 undE5 hi0 hz0 hz1 hz2 1 T (.slice ao 0 co) out (by rfl) (HK.out.2.below HBC.out) (some ⟨W2.heap.size, 0, none⟩) 1 1 [(xk, xs, xd, xv)] (by rfl) (by rfl) (by simp) isE_new5 (by have := HXX.out; have := HLX.out; simp; omega) ?_; intro a7 c7 T7 w7 hown7 hgo7 hat7; have HO7 : Hid (Old w1 T7 w7 ∧ OwnE 1 T7 w7 _ _) := ⟨(HK.out.1.goes (Goes.below (t := fun _ => False) HBC.out) (fun z => z)).goes hgo7 (by omega), hown7⟩; clear hown7 hgo7 hat7))
            go_roundw
            case rel => exact ⟨k + 1, T7, by omega, by go_num, HO7.out.1, by rw [HTK.out, HS.out]; exact HO7.out.2⟩
            case measure => simp [intOf]; omega
          · obtain ⟨Y, hY⟩ : ∃ Y, X = Y + 1 := ⟨X - 1, by omega⟩
            have hYl : Y < out.length := by rw [HXX.out]; omega
            obtain ⟨bO, oO, rfl, hbO, v0, v1, v2, v3⟩ := SkipOrder.rd (io.below HBA.out) hYl
            have HLK : Hid (out.getD (out.length - 1) ez = out.getD Y ez) := by rw [HXX.out, hY]; rfl
            have q3 : (Y : Int) ≤ 1000000000 := by have := HLX.out; omega
            have q4 : IntKind.i64.wrap ((X : Int) - 1) = (Y : Int) := by rw [IntWalk.i64_in _ (by omega)]; omega
            have q5 : (Y : Int) < (X : Int) := by omega
            have q6 : (0 : Int) ≤ (Y : Int) := by omega
            have q7 : ((X : Int) == 0) = false := by rw [beq_eq_false_iff_ne]; omega
            clear hY
            clear v1 v2 v3
            by_cases hD : (out.getD Y ez).1 = xk
            · have HS : Hid (fstep key s out (xk, xs, xd, xv) = out) := by
                show fstep key s out (xk, xs, xd, xv) = out
                unfold fstep; rw [if_neg (fun h => by rcases h.2.2 with h1 | h1; rw [h1] at hYl; simp at hYl; rw [HLK.out] at h1; exact h1 hD)]
              rw [hD] at v0
              clear hYl HLK hD
              go_wp2
              go_quiet (fail)
              go_wp2
              go_roundw
              case rel => exact ⟨k + 1, T, by omega, by go_num, HK.out.1.goes (Goes.below (t := fun _ => False) (below_drewN HBA.out _)) (fun z => z), by rw [HTK.out, HS.out]; exact HK.out.2.below (below_drewN HBA.out _)⟩
              case measure => simp [intOf]; omega
            · have HS : Hid (fstep key s out (xk, xs, xd, xv) = out ++ [(xk, xs, xd, xv)]) := by
                show fstep key s out (xk, xs, xd, xv) = _
                unfold fstep; rw [if_pos ⟨hA2, hB2, .inr (by rw [HLK.out]; exact hD)⟩]
              clear hYl HLK
              generalize (out.getD Y ez).1 = lk at *
              have hd1 : ¬ lk.toList = xk.toList := fun h => hD (by rw [ByteArray.toList_eq, ByteArray.toList_eq] at h; cases lk; cases xk; exact congrArg _ (Array.toList_inj.1 h))
              have hd2 : (lk.toList != xk.toList) = true := by simp [hd1]
              have hd3 : (lk.toList == xk.toList) = false := by simp [hd1]
              clear hD
              go_wp2
              go_quiet (fail)
              generalize hW2 : (wr.alloc (.cells #[.string xk, .int .u64 xs, .bool xd, .string xv] 77)).drewN nq = W2 at *
              have HB2 : Hid (Below wr.heap.size wr W2) := by rw [← hW2]; exact below_drewN HBA.out _
              have e0 : W2.cell? ⟨wr.heap.size, 0, none⟩ = some (.string xk) := by rw [← hW2]; exact b0
              have e1 : W2.cell? ⟨wr.heap.size, 1, none⟩ = some (.int .u64 xs) := by rw [← hW2]; exact b1
              have e2 : W2.cell? ⟨wr.heap.size, 2, none⟩ = some (.bool xd) := by rw [← hW2]; exact b2
              have e3 : W2.cell? ⟨wr.heap.size, 3, none⟩ = some (.string xv) := by rw [← hW2]; exact b3
              have HBC : Hid (Below wr.heap.size wr (W2.alloc (.cells #[.string xk, .int .u64 xs, .bool xd, .string xv] 77))) := HB2.out.alloc HB2.out.size _
              clear hW2 b0 b1 b2 b3
              go_wp2_with (at_builtin; go_loud (refine wpList_appE _ (by rfl) (.tmp 50) (.tmp 52) 80 (by rfl) i0 undE5 hi0 hz0 hz1 hz2 1 T (.slice (some ⟨bO, oO, none⟩) X co) out (by rfl) (HK.out.2.below HBC.out) (some ⟨W2.heap.size, 0, none⟩) 1 1 [(xk, xs, xd, xv)] (by rfl) (by rfl) (by simp) isE_new5 (by have := HXX.out; have := HLX.out; simp; omega) ?_; intro a7 c7 T7 w7 hown7 hgo7 hat7; have HO7 : Hid (Old w1 T7 w7 ∧ OwnE 1 T7 w7 _ _) := ⟨(HK.out.1.goes (Goes.below (t := fun _ => False) HBC.out) (fun z => z)).goes hgo7 (by omega), hown7⟩; clear hown7 hgo7 hat7))
              go_roundw
              case rel => exact ⟨k + 1, T7, by omega, by go_num, HO7.out.1, by rw [HTK.out, HS.out]; exact HO7.out.2⟩
              case measure => simp [intOf]; omega
    · obtain rfl : k = n := by omega
      have HT : Hid (es.take k = es) := by show es.take k = es; rw [← HN.out]; exact List.take_length
      rw [HT.out] at HK io ho ⊢
      have HF : Hid (RFromAns w (es.foldl (fstep key s) []) (.returned (.slice ao (es.foldl (fstep key s) []).length co)) wr) := by
        refine ⟨ao, co, rfl, io, ho, hno, fun b off e => ?_, HB1.out.trans (HK.out.1.below.mono HB1.out.size)⟩
        rcases Nat.lt_or_ge b w1.heap.size with hb | hb
        · have h1 := HK.out.2.2 b (by rw [e]; rfl)
          rw [HK.out.1.zero b (.inl hb)] at h1; cases h1
        · exact Nat.le_trans HB1.out.size hb
      generalize (es.foldl (fstep key s) []).length = Z at *
      clear io ho hno
      go_wp2
      go_ret
      exact HF.out
end Mem
end Go.Proofs.Ytcioaoanhmpdkaa
