import Derived.Test.YtaejjpbpnedblaaGreatFi
import Derived.Test.YtaejjpbpnedblaaGreatFm
import Derived.Test.YtaejjpbpnedblaaGreatFn
namespace Go.Proofs.YtaejjpbpnedblaaGreat
namespace Vr
open Go.Shelf Go.RowKit Go.Lib Go.Sort Go.Maps Go.ChangeMaps Go.MapKept Laws Irw Crw
set_option linter.unusedVariables false
set_option linter.unusedSimpArgs false
set_option maxRecDepth 20000
/-- where a level stands in an order -/
def lvl (od : List Nat) (n : Nat) : Int := match od.findIdx? (fun z => z == n) with | some i => (i : Int) | none => -1
theorem lvl_at {od : List Nat} {k z n : Nat} (hz : od[k]? = some z) (he : z = n) (hno : ∀ j, j < k → od[j]? ≠ some n) : lvl od n = (k : Int) := by
  unfold lvl
  have hk := (List.getElem?_eq_some_iff.1 hz)
  obtain ⟨hk1, hk2⟩ := hk
  have : od.findIdx? (fun z => z == n) = some k := by
    rw [List.findIdx?_eq_some_iff_getElem]
    refine ⟨hk1, by simp [hk2, he], fun j hj => ?_⟩
    have := hno j hj
    rw [List.getElem?_eq_getElem (by omega)] at this
    simp at this ⊢
    exact this
  rw [this]
theorem lvl_no {od : List Nat} {n : Nat} (hno : ∀ j, j < od.length → od[j]? ≠ some n) : lvl od n = -1 := by
  unfold lvl
  have : od.findIdx? (fun z => z == n) = none := by
    rw [List.findIdx?_eq_none_iff]
    intro x hx
    obtain ⟨j, hj⟩ := List.getElem?_of_mem hx
    have h1 := hno j (List.getElem?_eq_some_iff.1 hj).1
    rw [hj] at h1
    simp at h1 ⊢
    exact h1
  rw [this]
theorem levelN_any (a : Option Addr) (m c : Nat) (od : List Nat) (n : Nat) (w : World) (h : Ls kI w (a, m, c) (zI od)) (hm : m ≤ 1000) :
    Calls Tryz.prog 17 #[.slice a m c, .int .i64 (n : Int)] w fun e w' => e = .returned (.int .i64 (lvl od n)) ∧ w' = w := by
  have hml : m = od.length := by have := h.2.1; rw [zI_len] at this; exact this
  have HL := hidV h
  have HM := hidV hml
  clear h hml
  go_enter Tryz.func17, Tryz.ntmps17
  go_wp2
  go_loopw [5] (fun i wr => ∃ k : Nat, k ≤ m ∧ i = .int .i64 (k : Int) ∧ wr = w ∧ Hid (∀ j, j < k → od[j]? ≠ some n)) (fun i _ => m - (intOf i).toNat)
  case atStart => exact ⟨0, Nat.zero_le _, rfl, rfl, fun j hj => absurd hj (Nat.not_lt_zero _)⟩
  case round =>
    obtain ⟨k, hk, rfl, hww, HX⟩ := hrel
    have hww' := hww.symm
    clear hww
    subst hww'
    by_cases hlt : k < m
    · have q1 : (k : Int) < (m : Int) := by omega
      obtain ⟨z, hz⟩ : ∃ z, od[k]? = some z := ⟨_, List.getElem?_eq_getElem (by have := HM.out; omega)⟩
      obtain ⟨b, off, rfl, hb, hcell⟩ := HL.out.cell (i := k) (x := (z : Int)) (by unfold zI; rw [List.getElem?_map, hz]; rfl)
      have hc0 : w.cell? ⟨b, off + k, none⟩ = some (.int .i64 (z : Int)) := by
        have := hcell 0 _ rfl
        simpa [kI] using this
      have HZ := hidV hz
      clear hcell hz hb
      by_cases he : z = n
      · have q2 : (z : Int) = (n : Int) := by omega
        have HD := hidV (lvl_at HZ.out he HX.out)
        clear he
        go_wp2
        go_ret
        exact ⟨by rw [HD.out]; rfl, rfl⟩
      · have q2 : ¬ (z : Int) = (n : Int) := by omega
        have HN := hidV he
        go_wp2
        go_roundw
        case rel =>
          refine ⟨k + 1, by omega, by go_num, trivial, fun j hj => ?_⟩
          by_cases hjk : j = k
          · subst hjk
            rw [HZ.out]
            intro e
            injection e with e
            exact HN.out e
          · exact HX.out j (by omega)
        case measure => simp [intOf]; omega
    · have q1 : ¬ (k : Int) < (m : Int) := by omega
      have HD := hidV (lvl_no (od := od) (n := n) (fun j hj => HX.out j (by have := HM.out; omega)))
      go_wp2
      go_ret
      exact ⟨by rw [HD.out]; rfl, rfl⟩
/-- is none of these locked? -/
def freeB (xs : List Int) (l : List Tb) : Bool := xs.all fun x => !(l.any fun t => decide ((t.no : Int) = x))
theorem free_hits (xs : List Int) (j : Jb) : (freeB xs j.up && freeB xs j.lo) = !hitsL xs j := by
  unfold freeB hitsL
  rw [Bool.eq_iff_iff, Bool.and_eq_true, List.all_eq_true, List.all_eq_true, Bool.not_eq_true', List.any_eq_false]
  constructor
  · rintro ⟨h1, h2⟩ t ht hx
    have hx' : (t.no : Int) ∈ xs := by simpa using hx
    rcases List.mem_append.1 ht with ht | ht
    · have := h1 _ hx'
      rw [Bool.not_eq_true', List.any_eq_false] at this
      exact this t ht (by simp)
    · have := h2 _ hx'
      rw [Bool.not_eq_true', List.any_eq_false] at this
      exact this t ht (by simp)
  · intro h
    refine ⟨fun x hx => ?_, fun x hx => ?_⟩
    · rw [Bool.not_eq_true', List.any_eq_false]
      intro t ht e
      refine h t (List.mem_append_left _ ht) ?_
      have e' : (t.no : Int) = x := by simpa using e
      rw [e']
      simpa using hx
    · rw [Bool.not_eq_true', List.any_eq_false]
      intro t ht e
      refine h t (List.mem_append_right _ ht) ?_
      have e' : (t.no : Int) = x := by simpa using e
      rw [e']
      simpa using hx
def XsOk (xs : List Int) : Prop := ∀ x ∈ xs, ∃ m : Nat, x = (m : Int) ∧ m < U64
theorem free_any (a : Option Addr) (c : Nat) (l : List Tb) (la : Option Addr) (ln lc : Nat) (xs : List Int) (w : World) (h : Ls kTb w (a, l.length, c) l) (hlen : l.length ≤ 1000000) (hx : Ls kU w (la, ln, lc) xs) (hln : ln ≤ 17592186044416) (hxs : XsOk xs) :
    Calls Tryz.prog 65 #[.slice a l.length c, .slice la ln lc] w fun e w' => e = .returned (.bool (freeB xs l)) ∧ w' = w := by
  have HL := hidV (And.intro h (And.intro hx (And.intro hxs hlen)))
  have hm : ln = xs.length := hx.2.1
  have HM := hidV hm
  clear h hx hxs hm
  go_enter Tryz.func65, Tryz.ntmps65
  go_wp2
  go_loopw [5] (fun i wr => ∃ k : Nat, k ≤ ln ∧ i = .int .i64 (k : Int) ∧ wr = w ∧ Hid (∀ x ∈ xs.take k, (l.any fun t => decide ((t.no : Int) = x)) = false)) (fun i _ => ln - (intOf i).toNat)
  case atStart => exact ⟨0, Nat.zero_le _, rfl, rfl, fun x hx => by simp at hx⟩
  case round =>
    obtain ⟨k, hk, rfl, hww, HX⟩ := hrel
    have hww' := hww.symm
    clear hww
    subst hww'
    by_cases hlt : k < ln
    · have q1 : (k : Int) < (ln : Int) := by omega
      obtain ⟨x, hx⟩ : ∃ x, xs[k]? = some x := ⟨_, List.getElem?_eq_getElem (by have := HM.out; omega)⟩
      obtain ⟨m, hm, hmu⟩ := HL.out.2.2.1 x (List.mem_of_getElem? hx)
      subst hm
      obtain ⟨b, off, rfl, hb, hcell⟩ := HL.out.2.1.cell hx
      have hc0 : w.cell? ⟨b, off + k, none⟩ = some (.int .u64 (m : Int)) := by
        have := hcell 0 _ rfl
        rw [show off + k * kU.size + 0 = off + k by show off + k * 1 + 0 = off + k; omega] at this
        exact this
      have HZ : Hid (xs.take (k + 1) = xs.take k ++ [(m : Int)] ∧ (m : Int) ∈ xs) := ⟨by rw [List.take_add_one, hx]; rfl, List.mem_of_getElem? hx⟩
      have HT : Hid (tin l m = l.any fun t => decide ((t.no : Int) = (m : Int))) := by
        show _ = _
        unfold tin
        rw [Bool.eq_iff_iff]
        simp only [decide_eq_true_eq, List.mem_map, List.any_eq_true]
        constructor
        · rintro ⟨t, ht, e⟩
          exact ⟨t, ht, by omega⟩
        · rintro ⟨t, ht, e⟩
          exact ⟨t, ht, by omega⟩
      have HIN := hidV (in_any a c l m w HL.out.1 HL.out.2.2.2)
      clear hcell hx hb
      cases hti : tin l m with
      | true =>
        rw [hti] at HIN
        have HD : Hid (freeB xs l = false) := by
          show _ = _
          unfold freeB
          rw [List.all_eq_false]
          exact ⟨_, HZ.out.2, by rw [← HT.out, hti]; simp⟩
        clear hti
        go_wp2_with (go_at_call 63; go_loud (refine HIN.out.mono ?_; rintro e w99 ⟨rfl, hw99⟩; have hw98 := hw99.symm; clear hw99; subst hw98))
        go_ret
        exact ⟨by rw [HD.out]; rfl, rfl⟩
      | false =>
        rw [hti] at HIN
        have HTI := hidV hti
        clear hti
        go_wp2_with (go_at_call 63; go_loud (refine HIN.out.mono ?_; rintro e w99 ⟨rfl, hw99⟩; have hw98 := hw99.symm; clear hw99; subst hw98))
        go_roundw
        case rel =>
          refine ⟨k + 1, by omega, by go_num, trivial, fun x hx => ?_⟩
          rw [HZ.out.1] at hx
          rcases List.mem_append.1 hx with hx | hx
          · exact HX.out x hx
          · simp only [List.mem_singleton] at hx
            subst hx
            rw [← HT.out]
            exact HTI.out
        case measure => simp [intOf]; omega
    · have q1 : ¬ (k : Int) < (ln : Int) := by omega
      have HD : Hid (freeB xs l = true) := by
        show _ = _
        unfold freeB
        rw [List.all_eq_true]
        intro x hx
        have := HX.out x (by rw [List.take_of_length_le (by have := HM.out; omega)]; exact hx)
        rw [this]
        rfl
      go_wp2
      go_ret
      exact ⟨by rw [HD.out]; rfl, rfl⟩
/-- do two tables' hulls overlap? -/
def ovT (x y : Tb) : Bool := !ltS x.gr y.le && !ltS y.gr x.le
set_option maxHeartbeats 1000000 in
theorem ovT_any (x y : Tb) (w : World) : Calls Tryz.prog 64 #[tbV x, tbV y] w fun e w' => e = .returned (.bool (ovT x y)) ∧ RowKit.Below w.heap.size w w' := by
  have HB : Hid (∀ q, RowKit.Below w.heap.size w (((w.alloc (.cells #[.int .u64 (x.no : Int), .int .i64 x.we, .int .i64 x.by_, .int .i64 x.en, .string x.le, .string x.gr] 76)).alloc (.cells #[.int .u64 (y.no : Int), .int .i64 y.we, .int .i64 y.by_, .int .i64 y.en, .string y.le, .string y.gr] 76)).drewN q)) := fun q => bl_dn (((Below.refl _ _).alloc (Nat.le_refl _) _).alloc (by simp) _) q
  have hd : ovT x y = (!ltS x.gr y.le && !ltS y.gr x.le) := rfl
  have g1 := fun W => geqS x.gr y.le W
  have g2 := fun W => geqS y.gr x.le W
  rw [hd]
  clear hd
  unfold tbV
  cases h1 : ltS x.gr y.le with
  | true =>
    rw [h1] at g1
    go_enter Tryz.func64, Tryz.ntmps64
    go_wp2
    go_ret
    exact ⟨by simp, by first | exact HB.out 0 | exact HB.out _⟩
  | false =>
    rw [h1] at g1
    go_enter Tryz.func64, Tryz.ntmps64
    go_wp2
    go_ret
    exact ⟨by simp, by first | exact HB.out 0 | exact HB.out _⟩
end Vr
end Go.Proofs.YtaejjpbpnedblaaGreat
