import Derived.Test.YtodgomgacgoliaaPp1
namespace Go.Proofs.Ytodgomgacgoliaa
namespace Hp
open Go.RowKit Laws Irw
open Lin (OpD OpRow IsOps)
set_option linter.unusedVariables false
set_option maxRecDepth 100000
set_option linter.unusedSimpArgs false

set_option maxHeartbeats 8000000 in
theorem plays_walk (o1 o2 : Int) (a : Option Addr) (c : Nat) (sc : List OpD) (w : World) (ha : IsOps w a sc) :
    Calls Try.prog 3 #[.int .i64 o1, .int .i64 o2, .slice a sc.length c] w fun e w' => e = .returned (.bool true) ∧ Below w.heap.size w w' := by
  have HA : Hid (IsOps w a sc) := ha
  clear ha
  go_enter Try.func3, Try.ntmps3
  go_wp2_with fail
  refine (heap_any (fun _ => 0) w o1 101).mono ?_
  rintro e w1 ⟨rfl, hh1, hb1⟩
  have HM1 : Hid _ := side_made w (fun _ => 0) w w1 100 o1 (Old.first w) hh1 hb1
  clear hh1 hb1
  go_wp2_with fail
  have hW1 : (w1.alloc (.cells #[.int .i64 o1, .slice none 0 0] 29)).alloc (.cells #[.pointer (some ⟨w.heap.size + 1, 0, none⟩), .pointer (some ⟨w1.heap.size, 0, none⟩), .int .i64 0, .bool false] 31) = sideW w w1 o1 := rfl
  rw [hW1]
  clear hW1
  generalize sideT (fun _ => 0) w w1 100 = T1 at *
  generalize sideW w w1 o1 = v1 at *
  generalize w.heap.size + 1 = h1 at *
  generalize w1.heap.size + 1 = s1 at *
  generalize w1.heap.size = b1 at *
  have HB : ∃ B1, Hid (SideIs 100 T1 v1 s1 h1 B1 b1 o1 0 ∧ Old w T1 v1) := ⟨_, HM1.out.1, HM1.out.2.1⟩
  obtain ⟨B1, HS1⟩ := HB
  clear HM1
  refine (heap_any T1 v1 o2 201).mono ?_
  rintro e w2 ⟨rfl, hh2, hb2⟩
  have HM2 : Hid _ := side_made w T1 v1 w2 200 o2 HS1.out.2 hh2 hb2
  clear hh2 hb2
  have HP0 : Hid (PP w (sideT T1 v1 w2 200) (sideW v1 w2 o2) s1 h1 B1 b1 (w2.heap.size + 1) (v1.heap.size + 1) v1.heap.size w2.heap.size o1 o2 0 0) := ⟨HS1.out.1.goes HM2.out.2.2 (fun _ _ _ z => z), HM2.out.1, HM2.out.2.1⟩
  clear HM2 HS1
  generalize sideT T1 v1 w2 200 = T2 at *
  have hWs : (w2.alloc (.cells #[.int .i64 o2, .slice none 0 0] 29)).alloc (.cells #[.pointer (some ⟨v1.heap.size + 1, 0, none⟩), .pointer (some ⟨w2.heap.size, 0, none⟩), .int .i64 0, .bool false] 31) = sideW v1 w2 o2 := rfl
  generalize sideW v1 w2 o2 = v2 at *
  generalize v1.heap.size + 1 = h2 at *
  generalize v1.heap.size = B2 at *
  have c10 := HP0.out.one.reads.2.1
  have c20 := HP0.out.two.reads.2.1
  by_cases hs : sc.length ≤ 600
  case neg =>
    have hs' : (600 : Int) < (sc.length : Int) := by omega
    go_wp2
    go_ret
    exact ⟨rfl, HP0.out.old.below⟩
  have hs' : ¬ (600 : Int) < (sc.length : Int) := by omega
  go_wp2
  clear hWs c10 c20
  generalize w2.heap.size + 1 = s2 at *
  generalize w2.heap.size = b2 at *
  go_loopw [9] (fun i wr => ∃ (k : Nat) (T : Nat → Nat) (n1 n2 : Nat), k ≤ sc.length ∧ i = .int .i64 (k : Int) ∧ n1 ≤ k ∧ n2 ≤ k ∧ Hid (PP w T wr s1 h1 B1 b1 s2 h2 B2 b2 o1 o2 n1 n2)) (fun i _ => sc.length - (intOf i).toNat)
  case atStart => exact ⟨0, T2, 0, 0, Nat.zero_le _, rfl, Nat.le_refl _, Nat.le_refl _, HP0⟩
  case round =>
    clear HP0
    obtain ⟨k, T, n1, n2, hk, rfl, hn1, hn2, HP⟩ := hrel
    by_cases hlt : k < sc.length
    · have hq : (k : Int) < (sc.length : Int) := by omega
      have hne : sc ≠ [] := by rintro rfl; simp at hlt
      obtain ⟨b, o, rfl, hb, hr⟩ := HA.out hne
      obtain ⟨⟨kd, n, sd⟩, hx⟩ : ∃ x, sc[k]? = some x := ⟨_, List.getElem?_eq_getElem hlt⟩
      have HBL : Hid (Below w.heap.size w wr) := HP.out.old.below
      obtain ⟨c0, c1, c2⟩ := hr k _ hx
      have e0 : wr.cell? ⟨b, o + k * 3, none⟩ = some (.int .i64 kd) := (HBL.out.cell (p := ⟨b, o + k * 3, none⟩) hb).trans c0
      have e1 : wr.cell? ⟨b, o + k * 3 + 1, none⟩ = some (.int .i64 n) := (HBL.out.cell (p := ⟨b, o + k * 3 + 1, none⟩) hb).trans c1
      have e2 : wr.cell? ⟨b, o + k * 3 + 2, none⟩ = some (.bool sd) := (HBL.out.cell (p := ⟨b, o + k * 3 + 2, none⟩) hb).trans c2
      have w4 : IntKind.i64.wrap ((k : Int) + 1) = (k : Int) + 1 := IntWalk.i64_in _ (by omega)
      clear c0 c1 c2 hx hne HBL
      have hln1 := lenOf_le kd n1
      have hln2 := lenOf_le kd n2
      cases sd with
      | false =>
        have HC := HP.out.play1 (by omega) kd n false
        generalize lenOf kd n1 = m1 at *
        go_wp2_with fail
        refine HC.mono ?_
        rintro e w3 ⟨rfl, HX⟩
        obtain ⟨T3, HQ⟩ := HX.out
        have HQ' : Hid (PP w T3 w3 s1 h1 B1 b1 s2 h2 B2 b2 o1 o2 m1 n2) := HQ
        clear HX HQ
        go_wp2
        go_roundw
        case rel => exact ⟨k + 1, T3, m1, n2, by omega, by go_num, by omega, by omega, HQ'⟩
        case measure => simp [intOf]; omega
      | true =>
        have HC := HP.out.play2 (by omega) kd n true
        generalize lenOf kd n2 = m2 at *
        go_wp2_with fail
        refine HC.mono ?_
        rintro e w3 ⟨rfl, HX⟩
        obtain ⟨T3, HQ⟩ := HX.out
        have HQ' : Hid (PP w T3 w3 s1 h1 B1 b1 s2 h2 B2 b2 o1 o2 n1 m2) := HQ
        clear HX HQ
        go_wp2
        go_roundw
        case rel => exact ⟨k + 1, T3, n1, m2, by omega, by go_num, by omega, by omega, HQ'⟩
        case measure => simp [intOf]; omega
    · have hge : ¬ (k : Int) < (sc.length : Int) := by omega
      have hln1 := lenOf_le 4 n1
      have hln2 := lenOf_le 4 n2
      go_wp2_with fail
      refine (HP.out.play1 (by omega) 4 0 false).mono ?_
      rintro e w3 ⟨rfl, HX⟩
      obtain ⟨T3, HQ⟩ := HX.out
      have HQ3 : Hid (PP w T3 w3 s1 h1 B1 b1 s2 h2 B2 b2 o1 o2 (lenOf 4 n1) n2) := HQ
      clear HX HQ
      go_wp2_with fail
      refine (HQ3.out.play2 (by omega) 4 0 false).mono ?_
      rintro e w4 ⟨rfl, HX⟩
      obtain ⟨T4, HQ⟩ := HX.out
      have HQ4 : Hid (PP w T4 w4 s1 h1 B1 b1 s2 h2 B2 b2 o1 o2 (lenOf 4 n1) (lenOf 4 n2)) := HQ
      clear HX HQ
      go_wp2_with fail
      refine (HQ4.out.drain1 (by omega)).mono ?_
      rintro e w5 ⟨rfl, HX⟩
      obtain ⟨T5, HQ⟩ := HX.out
      have HQ5 : Hid (PP w T5 w5 s1 h1 B1 b1 s2 h2 B2 b2 o1 o2 0 (lenOf 4 n2)) := HQ
      clear HX HQ
      go_wp2_with fail
      refine (HQ5.out.drain2 (by omega)).mono ?_
      rintro e w6 ⟨rfl, HX⟩
      obtain ⟨T6, HQ⟩ := HX.out
      have HQ6 : Hid (Below w.heap.size w w6) := HQ.old.below
      clear HX HQ
      go_wp2
      go_ret
      exact ⟨rfl, HQ6.out⟩

end Hp
end Go.Proofs.Ytodgomgacgoliaa
