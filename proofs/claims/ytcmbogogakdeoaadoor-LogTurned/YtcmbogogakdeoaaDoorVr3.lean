import Derived.Test.YtcmbogogakdeoaaDoorVr2
namespace Go.Proofs.YtcmbogogakdeoaaDoor
namespace Lgr
open Go.RowKit CMath Byt Cod Lg Lga Laws
set_option linter.unusedVariables false
set_option linter.unusedSimpArgs false
set_option maxRecDepth 20000

/-- what readRecord answers -/
def RcAns (w : World) (l : List Nat) (n : Nat) (e : Ending) (w' : World) : Prop := ((∃ v r, e = .returned (.tuple #[v, .int .i64 ((n + (app n r).length : Nat) : Int), .bool true]) ∧ Std l n r ∧ w'.ownsRow w.heap.size 5 1 v r.length (cellsB r) ∧ (∀ x ∈ r, x < 256)) ∨ (e = .returned (.tuple #[.slice none 0 0, .int .i64 0, .bool false]) ∧ ∀ r, ¬ Std l n r)) ∧ Below w.heap.size w w'
theorem beg_ge (n : Nat) : n ≤ beg n ∧ beg n ≤ n + 7 := by unfold beg; split <;> omega

set_option maxHeartbeats 2000000 in
theorem readRecord_any (cap L n : Nat) (l : List Nat) (w : World) (a : Option Addr) (ha : IsB w a l) (hna : a = none → cap = 0) (ht : Tab w) (hL : L = l.length) (hcap : L ≤ cap) (hmx : L ≤ 1000000000000) (hn : n ≤ L) :
    Calls Tryd.prog 16 #[.slice a L cap, .int .i64 (n : Int)] w fun e w' => RcAns w l n e w' := by
  obtain ⟨i8, hinf, hz0, hz1, hz2⟩ := info_parts info8
  have HI : Hid (IsB w a l) := ha
  have HN : Hid (a = none → cap = 0) := hna
  have HT : Hid (Tab w) := ht
  have HLL : Hid (L = l.length) := hL
  clear ha hna ht hL
  go_enter Tryd.func16, Tryd.ntmps16
  go_wp2_with fail
  refine (passZeros_any cap L n l w a HI.out HLL.out hn hcap (by omega)).mono ?_
  rintro e w1 ⟨x, o, rfl, hp, hw1⟩
  obtain rfl := hw1.symm
  clear hw1
  cases o with
  | false =>
    have hz := hp.2 rfl
    have HZ : Hid (¬ Zs l n) := hz
    clear hz hp
    go_wp2
    go_ret3
    exact ⟨.inr ⟨rfl, not_zs HZ.out⟩, Below.refl _ _⟩
  | true =>
    obtain ⟨rfl, hzz⟩ := hp.1 rfl
    have hbg := beg_ge n
    have hbl := beg_left n
    have HST : Hid ((Zs l n → At l n false (beg n) []) ∧ (¬ Zs l n → L < beg n)) := ⟨At.start, fun h => by rcases hzz with h1 | h1; exact absurd h1 h; rw [HLL.out]; exact h1⟩
    clear hp hzz
    go_wp2
    go_loopw [1, 8, 9] (fun vat v vb wr => ∃ (m : Nat) (acc : List Nat) (begun : Bool), vat = .int .i64 (m : Int) ∧ vb = .bool begun ∧ 8 ≤ 512 - m % 512 ∧ m ≤ L + 7 ∧ acc.length ≤ m ∧ Hid ((Zs l n → At l n begun m acc) ∧ (¬ Zs l n → L < m) ∧ wr.ownsRow w.heap.size 5 1 v acc.length (cellsB acc) ∧ (∀ x ∈ acc, x < 256) ∧ Below w.heap.size w wr)) (fun vat _ _ _ => L + 8 - (intOf vat).toNat)
    case atStart => exact ⟨beg n, [], false, rfl, rfl, hbl.1, by omega, Nat.zero_le _, HST.out.1, HST.out.2, World.ownsRow_nil _ _ _ _, by simp, Below.refl _ _⟩
    case round =>
      clear HST hbg hbl
      obtain ⟨m, acc, begun, rfl, rfl, h8, hmL, hacc, HX⟩ := hrel
      rename World => wr
      have hsz := HX.out.2.2.2.2.size
      go_wp2_with fail
      refine (readPiece_any cap L m l wr a begun (HI.out.below HX.out.2.2.2.2) HN.out (HT.out.below HX.out.2.2.2.2 HT.out.lt) HLL.out hcap (by omega) (by omega) h8).mono ?_
      rintro e w2 ⟨v2, en, o, rfl, h1, h2, hb2⟩
      have HB2 : Hid (Below wr.heap.size wr w2) := hb2
      cases o with
      | false =>
        have HNO : Hid (∀ r, ¬ Std l n r) := by
          by_cases hz : Zs l n
          · exact (HX.out.1 hz).none HI.out.2 h8 (h2 rfl).1 (h2 rfl).2
          · exact not_zs hz
        clear h1 h2 hb2
        go_wp2
        go_ret3
        exact ⟨.inr ⟨rfl, HNO.out⟩, HX.out.2.2.2.2.trans (HB2.out.mono hsz)⟩
      | true =>
        obtain ⟨hE, a2, c2, rfl, hI2, hna2⟩ := h1 rfl
        have h7 : 7 + hl (l.drop m) ≤ (l.drop m).length := by
          cases en
          · exact hE.1
          · exact hE.1
        have hfit := part_fits h7
        have hdl : (l.drop m).length = l.length - m := by simp
        have hz : Zs l n := by
          by_cases hz : Zs l n
          · exact hz
          · exfalso
            have h3 := HX.out.2.1 hz
            have h4 := HLL.out
            omega
        have hAt := HX.out.1 hz
        have hmf : m + 7 + (Lg.part (l.drop m)).length ≤ L := by have := HLL.out; omega
        have HI2 : Hid (IsB w2 a2 (Lg.part (l.drop m)) ∧ (a2 = none → c2 = 0)) := ⟨hI2.below HB2.out, hna2⟩
        have HO2 : Hid (w2.ownsRow w.heap.size 5 1 _ acc.length (cellsB acc) ∧ Below w.heap.size w w2) := ⟨own_below HX.out.2.2.1 HB2.out, HX.out.2.2.2.2.trans (HB2.out.mono hsz)⟩
        have hs2 := HB2.out.size
        cases en with
        | true =>
          have hend := hAt.ends HI.out.2 h8 hE
          have HEND : Hid (Std l n (acc ++ Lg.part (l.drop m)) ∧ n + (app n (acc ++ Lg.part (l.drop m))).length = m + 7 + (Lg.part (l.drop m)).length) := hend
          clear hend hAt hz hE h1 h2 hb2 h7 hfit hdl hI2 hna2
          generalize Lg.part (l.drop m) = pt at *
          go_wp2_with (at_builtin; refine wpList_appB (by rfl) (.tmp 31) (.tmp 32) 23 (by rfl) w.heap.size 5 i8 Tryd.underlying23 hinf hz0 hz1 hz2 _ acc acc.length (by rfl) HO2.out.1 a2 pt.length c2 pt (by rfl) rfl HI2.out.2 HI2.out.1 (by omega) (by omega) ?_; intro v3 w3 hown3 hgr3 hnn3; have HO3 : Hid (w3.ownsRow w.heap.size 5 1 v3 (acc.length + pt.length) (cellsB (acc ++ pt)) ∧ Below w.heap.size w w3) := ⟨hown3, below_of HO2.out.2 hgr3 (Nat.le_refl _) (fun j hj => (HO2.out.1.lt j hj).1)⟩; clear hown3 hgr3 hnn3)
          go_ret3
          refine ⟨.inl ⟨v3, acc ++ pt, ?_, HEND.out.1, by rw [List.length_append]; exact HO3.out.1, byte_app HX.out.2.2.2.1 HI2.out.1.2⟩, HO3.out.2⟩
          rw [HEND.out.2]
          simp
          try omega
        | false =>
          have hon := hAt.on HI.out.2 h8 hE
          have HON : Hid (At l n true (m + 7 + (Lg.part (l.drop m)).length) (acc ++ Lg.part (l.drop m))) := hon.1
          have hmod := hon.2
          have HZ : Hid (Zs l n) := hz
          clear hon hAt hz hE h1 h2 hb2 h7 hfit hdl hI2 hna2
          generalize Lg.part (l.drop m) = pt at *
          go_wp2_with (at_builtin; refine wpList_appB (by rfl) (.tmp 31) (.tmp 32) 23 (by rfl) w.heap.size 5 i8 Tryd.underlying23 hinf hz0 hz1 hz2 _ acc acc.length (by rfl) HO2.out.1 a2 pt.length c2 pt (by rfl) rfl HI2.out.2 HI2.out.1 (by omega) (by omega) ?_; intro v3 w3 hown3 hgr3 hnn3; have HO3 : Hid (w3.ownsRow w.heap.size 5 1 v3 (acc.length + pt.length) (cellsB (acc ++ pt)) ∧ Below w.heap.size w w3) := ⟨hown3, below_of HO2.out.2 hgr3 (Nat.le_refl _) (fun j hj => (HO2.out.1.lt j hj).1)⟩; clear hown3 hgr3 hnn3)
          go_roundw
          case rel => exact ⟨m + 7 + pt.length, acc ++ pt, true, by congr 1; omega, rfl, by omega, by omega, by simp; omega, fun _ => HON.out, fun h => absurd HZ.out h, by rw [List.length_append]; exact HO3.out.1, byte_app HX.out.2.2.2.1 HI2.out.1.2, HO3.out.2⟩
          case measure => simp [intOf]; omega

end Lgr
end Go.Proofs.YtcmbogogakdeoaaDoor
