import Derived.Test.YtcmbogogakdeoaaDoorSg1
import Derived.Test.YtcmbogogakdeoaaDoorVp2
import Derived.Test.YtcmbogogakdeoaaDoorLg6
import Derived.Test.YtcmbogogakdeoaaDoorVr4
import Derived.Test.YtcmbogogakdeoaaDoorLa2
import Derived.Test.YtcmbogogakdeoaaDoorSam
namespace Go.Proofs.YtcmbogogakdeoaaDoor
namespace Kwn
open Go.RowKit CMath Byt Cod Lg Lga Lgp Lgg Lgr Laws Grp Crw
set_option linter.unusedVariables false
set_option maxRecDepth 20000
set_option linter.unusedSimpArgs false

theorem num_any (n : Int) (w : World) :
    Calls Tryd.prog 9 #[.int .i64 n] w fun e w' => e = .returned (.int .i64 n) ∧ w' = w := by
  go_enter Tryd.func9, Tryd.ntmps9
  go_wp2
  go_ret
  exact ⟨rfl, rfl⟩
def kG : List (List W3) := [[(⟨#[97]⟩, false, ⟨#[49]⟩), (⟨#[98]⟩, true, ⟨#[]⟩)], []]
def kR : List Nat := [172, 2, 2, 2, 0, 1, 97, 1, 49, 1, 1, 98, 0]
theorem n1 {n : Nat} (h : n < 128) : num n = [n] := num_small h
theorem kput : putB 300 kG = kR := by
  have e300 : num 300 = [172, 2] := by rw [num_great (by omega), n1 (by omega)]
  have ea : words (strB ⟨#[97]⟩) = [1, 97] := by show num 1 ++ [97] = _; rw [n1 (by omega)]; rfl
  have eb : words (strB ⟨#[98]⟩) = [1, 98] := by show num 1 ++ [98] = _; rw [n1 (by omega)]; rfl
  have ec : words (strB ⟨#[49]⟩) = [1, 49] := by show num 1 ++ [49] = _; rw [n1 (by omega)]; rfl
  have w1 : wrB (⟨#[97]⟩, false, ⟨#[49]⟩) = [0, 1, 97, 1, 49] := by rw [wrB_false, ea, ec]; rfl
  have w2 : wrB (⟨#[98]⟩, true, ⟨#[]⟩) = [1, 1, 98] := by rw [wrB_true, eb]; rfl
  have b1 : batB [(⟨#[97]⟩, false, ⟨#[49]⟩), (⟨#[98]⟩, true, ⟨#[]⟩)] = [2, 0, 1, 97, 1, 49, 1, 1, 98] := by
    show num 2 ++ (wrB (⟨#[97]⟩, false, ⟨#[49]⟩) ++ (wrB (⟨#[98]⟩, true, ⟨#[]⟩) ++ [])) = _
    rw [w1, w2, n1 (by omega)]; rfl
  have b2 : batB [] = [0] := by show num 0 ++ [] = _; rw [n1 (by omega)]; rfl
  show num 300 ++ (num 2 ++ (batB [(⟨#[97]⟩, false, ⟨#[49]⟩), (⟨#[98]⟩, true, ⟨#[]⟩)] ++ (batB [] ++ []))) = kR
  rw [e300, b1, b2, n1 (by omega)]; rfl
theorem isB_lit (w : World) (l : List Nat) (T : TypeId) (h : ∀ x ∈ l, x < 256) : IsB (w.alloc (.cells (cellsB l).toArray T)) (some ⟨w.heap.size, 0, none⟩) l := by
  refine IsB.some ⟨by simp, fun i x hx => ?_⟩ h
  rw [World.cell?_alloc_at _ _ _ _ rfl, Nat.zero_add]
  simpa using cellsB_get hx
theorem kbulk : bulkG kG ≤ 32768 := by decide
theorem kget : getErr kR = 0 ∧ getN kR = 300 ∧ getGs kR = kG := by
  have h := get_put 300 kG (by omega) (by decide) (by
    intro ws hws
    simp [kG] at hws
    rcases hws with rfl | rfl
    · refine ⟨fun x hx => ?_, by simp⟩
      simp at hx
      rcases hx with rfl | rfl
      · exact ⟨by decide, by decide, fun _ => by decide⟩
      · exact ⟨by decide, by decide, fun h => by cases h⟩
    · exact ⟨by simp, by simp⟩) (by decide)
  rw [kput] at h
  exact h
theorem klen : (app 0 kR).length = 20 := by
  unfold app
  rw [if_neg (by omega), lay_end (by decide), pie_length]
  rfl
theorem kreads {rs : List (List Nat)} (h : Reads (app 0 kR) rs) : rs = [kR] := by
  have hb : ∀ x ∈ app 0 kR, x < 256 := app_byte (by decide)
  have e : laidF [] [kR] = app 0 kR := by simp [laidF]
  have h2 := back_all [kR]
  rw [e] at h2
  exact h.uniq hb h2
abbrev bx1 : Obj := .cells #[.string ⟨#[97]⟩, .bool false, .string ⟨#[49]⟩, .string ⟨#[98]⟩, .bool true, .string ⟨#[]⟩] 40
abbrev bx2 (g : Nat) : Obj := .cells #[.slice (some ⟨g, 0, none⟩) 2 2, .slice none 0 0] 41
theorem isG_lit (w : World) : IsG ((w.alloc bx1).alloc (bx2 w.heap.size)) (some ⟨w.heap.size + 1, 0, none⟩) kG := by
  have hsz : (w.alloc bx1).heap.size = w.heap.size + 1 := by simp
  have hc : ∀ (j : Nat) (u : Value), #[Value.slice (some ⟨w.heap.size, 0, none⟩) 2 2, Value.slice none 0 0][j]? = some u → ((w.alloc bx1).alloc (bx2 w.heap.size)).cell? ⟨w.heap.size + 1, j, none⟩ = some u := fun j u hu => by
    rw [← hsz, World.cell?_alloc_at _ _ _ _ rfl]; exact hu
  have hd : ∀ (j : Nat) (u : Value), #[Value.string ⟨#[97]⟩, .bool false, .string ⟨#[49]⟩, .string ⟨#[98]⟩, .bool true, .string ⟨#[]⟩][j]? = some u → ((w.alloc bx1).alloc (bx2 w.heap.size)).cell? ⟨w.heap.size, j, none⟩ = some u := fun j u hu => by
    refine (((Below.refl (w.alloc bx1).heap.size _).alloc (Nat.le_refl _) (bx2 w.heap.size)).cell (p := ⟨w.heap.size, j, none⟩) (by simp)).trans ?_
    rw [World.cell?_alloc_at _ _ _ _ rfl]; exact hu
  refine ⟨[(some ⟨w.heap.size, 0, none⟩, 2, 2), (none, 0, 0)], rfl, fun _ => ⟨w.heap.size + 1, 0, rfl, by simp, fun i v hv j u hu => ?_⟩, fun i v ws hv hw => ?_⟩
  · have hj : j = 0 ∧ u = .slice v.1 v.2.1 v.2.2 := by
      cases j with
      | zero => exact ⟨rfl, (Option.some.inj hu).symm⟩
      | succ j => simp [kS] at hu
    obtain ⟨rfl, rfl⟩ := hj
    have e : 0 + i * kS.size + 0 = i := by show 0 + i * 1 + 0 = i; omega
    rw [e]
    match i, hv with
    | 0, hv => cases hv; exact hc 0 _ rfl
    | 1, hv => cases hv; exact hc 1 _ rfl
    | i + 2, hv => simp at hv
  · match i, hv, hw with
    | 0, hv, hw =>
      cases hv
      simp [kG] at hw
      subst hw
      refine ⟨rfl, fun _ => ⟨w.heap.size, 0, rfl, by simp; omega, fun i x hx => ?_⟩, by unfold maxLen; simp, fun x hx => ?_⟩
      · match i, hx with
        | 0, hx => cases hx; exact ⟨hd 0 _ rfl, hd 1 _ rfl, hd 2 _ rfl⟩
        | 1, hx => cases hx; exact ⟨hd 3 _ rfl, hd 4 _ rfl, hd 5 _ rfl⟩
        | i + 2, hx => simp at hx
      · simp at hx
        rcases hx with rfl | rfl <;> (unfold maxLen; decide)
    | 1, hv, hw =>
      cases hv
      simp [kG] at hw
      subst hw
      exact ⟨rfl, fun h => absurd rfl h, by simp, by simp⟩
    | i + 2, hv, hw => simp at hv

set_option maxHeartbeats 2000000 in
theorem known_any (w : World) (ht : Tab w) :
    Calls Tryd.prog 5 #[] w fun e w' => e = .returned (.bool true) ∧ Below w.heap.size w w' := by
  have HT : Hid (Tab w) := ht
  have hlt := ht.lt
  clear ht
  go_enter Tryd.func5, Tryd.ntmps5
  go_wp2_with fail
  refine (put_any 300 (some ⟨w.heap.size + 1, 0, none⟩) 2 2 kG _ (by omega) rfl (isG_lit w) kbulk).mono ?_
  rintro e w1 ⟨v1, rfl, ho1, hb1⟩
  rw [kput] at ho1
  obtain ⟨g1, c1, rfl, hg1, hgs1, hc1, hI1⟩ := ho1.isB
  have hc1m : c1 ≤ 9223372036854775807 := by
    obtain ⟨a', c', e', hnw⟩ := New.ofOwn ho1
    injection e' with _ _ e3
    rw [e3]; exact hnw.max
  have hbw1 : Below w.heap.size w w1 := (((Below.refl _ _).alloc (Nat.le_refl _) _).alloc (by simp) _).trans (hb1.mono (by simp; omega))
  have hG1 : IsG w1 (some ⟨w.heap.size + 1, 0, none⟩) kG := (isG_lit w).below hb1
  have H1 : Hid (IsB w1 (some ⟨g1, 0, none⟩) kR ∧ IsG w1 (some ⟨w.heap.size + 1, 0, none⟩) kG ∧ Below w.heap.size w w1) := ⟨hI1, hG1, hbw1⟩
  have hk13 : kR.length = 13 := rfl
  rw [hk13] at hc1
  clear ho1 hb1 hI1 hbw1 hG1
  go_wp2_with fail
  refine (same_any (some ⟨g1, 0, none⟩) (some ⟨w1.heap.size, 0, none⟩) c1 13 _ _ kR _ (H1.out.1.below ((Below.refl _ _).alloc (Nat.le_refl _) _)) (isB_lit w1 kR 5 (by decide)) (by rw [hk13]; omega) (by rw [hk13]) (by rw [hk13])).mono ?_
  rintro e w' ⟨rfl, d2, rfl⟩
  have hB2 : Below w1.heap.size w1 ((w1.alloc (.cells (cellsB kR).toArray 5)).drewN d2) := below_drewN ((Below.refl _ _).alloc (Nat.le_refl _) _) _
  have H2 : Hid (IsB ((w1.alloc (.cells (cellsB kR).toArray 5)).drewN d2) (some ⟨g1, 0, none⟩) kR ∧ IsG ((w1.alloc (.cells (cellsB kR).toArray 5)).drewN d2) (some ⟨w.heap.size + 1, 0, none⟩) kG ∧ Below w.heap.size w ((w1.alloc (.cells (cellsB kR).toArray 5)).drewN d2)) := ⟨H1.out.1.below hB2, H1.out.2.1.below hB2, H1.out.2.2.trans (hB2.mono H1.out.2.2.size)⟩
  have hg2 : g1 < ((w1.alloc (.cells (cellsB kR).toArray 5)).drewN d2).heap.size := Nat.lt_of_lt_of_le hgs1 hB2.size
  generalize (w1.alloc (.cells (cellsB kR).toArray 5)).drewN d2 = w2 at *
  clear hB2 H1 hgs1
  go_wp2_with fail
  refine (append_any 0 (some ⟨g1, 0, none⟩) c1 13 kR w2 H2.out.1 (by simp) (by rw [hk13]; exact hc1) hc1m (HT.out.below H2.out.2.2 HT.out.lt) rfl (by rw [hk13]; omega) (by omega)).mono ?_
  rintro e w3 ⟨v3, rfl, ho3, hb3⟩
  have ho3' : Own 5 w2.heap.size w3 v3 (app 0 kR) := ho3
  obtain ⟨g3, c3, rfl, hg3, hgs3, hc3, hI3⟩ := ho3'.isB
  rw [klen] at hc3
  have H3 : Hid (IsB w3 (some ⟨g3, 0, none⟩) (app 0 kR) ∧ IsB w3 (some ⟨g1, 0, none⟩) kR ∧ IsG w3 (some ⟨w.heap.size + 1, 0, none⟩) kG ∧ Below w.heap.size w w3) := ⟨hI3, H2.out.1.below hb3, H2.out.2.1.below hb3, H2.out.2.2.trans (hb3.mono H2.out.2.2.size)⟩
  have hg1w : g1 < w3.heap.size := Nat.lt_of_lt_of_le hg2 hb3.size
  clear ho3 ho3' hb3 hI3 H2 hg2
  simp only [klen]
  go_wp2_with fail
  refine (read_any c3 20 (app 0 kR) w3 (some ⟨g3, 0, none⟩) H3.out.1 (by simp) (HT.out.below H3.out.2.2.2 HT.out.lt) klen.symm hc3 (by omega)).mono ?_
  rintro e w4 ⟨rs, a4, c4, rfl, hrd, hic, hle4, hn4, hm4, hrl, hb4⟩
  obtain rfl := kreads hrd
  obtain ⟨b5, off5, ad5, c5, rfl, hs5, x5, hI5, hn5, hl5, hm5, hf5⟩ := hic.rd (k := 0) (by simp)
  simp only [List.getD_cons_zero] at x5 hI5 hl5 hf5
  rw [hk13, Nat.add_zero] at x5
  have e4 : (laidF [] [kR]).length = 20 := by simp only [laidF, List.foldl_cons, List.foldl_nil, List.nil_append, List.length_nil]; exact klen
  have H4 : Hid (IsB w4 ad5 kR ∧ IsB w4 (some ⟨g1, 0, none⟩) kR ∧ IsG w4 (some ⟨w.heap.size + 1, 0, none⟩) kG ∧ Below w.heap.size w w4) := ⟨hI5, H3.out.2.1.below hb4, H3.out.2.2.1.below hb4, H3.out.2.2.2.trans (hb4.mono H3.out.2.2.2.size)⟩
  rw [e4, klen, if_pos rfl]
  simp only [List.length_cons, List.length_nil]
  clear hrd hic hb4 hI5 H3 hrl e4
  go_wp2_with (first
    | (go_at_call 12; refine (same_any ad5 (some ⟨g1, 0, none⟩) c5 c1 _ _ kR w4 H4.out.1 H4.out.2.1 (by rw [hk13]; omega) (by rw [hk13]) (by rw [hk13])).mono ?_; rintro e w5 ⟨rfl, d5, hw5⟩; have hb5 : Below w4.heap.size w4 w5 := (by rw [hw5]; exact below_drewN (Below.refl _ _) _); have H5 : Hid (IsB w5 ad5 kR ∧ IsG w5 (some ⟨w.heap.size + 1, 0, none⟩) kG ∧ Below w.heap.size w w5 ∧ w4.heap.size ≤ w5.heap.size) := ⟨H4.out.1.below hb5, H4.out.2.2.1.below hb5, H4.out.2.2.2.trans (hb5.mono H4.out.2.2.2.size), hb5.size⟩; have y5 : w5.cell? ⟨b5, off5, none⟩ = some (.slice ad5 13 c5) := (hb5.cell (p := ⟨b5, off5, none⟩) hs5).trans x5; clear hw5 hb5 x5)
    | (go_at_call 9; refine (num_any _ _).mono ?_; rintro e w6 ⟨rfl, hw6⟩; obtain rfl := hw6.symm)
    | (go_at_call 14; refine (get_any ad5 c5 13 kR w5 H5.out.1 rfl hl5 hm5 (by rcases hf5 with ⟨h1, h2⟩ | ⟨b, off, h1, h2⟩; exact absurd h2 (by decide); exact .inr ⟨b, off, h1, Nat.lt_of_lt_of_le h2 H5.out.2.2.2⟩) (by rw [hk13]; omega)).mono ?_; rintro e w7 ⟨v7, rfl, hb7, a7, c7, hv7, hG7, hl7⟩; have e1 := kget.1; have e2 := kget.2.1; have e3 := kget.2.2; have hv8 : v7 = .slice a7 2 c7 := (by rw [hv7, e3]; rfl); rw [e3] at hG7; subst hv8; rw [e1, e2]; have H7 : Hid (IsG w7 a7 kG ∧ IsG w7 (some ⟨w.heap.size + 1, 0, none⟩) kG ∧ Below w.heap.size w w7) := ⟨hG7, H5.out.2.1.below hb7, H5.out.2.2.1.trans (hb7.mono H5.out.2.2.1.size)⟩; clear hG7 hb7 hv7 hl7 e1 e2 e3)
    | (go_at_call 15; refine (sameGroups_any a7 (some ⟨w.heap.size + 1, 0, none⟩) c7 2 _ _ kG w7 H7.out.1 H7.out.2.1 rfl rfl (by decide)).mono ?_; rintro e w8 ⟨rfl, d8, hw8⟩; have H8 : Hid (Below w.heap.size w w8) := (by rw [hw8]; exact below_drewN H7.out.2.2 _); clear hw8))
  go_ret
  exact ⟨rfl, H8.out⟩

end Kwn
end Go.Proofs.YtcmbogogakdeoaaDoor
