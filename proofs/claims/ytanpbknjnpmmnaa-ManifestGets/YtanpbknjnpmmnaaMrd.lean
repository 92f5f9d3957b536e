import Derived.Test.YtanpbknjnpmmnaaMra
import Derived.Test.YtanpbknjnpmmnaaMrb
import Derived.Test.YtanpbknjnpmmnaaMrc
namespace Go.Proofs.Ytanpbknjnpmmnaa
namespace Mnf
open Go.RowKit CMath Byt Cod Crw Irw Laws
set_option linter.unusedVariables false
/-- what readRecord answers -/
def RecIs (o : Option (Bool × Ed)) (w : World) (e : Ending) (w' : World) : Prop := (∃ last ed, o = some (last, ed) ∧ RecOk last ed w e w') ∨ (o = none ∧ RecNo w e w')
theorem readRecord_any (a : Option Addr) (L c : Nat) (l : List Nat) (w : World) (h : IsB w a l) (hL : l.length = L) (hLc : L ≤ c) (hm : c ≤ 9223372036854775807) :
    Calls Try.prog 16 #[.slice a L c] w fun e w' => RecIs (rdRec l) w e w' := by
  cases l with
  | nil =>
    obtain rfl : L = 0 := by simpa using hL.symm
    exact (readRecord_nil a c w hm).mono fun e w' hp => .inr ⟨rfl, hp⟩
  | cons x r0 =>
    have hL' : r0.length + 1 = L := by simpa using hL
    by_cases hx : x ≠ 0 ∧ x ≠ 1
    · refine (readRecord_byte a L c x r0 w h hL' hLc hm hx.1 hx.2).mono fun e w' hp => .inr ⟨?_, hp⟩
      unfold rdRec
      simp [hx.1, hx.2]
    · obtain ⟨last, hlast⟩ : ∃ last : Bool, x = bit last := by
        by_cases h0 : x = 0
        · exact ⟨false, by rw [h0]; rfl⟩
        · by_cases h1 : x = 1
          · exact ⟨true, by rw [h1]; rfl⟩
          · exact absurd ⟨h0, h1⟩ hx
      subst hlast
      have hrec : rdRec (bit last :: r0) = (rdBody last r0).map fun e => (last, e) := by cases last <;> rfl
      have no : ∀ {e w'}, rdBody last r0 = none → RecNo w e w' → RecIs (rdRec (bit last :: r0)) w e w' := fun hb hp => .inr ⟨by rw [hrec, hb]; rfl, hp⟩
      cases h1 : rdRo r0 with
      | none => exact (readRecord_ro a L c last r0 w h hL' hLc hm h1).mono fun e w' hp => no (by unfold rdBody; rw [h1]; rfl) hp
      | some v1 =>
        obtain ⟨⟨x, y, z⟩, r1⟩ := v1
        cases h2 : rdLst rdPl 256 r1 with
        | none => exact (readRecord_out a L c last r0 w h hL' hLc hm x y z r1 h1 h2).mono fun e w' hp => no (by unfold rdBody; rw [h1]; simp only [Option.bind_some]; rw [h2]; rfl) hp
        | some v2 =>
          obtain ⟨os, r2⟩ := v2
          cases h3 : rdLst rdPd (256 - os.length) r2 with
          | none => exact (readRecord_inn a L c last r0 w h hL' hLc hm x y z r1 h1 os r2 h2 h3).mono fun e w' hp => no (by unfold rdBody; rw [h1]; simp only [Option.bind_some]; rw [h2]; simp only [Option.bind_some]; rw [h3]; rfl) hp
          | some v3 =>
            obtain ⟨is, r3⟩ := v3
            cases h4 : rdLst rdK 5 r3 with
            | none => exact (readRecord_ptr a L c last r0 w h hL' hLc hm x y z r1 h1 os r2 h2 is r3 h3 h4).mono fun e w' hp => no (by unfold rdBody; rw [h1]; simp only [Option.bind_some]; rw [h2]; simp only [Option.bind_some]; rw [h3]; simp only [Option.bind_some]; rw [h4]; rfl) hp
            | some v4 =>
              obtain ⟨ps, r4⟩ := v4
              have hbody : rdBody last r0 = if r4 ≠ [] ∨ (last = false ∧ ¬ (os.length + is.length = 256 ∧ ps = [])) then none else some ⟨x, y, z, os, is, ps⟩ := by
                unfold rdBody
                rw [h1]; simp only [Option.bind_some]; rw [h2]; simp only [Option.bind_some]; rw [h3]; simp only [Option.bind_some]; rw [h4]; simp only [Option.bind_some]
              by_cases h5 : r4 = []
              · cases last with
                | true =>
                  refine (readRecord_ok1 a L c true r0 w h hL' hLc hm x y z r1 h1 os r2 h2 is r3 h3 ps r4 h4 h5 rfl).mono fun e w' hp => .inl ⟨_, _, ?_, hp⟩
                  rw [hrec, hbody, if_neg (by simp [h5])]
                  rfl
                | false =>
                  by_cases h7 : os.length + is.length = 256 ∧ ps = []
                  · refine (readRecord_ok0 a L c false r0 w h hL' hLc hm x y z r1 h1 os r2 h2 is r3 h3 ps r4 h4 h5 rfl h7).mono fun e w' hp => .inl ⟨_, _, ?_, hp⟩
                    rw [hrec, hbody, if_neg (by rintro (g | ⟨_, g⟩); exact g h5; exact g h7)]
                    rfl
                  · exact (readRecord_full a L c false r0 w h hL' hLc hm x y z r1 h1 os r2 h2 is r3 h3 ps r4 h4 h5 rfl h7).mono fun e w' hp => no (by rw [hbody, if_pos (.inr ⟨rfl, h7⟩)]) hp
              · exact (readRecord_more a L c last r0 w h hL' hLc hm x y z r1 h1 os r2 h2 is r3 h3 ps r4 h4 h5).mono fun e w' hp => no (by rw [hbody, if_pos (.inl h5)]) hp
end Mnf
end Go.Proofs.Ytanpbknjnpmmnaa
