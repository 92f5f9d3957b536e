import Derived.Test.YtffgngekhdceaaaDoorMl4
import Derived.Test.YtffgngekhdceaaaDoorMk0
namespace Go.Proofs.YtffgngekhdceaaaDoor
namespace Mnf
open Go.RowKit CMath Byt Cod Crw Irw Laws
set_option linter.unusedVariables false
set_option linter.unusedSimpArgs false
set_option maxRecDepth 20000
def tA : ByteArray := ⟨#[97]⟩
def e0 : Ed := ⟨2, 9, 300, [(0, 4)], [⟨1, 8, 455, 90, 1, tA, tA⟩], []⟩
def r0 : List Nat := [1, 2, 9, 172, 2, 1, 0, 4, 1, 1, 8, 199, 3, 90, 1, 1, 97, 1, 97, 0]
theorem ok0 : okE e0 := by
  have hA : tA.size = 1 := rfl
  refine ⟨⟨by decide, by decide, by decide⟩, fun p hp => ?_, fun p hp => ?_, fun s hs => by simp [e0] at hs, by simp [e0]⟩
  · simp [e0] at hp
    subst hp
    exact ⟨⟨by decide, by decide⟩, by decide⟩
  · simp [e0] at hp
    subst hp
    exact ⟨⟨⟨⟨by decide, by decide⟩, by decide⟩, ⟨by decide, by decide⟩, ⟨by decide, by decide⟩, ⟨by decide, by decide⟩⟩, by rw [hA]; omega, by rw [hA]; omega⟩
theorem n300 : num 300 = [172, 2] := by rw [num, if_neg (by omega), num_small (by omega)]
theorem n455 : num 455 = [199, 3] := by rw [num, if_neg (by omega), num_small (by omega)]
theorem puts0 : puts e0 = [r0] := by
  have hl : lastE e0 = true := rfl
  have hf : firstE e0 = e0 := rfl
  have hs : strB tA = [97] := rfl
  rw [puts_eq, hl, hf]
  have hr : recB true e0 = r0 := by
    unfold recB lstB e0 plB pdB keyB words
    simp only [hs, List.flatMap_cons, List.flatMap_nil, List.length_cons, List.length_nil]
    show 1 :: _ = _
    simp only [n300, n455, show num 2 = [2] from num_small (by omega), show num 9 = [9] from num_small (by omega), show num 1 = [1] from num_small (by omega), show num 0 = [0] from num_small (by omega), show num 4 = [4] from num_small (by omega), show num 8 = [8] from num_small (by omega), show num 90 = [90] from num_small (by omega), show (0 : Int).toNat = 0 from rfl, show (1 : Int).toNat = 1 from rfl, show (455 : Int).toNat = 455 from rfl, show (90 : Int).toNat = 90 from rfl, Nat.zero_add]
    rfl
  rw [hr]
  rfl
theorem gets0 : gets [r0] noE = some [e0] := by
  have h := gets_all [e0] [] (fun e he => by simp at he; subst he; exact ok0)
  simp only [List.flatMap_cons, List.flatMap_nil, List.append_nil, puts0] at h
  rw [h]
  rfl
end Mnf
end Go.Proofs.YtffgngekhdceaaaDoor
