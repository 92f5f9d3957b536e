import Derived.Test.YtbloifnibgdeoaaDSam
namespace Go.Proofs.Ytbloifnibgdeoaa
namespace Dsk
open Go.RowKit Go.Maps Go.Sort Byt Laws
set_option linter.unusedVariables false
set_option maxRecDepth 100000

def nA : ByteArray := ⟨#[97]⟩
def nX : ByteArray := ⟨#[120]⟩
def nY : ByteArray := ⟨#[121]⟩
def kn1 : Dm := ((newM 0 []).create nA).2
def kn2 : Dm := (kn1.append nA [120, 121, 122]).2
def kn3 : Dm := (kn2.sync nA).2
def kn4 : Dm := (kn3.append nA [117, 118]).2
theorem kn1_e : (newM 0 []).create nA = (0, kn1) := by kernel_rfl
theorem kn2_e : kn1.append nA [120, 121, 122] = (0, kn2) := by kernel_rfl
theorem kn3_e : kn2.sync nA = (0, kn3) := by kernel_rfl
theorem kn4_e : kn3.append nA [117, 118] = (0, kn4) := by kernel_rfl
theorem kn5_e : kn4.files = [⟨nA, [120, 121, 122, 117, 118], 3⟩] := by kernel_rfl
theorem kn6_e : kn4.image 0 [] = [] := by kernel_rfl
theorem kn7_e : kn4.image 1 [1] = [⟨nA, [120, 121, 122, 117], 4⟩] := by kernel_rfl
def kq0 : Dm := (newM 0 []).fail 1 2 2
def kq1 : Dm := (kq0.create nX).2
def kq2 : Dm := (kq1.append nX [49, 50, 51, 52, 53]).2
def kq3 : Dm := (kq2.delete nY).2
def kq4 : Dm := (kq3.delete nY).2
theorem kq1_e : kq0.create nX = (0, kq1) := by kernel_rfl
theorem kq2_e : kq1.append nX [49, 50, 51, 52, 53] = (31, kq2) := by kernel_rfl
theorem kq3_e : kq2.delete nY = (31, kq3) := by kernel_rfl
theorem kq4_e : kq3.delete nY = (34, kq4) := by kernel_rfl
theorem kq5_e : kq4.read nX = ([49, 50], 0) := by kernel_rfl
end Dsk
end Go.Proofs.Ytbloifnibgdeoaa
