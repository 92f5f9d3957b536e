import Derived.Test.YtpappjcbeibhiaaEp8
namespace Go.Proofs.Ytpappjcbeibhiaa
namespace Ehp
open Go.RowKit Laws Irw Erw
open Hp (swp swp_length swp_perm Ord Heapy Up Dn fore fore1 fore_lt fore_ge goes_drew goes_drewN above_any below_drewN cutL cutL_length cutL_perm)
set_option linter.unusedVariables false
set_option maxRecDepth 100000
set_option linter.unusedSimpArgs false

def PopIs (f : En → En → Bool) (t : Nat) (T : Nat → Nat) (w : World) (h B : Nat) (o : Bool) (l : List En) (w' : World) : Prop :=
  ∃ l', HeapE t T w' h B o l' ∧ Goes (fun x => x = t ∨ x = t + 1) T w T w' ∧ (l.getD 0 ez :: l').Perm l ∧ (Ord f → Heapy f ez l → Heapy f ez l')
theorem Goes.setR {t : Nat → Prop} {T T' : Nat → Nat} {w w' : World} (h : Goes t T w T' w') {R j : Nat} (hR : w.heap.size ≤ R) (v : Value) : Goes t T w T' (w'.setCell ⟨R, j, none⟩ v) :=
  ⟨h.os, h.tape, h.output, by simpa using h.size, fun b hb ht => (Below.heap_setCell w' _ v b (fun e => by simp at e; omega)).trans (h.block b hb ht), h.tag, fun b hb h0 => h.high b (by simpa using hb) h0⟩
theorem PopIs.setR {f : En → En → Bool} {t : Nat} {T : Nat → Nat} {w : World} {h B : Nat} {o : Bool} {l : List En} {w' : World} (hp : PopIs f t T w h B o l w') {R : Nat} (hT : T R = 0) (ht : 0 < t) (hR : w.heap.size ≤ R) (j : Nat) (v : Value) : PopIs f t T w h B o l (w'.setCell ⟨R, j, none⟩ v) := by
  obtain ⟨l', h1, h2, h3, h4⟩ := hp
  exact ⟨l', h1.goes (Goes.setCell (t := (· = 0)) (T := T) (p := R) hT) (by omega) (by omega) (by omega), Goes.setR h2 hR v, h3, h4⟩
theorem sinkE_all (s : Nat) (T : Nat → Nat) (w : World) (h B : Nat) (o : Bool) (hd : DirsE s T w h B o) (gl n c : Nat) (l : List En) (ho : OwnE s T w (.slice (some ⟨gl, 0, none⟩) n c) l) (hl : l.length ≤ 100000000000) :
    Calls Try.prog 19 #[.slice (some ⟨gl, 0, none⟩) n c, .func (.func 17) #[.pointer (some ⟨h, 0, none⟩)] #[]] w fun e w' => e = .returned (.tuple #[]) ∧ SinkIs (lessE o) s T w (.slice (some ⟨gl, 0, none⟩) n c) l w' := by
  have hn := ho.isE.2.1
  by_cases h0 : 0 < l.length
  · exact sinkE_any s T w h B o hd gl n c l ho hn h0 hl
  · have hz : n = 0 := by omega
    subst hz
    refine (sinkE_nil w _ c _).mono ?_
    rintro e w' ⟨rfl, rfl⟩
    refine ⟨rfl, l, ho, Goes.refl _ _ _, List.Perm.refl _, fun _ _ i _ hi => ?_⟩
    omega
theorem clear_last (t : Nat) (T : Nat → Nat) (W3 : World) (gl m c h : Nat) (l : List En) (HO : OwnE (t + 1) T W3 (.slice (some ⟨gl, 0, none⟩) (m + 1) c) l) (hm : l.length = m + 1) (hTg : T gl = t + 1) (hTh : T h = t) (hlth : h < W3.heap.size) (hc : W3.cell? ⟨h, 1, none⟩ = some (.slice (some ⟨gl, 0, none⟩) (m + 1) c)) (hfh : W3.frozen? ⟨h, 1, none⟩ = false) (yk : ByteArray) (ys : Int) (yd : Bool) (yv : ByteArray) (HCut : (l.set 0 (yk, ys, yd, yv)).take m = cutL ez l) :
    ∃ w6 : World, (∀ ty, (Builtin.clear_ #[22] ty #[.slice (some ⟨gl, m * 4, none⟩) 1 (c - m)]).run Try.prog ((((W3.setCell ⟨gl, 0, none⟩ (.string yk)).setCell ⟨gl, 1, none⟩ (.int .u64 ys)).setCell ⟨gl, 2, none⟩ (.bool yd)).setCell ⟨gl, 3, none⟩ (.string yv)).drew = .ok (.tuple #[]) w6) ∧ Hid (OwnE (t + 1) T w6 (.slice (some ⟨gl, 0, none⟩) m c) (cutL ez l) ∧ Goes (· = t + 1) T W3 T w6) ∧ w6.cell? ⟨h, 1, none⟩ = some (.slice (some ⟨gl, 0, none⟩) (m + 1) c) ∧ w6.frozen? ⟨h, 1, none⟩ = false := by
  have k1 : OwnE (t + 1) T ((((W3.setCell ⟨gl, 0, none⟩ (.string yk)).setCell ⟨gl, 1, none⟩ (.int .u64 ys)).setCell ⟨gl, 2, none⟩ (.bool yd)).setCell ⟨gl, 3, none⟩ (.string yv)) (.slice (some ⟨gl, 0, none⟩) (m + 1) c) (l.set 0 (yk, ys, yd, yv)) := HO.set 0 (yk, ys, yd, yv) (by rw [hm]; omega)
  have g1 : Goes (· = t + 1) T W3 T ((((W3.setCell ⟨gl, 0, none⟩ (.string yk)).setCell ⟨gl, 1, none⟩ (.int .u64 ys)).setCell ⟨gl, 2, none⟩ (.bool yd)).setCell ⟨gl, 3, none⟩ (.string yv)) := goes4 (i := 0) (e := (yk, ys, yd, yv)) hTg
  generalize (((W3.setCell ⟨gl, 0, none⟩ (.string yk)).setCell ⟨gl, 1, none⟩ (.int .u64 ys)).setCell ⟨gl, 2, none⟩ (.bool yd)).setCell ⟨gl, 3, none⟩ (.string yv) = W4 at *
  have k2 := (own_drewE k1).set m ez (by rw [List.length_set, hm]; omega)
  have hr4 := at0 (rowOf k1 (by rw [List.length_set, hm]; omega)) (i := m) (by rw [List.length_set, hm]; omega)
  have g3 := (goes_drew g1).trans (goes4 (w := W4.drew) (i := m) (e := ez) hTg)
  refine ⟨_, fun ty => run_clear_one (P := Try.prog) W4.drew 22 28 ty _ _ _ _ _ undE zeroE rfl (by intro v hv; simp at hv; rcases hv with rfl | rfl | rfl | rfl <;> rfl) gl (m * 4) (c - m) ?_ ?_, ⟨?_, g3⟩, ?_, ?_⟩
  · intro j hj
    rcases (show j = 0 ∨ j = 1 ∨ j = 2 ∨ j = 3 by omega) with rfl | rfl | rfl | rfl
    · exact Option.isSome_iff_exists.2 ⟨_, hr4.1⟩
    · exact Option.isSome_iff_exists.2 ⟨_, hr4.2.1⟩
    · exact Option.isSome_iff_exists.2 ⟨_, hr4.2.2.1⟩
    · exact Option.isSome_iff_exists.2 ⟨_, hr4.2.2.2⟩
  · exact fun j _ => k1.frozen _
  · have k3 := k2.cut (k := m) (by simp only [List.length_set, hm]; omega)
    rw [List.take_set_of_le (Nat.le_refl _), HCut] at k3
    exact k3
  · exact (g3.cell hlth (by rw [hTh]; omega)).trans hc
  · exact (World.frozen?_of_block (a := ⟨h, 1, none⟩) (g3.block h hlth (by rw [hTh]; omega))).trans hfh
end Ehp
end Go.Proofs.Ytpappjcbeibhiaa
