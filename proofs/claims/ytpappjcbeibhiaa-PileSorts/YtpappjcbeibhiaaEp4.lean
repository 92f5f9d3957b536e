import Derived.Test.YtpappjcbeibhiaaEp3
import Derived.Deep.RegionHeld3
namespace Go.Proofs.Ytpappjcbeibhiaa
namespace Ehp
open Go.RowKit Laws Irw Erw
open Hp (swp swp_length swp_perm Ord Heapy Up Dn fore fore1 fore_lt fore_ge goes_drew goes_drewN above_any below_drewN)
set_option linter.unusedVariables false
set_option maxRecDepth 100000
set_option linter.unusedSimpArgs false

/-- The order of a heap lies outside the blocks of tag s. -/
structure DirsE (s : Nat) (T : Nat → Nat) (w : World) (h B : Nat) (o : Bool) : Prop where
  dir : DirE w h B o
  tagh : T h ≠ s
  tagB : T B ≠ s
theorem DirsE.goes {s : Nat} {T T' : Nat → Nat} {w w' : World} {h B : Nat} {o : Bool} (d : DirsE s T w h B o) (hg : Goes (· = s) T w T' w') : DirsE s T' w' h B o :=
  ⟨⟨(hg.cell d.dir.lth d.tagh).trans d.dir.less, (hg.cell d.dir.ltB d.tagB).trans d.dir.cap, Nat.lt_of_lt_of_le d.dir.lth hg.size, Nat.lt_of_lt_of_le d.dir.ltB hg.size⟩, by rw [hg.tag h d.dir.lth d.tagh]; exact d.tagh, by rw [hg.tag B d.dir.ltB d.tagB]; exact d.tagB⟩
theorem own_drewNE {s : Nat} {T : Nat → Nat} {w : World} {v : Value} {l : List En} (h : OwnE s T w v l) (q : Nat) : OwnE s T (w.drewN q) v l := h

theorem keepB {w W w' : World} (hb : Below W.heap.size W w') (h : Below w.heap.size w W) : Below w.heap.size w w' := h.trans (hb.mono h.size)
theorem keep8 {wr W w' : World} {P : World → Prop} (hP : ∀ V, Below wr.heap.size wr V → P V) (h : Below wr.heap.size wr W ∧ P W) (hb : Below W.heap.size W w') : Below wr.heap.size wr w' ∧ P w' := ⟨keepB hb h.1, hP _ (keepB hb h.1)⟩
/-- What sifting up keeps. -/
def Risen (f : En → En → Bool) (l l' : List En) (k : Nat) : Prop := l'.Perm l ∧ (Ord f → Up f ez l (l.length - 1) → Up f ez l' k)
def RiseIs (f : En → En → Bool) (s : Nat) (T : Nat → Nat) (w : World) (v : Value) (l : List En) (w' : World) : Prop :=
  ∃ l', OwnE s T w' v l' ∧ Goes (· = s) T w T w' ∧ l'.Perm l ∧ (Ord f → Up f ez l (l.length - 1) → Heapy f ez l')
def SinkIs (f : En → En → Bool) (s : Nat) (T : Nat → Nat) (w : World) (v : Value) (l : List En) (w' : World) : Prop :=
  ∃ l', OwnE s T w' v l' ∧ Goes (· = s) T w T w' ∧ l'.Perm l ∧ (Ord f → Dn f ez l 0 → Heapy f ez l')

set_option maxHeartbeats 4000000 in
theorem riseE_any (s : Nat) (T : Nat → Nat) (w : World) (h B : Nat) (o : Bool) (hd : DirsE s T w h B o) (gl n c : Nat) (l : List En) (ho : OwnE s T w (.slice (some ⟨gl, 0, none⟩) n c) l) (hn : n = l.length) (h0 : 0 < l.length) (hl : l.length ≤ 100000000000) :
    Calls Try.prog 16 #[.slice (some ⟨gl, 0, none⟩) n c, .func (.func 17) #[.pointer (some ⟨h, 0, none⟩)] #[]] w fun e w' => e = .returned (.tuple #[]) ∧ RiseIs (lessE o) s T w (.slice (some ⟨gl, 0, none⟩) n c) l w' := by
  have HD : Hid (DirsE s T w h B o) := hd
  have HO : Hid (OwnE s T w (.slice (some ⟨gl, 0, none⟩) n c) l) := ho
  have hw0 : IntKind.i64.wrap ((n : Int) - 1) = ((n - 1 : Nat) : Int) := by rw [IntWalk.i64_in _ (by omega)]; omega
  have HN : Hid (n = l.length) := hn
  have hnl : n ≤ 100000000000 := by omega
  have hn0 : 0 < n := by omega
  clear hd ho hn
  go_enter Try.func16, Try.ntmps16
  go_wp2
  go_loopw [4] (fun at_ wr => ∃ (k : Nat) (l' : List En), at_ = .int .i64 (k : Int) ∧ k < n ∧ Hid (l'.length = n) ∧ Hid (DirsE s T wr h B o) ∧ Hid (OwnE s T wr (.slice (some ⟨gl, 0, none⟩) n c) l') ∧ Hid (Goes (· = s) T w T wr) ∧ Hid (Risen (lessE o) l l' k)) (fun at_ _ => (intOf at_).toNat)
  case atStart => exact ⟨n - 1, l, by simp [hw0], by omega, HN.out.symm, HD, HO, Goes.refl _ _ _, List.Perm.refl _, by rw [HN.out]; exact fun _ z => z⟩
  case round =>
    clear HD HO
    obtain ⟨k, l', rfl, hk, HN', HD, HO, HG, HR⟩ := hrel
    have hgl : gl < wr.heap.size := (rowOf HO.out (by rw [HN'.out]; omega)).1
    have hrw : ERow wr gl 0 l' := rowOf HO.out (by rw [HN'.out]; omega)
    by_cases hk0 : k = 0
    · subst hk0
      have HF : Hid (RiseIs (lessE o) s T w (.slice (some ⟨gl, 0, none⟩) n c) l wr) := ⟨l', HO.out, HG.out, HR.out.1, fun ho hu => (HR.out.2 ho hu).done (.inl rfl)⟩
      go_wp2
      go_quiet (fail)
      go_wp2
      go_end0
      obtain ⟨l9, k1, k2, k3, k4⟩ := HF.out
      exact ⟨rfl, l9, own_drewNE k1 _, goes_drewN k2 _, k3, k4⟩
    · have hp : (k - 1) / 2 < n := by omega
      have hkp : 0 < k := by omega
      have d1 : (0 : Int) < (k : Int) := by omega
      have d2 : decide ((0 : Int) < (k : Int)) = true := decide_eq_true d1
      have d2' : decide (0 < k) = true := decide_eq_true hkp
      have d3 : (k : Int) < (n : Int) := by omega
      have d4 : (((k - 1) / 2 : Nat) : Int) < (n : Int) := by omega
      obtain ⟨k0, k1, k2, k3⟩ := at0 hrw (i := k) (by rw [HN'.out]; exact hk)
      obtain ⟨p0, p1, p2, p3⟩ := at0 hrw (i := (k - 1) / 2) (by rw [HN'.out]; exact hp)
      have HAb : Hid (∀ W, Calls Try.prog 26 #[.int .i64 (k : Int)] W fun e w' => e = .returned (.int .i64 (((k - 1) / 2 : Nat) : Int)) ∧ w' = W) := fun W => above_any k W hkp (by omega) _ rfl
      have HDD : Hid (DirE wr.drew h B o) := HD.out.dir.below ⟨rfl, rfl, rfl, Nat.le_refl _, fun _ _ => rfl⟩
      by_cases hlt : lessE o (l'.getD k ez) (l'.getD ((k - 1) / 2) ez) = true
      · have HC : Hid (∀ W, DirE W h B o → Calls Try.prog 17 #[.pointer (some ⟨h, 0, none⟩), entV (l'.getD k ez), entV (l'.getD ((k - 1) / 2) ez)] W fun e w' => e = .returned (.bool true) ∧ Below W.heap.size W w') := fun W hW => by have z := aheadE_any W h B o (l'.getD k ez) (l'.getD ((k - 1) / 2) ez) hW; rw [hlt] at z; exact z
        have HSW : Hid (∀ W, OwnE s T W (.slice (some ⟨gl, 0, none⟩) n c) l' → Calls Try.prog 27 #[.slice (some ⟨gl, 0, none⟩) n c, .int .i64 (k : Int), .int .i64 (((k - 1) / 2 : Nat) : Int)] W fun e w' => e = .returned (.tuple #[]) ∧ OwnE s T w' (.slice (some ⟨gl, 0, none⟩) n c) (swp ez l' k ((k - 1) / 2)) ∧ Goes (· = s) T W T w') := fun W hW => swapE_any s T W gl n c l' k ((k - 1) / 2) hW (by rw [HN'.out]; exact hk) (by rw [HN'.out]; exact hp) (by omega) (by rw [HN'.out]; omega)
        have HR' : Hid (Risen (lessE o) l (swp ez l' k ((k - 1) / 2)) ((k - 1) / 2)) := ⟨(swp_perm ez l' _ _ (by rw [HN'.out]; exact hk) (by rw [HN'.out]; exact hp)).trans HR.out.1, fun ho hu => (HR.out.2 ho hu).step ho hkp (by rw [HN'.out]; exact hk) hlt⟩
        have HLn : Hid ((swp ez l' k ((k - 1) / 2)).length = n) := (swp_length ..).trans HN'.out
        have hms : (k - 1) / 2 < k := by omega
        clear hlt HR hrw
        generalize l'.getD k ez = x at *
        generalize l'.getD ((k - 1) / 2) ez = y at *
        unfold entV at HC
        generalize swp ez l' k ((k - 1) / 2) = l2 at *
        generalize (k - 1) / 2 = m at *
        go_wp2
        have HP8 : Hid (∀ w' : World, Below wr.heap.size wr w' → w'.cell? ⟨gl, k * 4, none⟩ = some (.string x.1) ∧ w'.cell? ⟨gl, k * 4 + 1, none⟩ = some (.int .u64 x.2.1) ∧ w'.cell? ⟨gl, k * 4 + 2, none⟩ = some (.bool x.2.2.1) ∧ w'.cell? ⟨gl, k * 4 + 3, none⟩ = some (.string x.2.2.2) ∧ w'.cell? ⟨gl, m * 4, none⟩ = some (.string y.1) ∧ w'.cell? ⟨gl, m * 4 + 1, none⟩ = some (.int .u64 y.2.1) ∧ w'.cell? ⟨gl, m * 4 + 2, none⟩ = some (.bool y.2.2.1) ∧ w'.cell? ⟨gl, m * 4 + 3, none⟩ = some (.string y.2.2.2)) := fun V hV => ⟨(hV.cell (p := ⟨gl, _, none⟩) hgl).trans k0, (hV.cell (p := ⟨gl, _, none⟩) hgl).trans k1, (hV.cell (p := ⟨gl, _, none⟩) hgl).trans k2, (hV.cell (p := ⟨gl, _, none⟩) hgl).trans k3, (hV.cell (p := ⟨gl, _, none⟩) hgl).trans p0, (hV.cell (p := ⟨gl, _, none⟩) hgl).trans p1, (hV.cell (p := ⟨gl, _, none⟩) hgl).trans p2, (hV.cell (p := ⟨gl, _, none⟩) hgl).trans p3⟩
        go_region_held3 (fun w' => Below wr.heap.size wr w' ∧ w'.cell? ⟨gl, k * 4, none⟩ = some (.string x.1) ∧ w'.cell? ⟨gl, k * 4 + 1, none⟩ = some (.int .u64 x.2.1) ∧ w'.cell? ⟨gl, k * 4 + 2, none⟩ = some (.bool x.2.2.1) ∧ w'.cell? ⟨gl, k * 4 + 3, none⟩ = some (.string x.2.2.2) ∧ w'.cell? ⟨gl, m * 4, none⟩ = some (.string y.1) ∧ w'.cell? ⟨gl, m * 4 + 1, none⟩ = some (.int .u64 y.2.1) ∧ w'.cell? ⟨gl, m * 4 + 2, none⟩ = some (.bool y.2.2.1) ∧ w'.cell? ⟨gl, m * 4 + 3, none⟩ = some (.string y.2.2.2)) (first | assumption | exact ⟨(Below.refl _ _).drew, HP8.out _ ((Below.refl _ _).drew)⟩ | exact keep8 HP8.out (by assumption) (by assumption))
          (first
            | (go_at_call 26; refine (HAb.out _).mono ?_; rintro e w' ⟨rfl, hw9⟩; have hw8 := hw9.symm; clear hw9; subst hw8)
            | (go_at_call 17; refine (HC.out _ (HD.out.dir.below (And.left (by assumption)))).mono ?_; rintro e w' ⟨rfl, hb9⟩))
        have HB9 : Hid (Below wr.heap.size wr w') := by rename_i hz; exact hz.1
        all_goals (
          go_wp2_with (first
            | (go_at_call 26; refine (HAb.out _).mono ?_; rintro e w8 ⟨rfl, hw8⟩; have hw7 := hw8.symm; clear hw8; subst hw7)
            | (go_at_call 27; refine (HSW.out _ (HO.out.below HB9.out)).mono ?_; rintro e w3 ⟨rfl, ho3, hg3⟩; have HX3 : Hid (OwnE s T w3 (.slice (some ⟨gl, 0, none⟩) n c) l2 ∧ Goes (· = s) T wr T w3) := ⟨ho3, (Goes.below HB9.out).trans hg3⟩; clear ho3 hg3))
          go_roundw
          all_goals first
            | exact ⟨m, l2, rfl, by omega, HLn, HD.out.goes HX3.out.2, HX3.out.1, HG.out.trans HX3.out.2, HR'⟩
            | (simp [intOf]; omega))
      · have hlf : lessE o (l'.getD k ez) (l'.getD ((k - 1) / 2) ez) = false := by simpa using hlt
        have HC : Hid (∀ W, DirE W h B o → Calls Try.prog 17 #[.pointer (some ⟨h, 0, none⟩), entV (l'.getD k ez), entV (l'.getD ((k - 1) / 2) ez)] W fun e w' => e = .returned (.bool false) ∧ Below W.heap.size W w') := fun W hW => by have z := aheadE_any W h B o (l'.getD k ez) (l'.getD ((k - 1) / 2) ez) hW; rw [hlf] at z; exact z
        have HF : Hid (RiseIs (lessE o) s T w (.slice (some ⟨gl, 0, none⟩) n c) l wr) := ⟨l', HO.out, HG.out, HR.out.1, fun ho hu => (HR.out.2 ho hu).done (.inr hlf)⟩
        clear hlt hlf HR hrw
        generalize l'.getD k ez = x at *
        generalize l'.getD ((k - 1) / 2) ez = y at *
        unfold entV at HC
        generalize (k - 1) / 2 = m at *
        go_wp2
        have HP8 : Hid (∀ w' : World, Below wr.heap.size wr w' → w'.cell? ⟨gl, k * 4, none⟩ = some (.string x.1) ∧ w'.cell? ⟨gl, k * 4 + 1, none⟩ = some (.int .u64 x.2.1) ∧ w'.cell? ⟨gl, k * 4 + 2, none⟩ = some (.bool x.2.2.1) ∧ w'.cell? ⟨gl, k * 4 + 3, none⟩ = some (.string x.2.2.2) ∧ w'.cell? ⟨gl, m * 4, none⟩ = some (.string y.1) ∧ w'.cell? ⟨gl, m * 4 + 1, none⟩ = some (.int .u64 y.2.1) ∧ w'.cell? ⟨gl, m * 4 + 2, none⟩ = some (.bool y.2.2.1) ∧ w'.cell? ⟨gl, m * 4 + 3, none⟩ = some (.string y.2.2.2)) := fun V hV => ⟨(hV.cell (p := ⟨gl, _, none⟩) hgl).trans k0, (hV.cell (p := ⟨gl, _, none⟩) hgl).trans k1, (hV.cell (p := ⟨gl, _, none⟩) hgl).trans k2, (hV.cell (p := ⟨gl, _, none⟩) hgl).trans k3, (hV.cell (p := ⟨gl, _, none⟩) hgl).trans p0, (hV.cell (p := ⟨gl, _, none⟩) hgl).trans p1, (hV.cell (p := ⟨gl, _, none⟩) hgl).trans p2, (hV.cell (p := ⟨gl, _, none⟩) hgl).trans p3⟩
        go_region_held3 (fun w' => Below wr.heap.size wr w' ∧ w'.cell? ⟨gl, k * 4, none⟩ = some (.string x.1) ∧ w'.cell? ⟨gl, k * 4 + 1, none⟩ = some (.int .u64 x.2.1) ∧ w'.cell? ⟨gl, k * 4 + 2, none⟩ = some (.bool x.2.2.1) ∧ w'.cell? ⟨gl, k * 4 + 3, none⟩ = some (.string x.2.2.2) ∧ w'.cell? ⟨gl, m * 4, none⟩ = some (.string y.1) ∧ w'.cell? ⟨gl, m * 4 + 1, none⟩ = some (.int .u64 y.2.1) ∧ w'.cell? ⟨gl, m * 4 + 2, none⟩ = some (.bool y.2.2.1) ∧ w'.cell? ⟨gl, m * 4 + 3, none⟩ = some (.string y.2.2.2)) (first | assumption | exact ⟨(Below.refl _ _).drew, HP8.out _ ((Below.refl _ _).drew)⟩ | exact keep8 HP8.out (by assumption) (by assumption))
          (first
            | (go_at_call 26; refine (HAb.out _).mono ?_; rintro e w' ⟨rfl, hw9⟩; have hw8 := hw9.symm; clear hw9; subst hw8)
            | (go_at_call 17; refine (HC.out _ (HD.out.dir.below (And.left (by assumption)))).mono ?_; rintro e w' ⟨rfl, hb9⟩))
        have HB9 : Hid (Below wr.heap.size wr w') := by rename_i hz; exact hz.1
        all_goals go_wp2
        all_goals go_end0
        all_goals (
          obtain ⟨l9, k1, k2, k3, k4⟩ := HF.out
          exact ⟨rfl, l9, k1.below HB9.out, k2.trans (Goes.below HB9.out), k3, k4⟩)

end Ehp
end Go.Proofs.Ytpappjcbeibhiaa
