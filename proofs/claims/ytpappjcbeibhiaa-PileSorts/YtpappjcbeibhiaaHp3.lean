import Derived.Test.YtpappjcbeibhiaaHp2
namespace Go.Proofs.Ytpappjcbeibhiaa
namespace Hp
open Go.RowKit Laws Irw
set_option linter.unusedVariables false
set_option maxRecDepth 100000
set_option linter.unusedSimpArgs false

/-- The order of a heap lies outside the blocks of tag s. -/
structure Dirs (s : Nat) (T : Nat → Nat) (w : World) (h g B : Nat) (o : Int) : Prop where
  dir : Dir w h g B o
  lth : h < w.heap.size
  tagh : T h ≠ s
  ltB : B < w.heap.size
  tagB : T B ≠ s
theorem Dirs.goes {s : Nat} {T T' : Nat → Nat} {w w' : World} {h g B : Nat} {o : Int} (d : Dirs s T w h g B o) (hg : Goes (· = s) T w T' w') : Dirs s T' w' h g B o :=
  ⟨⟨(hg.cell d.lth d.tagh).trans d.dir.less, (hg.cell d.ltB d.tagB).trans d.dir.cap⟩, Nat.lt_of_lt_of_le d.lth hg.size, by rw [hg.tag h d.lth d.tagh]; exact d.tagh, Nat.lt_of_lt_of_le d.ltB hg.size, by rw [hg.tag B d.ltB d.tagB]; exact d.tagB⟩

/-- What sifting up keeps. -/
def Risen (f : Int → Int → Bool) (l l' : List Int) (k : Nat) : Prop := l'.Perm l ∧ (Ord f → Up f 0 l (l.length - 1) → Up f 0 l' k)
def RiseIs (f : Int → Int → Bool) (s : Nat) (T : Nat → Nat) (w : World) (v : Value) (l : List Int) (w' : World) : Prop :=
  ∃ l', OwnL s T w' v l' ∧ Goes (· = s) T w T w' ∧ l'.Perm l ∧ (Ord f → Up f 0 l (l.length - 1) → Heapy f 0 l')
def SinkIs (f : Int → Int → Bool) (s : Nat) (T : Nat → Nat) (w : World) (v : Value) (l : List Int) (w' : World) : Prop :=
  ∃ l', OwnL s T w' v l' ∧ Goes (· = s) T w T w' ∧ l'.Perm l ∧ (Ord f → Dn f 0 l 0 → Heapy f 0 l')

set_option maxHeartbeats 4000000 in
theorem rise_any {f : Int → Int → Int → Bool} (s : Nat) (T : Nat → Nat) (w : World) (h g B : Nat) (o : Int) (hL : Less g f) (hd : Dirs s T w h g B o) (gl n c : Nat) (l : List Int) (ho : OwnL s T w (.slice (some ⟨gl, 0, none⟩) n c) l) (hn : n = l.length) (h0 : 0 < l.length) (hl : l.length ≤ 100000000000) :
    Calls Try.prog 23 #[.slice (some ⟨gl, 0, none⟩) n c, .func (.func 24) #[.pointer (some ⟨h, 0, none⟩)] #[]] w fun e w' => e = .returned (.tuple #[]) ∧ RiseIs (f o) s T w (.slice (some ⟨gl, 0, none⟩) n c) l w' := by
  have HL : Hid (Less g f) := hL
  have HD : Hid (Dirs s T w h g B o) := hd
  have HO : Hid (OwnL s T w (.slice (some ⟨gl, 0, none⟩) n c) l) := ho
  have hw0 : IntKind.i64.wrap ((n : Int) - 1) = ((n - 1 : Nat) : Int) := by rw [IntWalk.i64_in _ (by omega)]; omega
  have HN : Hid (n = l.length) := hn
  have hnl : n ≤ 100000000000 := by omega
  have hn0 : 0 < n := by omega
  clear hL hd ho hn
  go_enter Try.func23, Try.ntmps23
  go_wp2
  go_loopw [4] (fun at_ wr => ∃ (k : Nat) (l' : List Int), at_ = .int .i64 (k : Int) ∧ k < n ∧ Hid (l'.length = n) ∧ Hid (Dirs s T wr h g B o) ∧ Hid (OwnL s T wr (.slice (some ⟨gl, 0, none⟩) n c) l') ∧ Hid (Goes (· = s) T w T wr) ∧ Hid (Risen (f o) l l' k)) (fun at_ _ => (intOf at_).toNat)
  case atStart => exact ⟨n - 1, l, by simp [hw0], by omega, HN.out.symm, HD, HO, Goes.refl _ _ _, List.Perm.refl _, by rw [HN.out]; exact fun _ z => z⟩
  case round =>
    clear HD HO
    obtain ⟨k, l', rfl, hk, HN', HD, HO, HG, HR⟩ := hrel
    have hrw : IRow wr gl 0 l' := by
      obtain ⟨b, off, e, hr⟩ := HO.out.isI.1.at_ (by rw [HN'.out]; omega)
      simp only [Option.some.injEq, Addr.mk.injEq] at e
      obtain ⟨rfl, rfl, _⟩ := e
      exact hr
    by_cases hk0 : k = 0
    · subst hk0
      have HF : Hid (RiseIs (f o) s T w (.slice (some ⟨gl, 0, none⟩) n c) l wr) := ⟨l', HO.out, HG.out, HR.out.1, fun ho hu => (HR.out.2 ho hu).done (.inl rfl)⟩
      go_wp2
      go_quiet (fail)
      go_wp2
      go_end0
      obtain ⟨l9, k1, k2, k3, k4⟩ := HF.out
      exact ⟨rfl, l9, own_drewN k1 _, goes_drewN k2 _, k3, k4⟩
    · have hp : (k - 1) / 2 < n := by omega
      have hkp : 0 < k := by omega
      have d1 : (0 : Int) < (k : Int) := by omega
      have d2 : decide ((0 : Int) < (k : Int)) = true := decide_eq_true d1
      have d2' : decide (0 < k) = true := decide_eq_true hkp
      have d3 : (k : Int) < (n : Int) := by omega
      have d4 : (((k - 1) / 2 : Nat) : Int) < (n : Int) := by omega
      have ck : wr.cell? ⟨gl, k, none⟩ = some (.int .i64 (l'.getD k 0)) := by have := hrw.cell (i := k) (by rw [HN'.out]; exact hk); simpa using this
      have cp : wr.cell? ⟨gl, (k - 1) / 2, none⟩ = some (.int .i64 (l'.getD ((k - 1) / 2) 0)) := by have := hrw.cell (i := (k - 1) / 2) (by rw [HN'.out]; exact hp); simpa using this
      have HAb : Hid (∀ W, Calls Try.prog 26 #[.int .i64 (k : Int)] W fun e w' => e = .returned (.int .i64 (((k - 1) / 2 : Nat) : Int)) ∧ w' = W) := fun W => above_any k W hkp (by omega) _ rfl
      have HA : Hid _ := ahead_at HL.out HD.out.dir
      by_cases hlt : f o (l'.getD k 0) (l'.getD ((k - 1) / 2) 0) = true
      · have HC : Hid (∀ z, Calls Try.prog 24 #[.pointer (some ⟨h, 0, none⟩), .int .i64 (l'.getD k 0), .int .i64 (l'.getD ((k - 1) / 2) 0)] (wr.drewN z) fun e w' => e = .returned (.bool true) ∧ ∃ q, w' = wr.drewN q) := fun z => by have := HA.out (l'.getD k 0) (l'.getD ((k - 1) / 2) 0) z; rw [hlt] at this; exact this
        have HSW : Hid (∀ W, OwnL s T W (.slice (some ⟨gl, 0, none⟩) n c) l' → Calls Try.prog 30 #[.slice (some ⟨gl, 0, none⟩) n c, .int .i64 (k : Int), .int .i64 (((k - 1) / 2 : Nat) : Int)] W fun e w' => e = .returned (.tuple #[]) ∧ OwnL s T w' (.slice (some ⟨gl, 0, none⟩) n c) (swp 0 l' k ((k - 1) / 2)) ∧ Goes (· = s) T W T w') := fun W hW => swap_any s T W gl n c l' k ((k - 1) / 2) hW (by rw [HN'.out]; exact hk) (by rw [HN'.out]; exact hp) (by omega) (by rw [HN'.out]; omega)
        have HR' : Hid (Risen (f o) l (swp 0 l' k ((k - 1) / 2)) ((k - 1) / 2)) := ⟨(swp_perm 0 l' _ _ (by rw [HN'.out]; exact hk) (by rw [HN'.out]; exact hp)).trans HR.out.1, fun ho hu => (HR.out.2 ho hu).step ho hkp (by rw [HN'.out]; exact hk) hlt⟩
        have HLn : Hid ((swp 0 l' k ((k - 1) / 2)).length = n) := (swp_length ..).trans HN'.out
        have hms : (k - 1) / 2 < k := by omega
        clear hlt HA HR hrw
        generalize l'.getD k 0 = x at *
        generalize l'.getD ((k - 1) / 2) 0 = y at *
        generalize swp 0 l' k ((k - 1) / 2) = l2 at *
        generalize (k - 1) / 2 = m at *
        go_wp2
        go_quiet (first | (go_at_call 26; exact Calls.quiet_of_same (HAb.out _)) | (go_at_call 24; exact (HC.out _)))
        go_wp2_with (first
          | (go_at_call 26; refine (HAb.out _).mono ?_; rintro e w9 ⟨rfl, hw9⟩; have hw8 := hw9.symm; clear hw9; subst hw8)
          | (go_at_call 30; refine (HSW.out _ (own_drewN HO.out _)).mono ?_; rintro e w3 ⟨rfl, ho3, hg3⟩; have HX3 : Hid (OwnL s T w3 (.slice (some ⟨gl, 0, none⟩) n c) l2 ∧ Goes (· = s) T wr T w3) := ⟨ho3, (goes_drewN (Goes.refl _ _ _) _).trans hg3⟩; clear ho3 hg3))
        go_roundw
        case rel => exact ⟨m, l2, rfl, by omega, HLn, HD.out.goes HX3.out.2, HX3.out.1, HG.out.trans HX3.out.2, HR'⟩
        case measure => simp [intOf]; omega
      · have hlf : f o (l'.getD k 0) (l'.getD ((k - 1) / 2) 0) = false := by simpa using hlt
        have HC : Hid (∀ z, Calls Try.prog 24 #[.pointer (some ⟨h, 0, none⟩), .int .i64 (l'.getD k 0), .int .i64 (l'.getD ((k - 1) / 2) 0)] (wr.drewN z) fun e w' => e = .returned (.bool false) ∧ ∃ q, w' = wr.drewN q) := fun z => by have := HA.out (l'.getD k 0) (l'.getD ((k - 1) / 2) 0) z; rw [hlf] at this; exact this
        have HF : Hid (RiseIs (f o) s T w (.slice (some ⟨gl, 0, none⟩) n c) l wr) := ⟨l', HO.out, HG.out, HR.out.1, fun ho hu => (HR.out.2 ho hu).done (.inr hlf)⟩
        clear hlt hlf HA HR hrw
        generalize l'.getD k 0 = x at *
        generalize l'.getD ((k - 1) / 2) 0 = y at *
        generalize (k - 1) / 2 = m at *
        go_wp2
        go_quiet (first | (go_at_call 26; exact Calls.quiet_of_same (HAb.out _)) | (go_at_call 24; exact (HC.out _)))
        go_wp2
        go_end0
        obtain ⟨l9, k1, k2, k3, k4⟩ := HF.out
        exact ⟨rfl, l9, own_drewN k1 _, goes_drewN k2 _, k3, k4⟩

end Hp
end Go.Proofs.Ytpappjcbeibhiaa
