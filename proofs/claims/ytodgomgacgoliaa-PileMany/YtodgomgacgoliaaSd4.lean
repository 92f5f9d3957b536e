import Derived.Test.YtodgomgacgoliaaSd3
namespace Go.Proofs.Ytodgomgacgoliaa
namespace Hp
open Go.RowKit Laws Irw
set_option linter.unusedVariables false
set_option maxRecDepth 100000
set_option linter.unusedSimpArgs false

set_option maxHeartbeats 4000000 in
theorem plays_len (k : Nat) (T : Nat → Nat) (w : World) (s h B b : Nat) (o : Int) (l m : List Int) (top : Int) (told : Bool) (n : Int) (sec : Bool) (p : SideAt k T w s h B b o l m top told) :
    Calls Try.prog 9 #[.pointer (some ⟨s, 0, none⟩), .agg #[.int .i64 4, .int .i64 n, .bool sec]] w fun e w' => e = .returned (.bool true) ∧ PlayIs k T w s h B b o 4 m.length w' := by
  have HB1 : Hid (Below w.heap.size w (w.alloc (.cells #[.int .i64 4, .int .i64 n, .bool sec] 33))) := (Below.refl _ _).alloc (Nat.le_refl _) _
  have HS1 : Hid (SideAt k T (w.alloc (.cells #[.int .i64 4, .int .i64 n, .bool sec] 33)) s h B b o l m top told) := p.below HB1.out
  have c0 := HS1.out.blk.c0
  have c1 := HS1.out.blk.c1
  obtain ⟨am, cm, hcm, _⟩ := HS1.out.bag.form
  have e0 : (w.alloc (.cells #[.int .i64 4, .int .i64 n, .bool sec] 33)).cell? ⟨w.heap.size, 0, none⟩ = some (.int .i64 4) := by simp
  have HLN : Hid (∀ z, Calls Try.prog 25 #[.pointer (some ⟨h, 0, none⟩)] ((w.alloc (.cells #[.int .i64 4, .int .i64 n, .bool sec] 33)).drewN z) fun e w' => e = .returned (.int .i64 (m.length : Int)) ∧ w' = (w.alloc (.cells #[.int .i64 4, .int .i64 n, .bool sec] 33)).drewN z) := fun z => by
    have := len_any (k + 1) T ((w.alloc (.cells #[.int .i64 4, .int .i64 n, .bool sec] 33)).drewN z) h _ B o l (HS1.out.heap.below (below_drewN (Below.refl _ _) _))
    rwa [HS1.out.perm.length_eq] at this
  clear p
  go_enter Try.func9, Try.ntmps9
  generalize hW1 : w.alloc (.cells #[.int .i64 4, .int .i64 n, .bool sec] 33) = W1 at *
  go_wp2
  go_quiet ((go_at_call 25; exact Calls.quiet_of_same (HLN.out _)))
  go_wp2
  go_ret
  exact ⟨by simp, T, l, m, top, told, HS1.out.below (below_drewN (Below.refl _ _) _), (Goes.below HB1.out).trans (Goes.below (below_drewN (Below.refl _ _) _)), by simp [lenOf]⟩

set_option maxHeartbeats 4000000 in
theorem plays_other (k : Nat) (T : Nat → Nat) (w : World) (s h B b : Nat) (o : Int) (l m : List Int) (top : Int) (told : Bool) (kind n : Int) (sec : Bool) (p : SideAt k T w s h B b o l m top told) (h1 : ¬ kind = 1) (h2 : ¬ kind = 2) (h3 : ¬ kind = 3) (h4 : ¬ kind = 4) :
    Calls Try.prog 9 #[.pointer (some ⟨s, 0, none⟩), .agg #[.int .i64 kind, .int .i64 n, .bool sec]] w fun e w' => e = .returned (.bool true) ∧ PlayIs k T w s h B b o kind m.length w' := by
  have HB1 : Hid (Below w.heap.size w (w.alloc (.cells #[.int .i64 kind, .int .i64 n, .bool sec] 33))) := (Below.refl _ _).alloc (Nat.le_refl _) _
  have HS1 : Hid (SideAt k T (w.alloc (.cells #[.int .i64 kind, .int .i64 n, .bool sec] 33)) s h B b o l m top told) := p.below HB1.out
  have e0 : (w.alloc (.cells #[.int .i64 kind, .int .i64 n, .bool sec] 33)).cell? ⟨w.heap.size, 0, none⟩ = some (.int .i64 kind) := by simp
  clear p
  go_enter Try.func9, Try.ntmps9
  generalize hW1 : w.alloc (.cells #[.int .i64 kind, .int .i64 n, .bool sec] 33) = W1 at *
  go_wp2
  go_ret
  exact ⟨rfl, T, l, m, top, told, HS1.out, Goes.below HB1.out, by simp [lenOf, h1, h2]⟩

/-- PLAYS: one call, whatever it is. -/
theorem plays_any (k : Nat) (T : Nat → Nat) (w : World) (s h B b : Nat) (o : Int) (l m : List Int) (top : Int) (told : Bool) (kind n : Int) (sec : Bool) (p : SideAt k T w s h B b o l m top told) (hl : m.length ≤ 1000000000) (hz : ∀ g, w.heap.size ≤ g → T g = 0) :
    Calls Try.prog 9 #[.pointer (some ⟨s, 0, none⟩), .agg #[.int .i64 kind, .int .i64 n, .bool sec]] w fun e w' => e = .returned (.bool true) ∧ PlayIs k T w s h B b o kind m.length w' := by
  by_cases h1 : kind = 1
  · subst h1; exact plays_push k T w s h B b o l m top told n sec p hl hz
  · by_cases h2 : kind = 2
    · subst h2; exact plays_pop k T w s h B b o l m top told n sec p hl hz
    · by_cases h3 : kind = 3
      · subst h3; exact plays_top k T w s h B b o l m top told n sec p hl hz
      · by_cases h4 : kind = 4
        · subst h4; exact plays_len k T w s h B b o l m top told n sec p
        · exact plays_other k T w s h B b o l m top told kind n sec p h1 h2 h3 h4

/-- A side in a walk; m's length is told. -/
def SideIs (k : Nat) (T : Nat → Nat) (w : World) (s h B b : Nat) (o : Int) (n : Nat) : Prop := ∃ l m top told, SideAt k T w s h B b o l m top told ∧ m.length = n
def PlayOut (k : Nat) (T : Nat → Nat) (w : World) (s h B b : Nat) (o : Int) (n : Nat) (w' : World) : Prop := ∃ T', SideIs k T' w' s h B b o n ∧ Goes (mine k) T w T' w' ∧ ∀ g, w'.heap.size ≤ g → T' g = 0
theorem SideIs.goes {k : Nat} {u : Nat → Prop} {T T' : Nat → Nat} {w w' : World} {s h B b : Nat} {o : Int} {n : Nat} (p : SideIs k T w s h B b o n) (hg : Goes u T w T' w') (hu : ∀ x, k < x → x < k + 10 → ¬ u x) : SideIs k T' w' s h B b o n := by
  obtain ⟨l, m, top, told, h1, h2⟩ := p
  exact ⟨l, m, top, told, h1.goes hg hu, h2⟩
theorem SideIs.below {k : Nat} {T : Nat → Nat} {w w' : World} {s h B b : Nat} {o : Int} {n : Nat} (p : SideIs k T w s h B b o n) (hb : Below w.heap.size w w') : SideIs k T w' s h B b o n := p.goes (Goes.below (t := fun _ => False) hb) (fun _ _ _ z => z)
theorem plays_is (k : Nat) (T : Nat → Nat) (w : World) (s h B b : Nat) (o : Int) (n : Nat) (kind x : Int) (sec : Bool) (p : SideIs k T w s h B b o n) (hl : n ≤ 1000000000) (hz : ∀ g, w.heap.size ≤ g → T g = 0) :
    Calls Try.prog 9 #[.pointer (some ⟨s, 0, none⟩), .agg #[.int .i64 kind, .int .i64 x, .bool sec]] w fun e w' => e = .returned (.bool true) ∧ PlayOut k T w s h B b o (lenOf kind n) w' := by
  obtain ⟨l, m, top, told, h1, rfl⟩ := p
  refine (plays_any k T w s h B b o l m top told kind x sec h1 hl hz).mono ?_
  rintro e w' ⟨rfl, T', l', m', top', told', k1, k2, k3⟩
  exact ⟨rfl, T', ⟨l', m', top', told', k1, k3⟩, k2, fun g hg => k2.high g hg (hz g (Nat.le_trans k2.size hg))⟩
/-- what a side's cells are, to be read -/
theorem SideIs.reads {k : Nat} {T : Nat → Nat} {w : World} {s h B b : Nat} {o : Int} {n : Nat} (p : SideIs k T w s h B b o n) : w.cell? ⟨s, 1, none⟩ = some (.pointer (some ⟨b, 0, none⟩)) ∧ w.cell? ⟨s, 0, none⟩ = some (.pointer (some ⟨h, 0, none⟩)) ∧ ∃ am cm, w.cell? ⟨b, 1, none⟩ = some (.slice am n cm) := by
  obtain ⟨l, m, top, told, h1, rfl⟩ := p
  obtain ⟨am, cm, hcm, _⟩ := h1.bag.form
  exact ⟨h1.blk.c1, h1.blk.c0, am, cm, hcm⟩

set_option maxHeartbeats 4000000 in
/-- DRAINS. -/
theorem drains_is (k : Nat) (T : Nat → Nat) (w : World) (s h B b : Nat) (o : Int) (n : Nat) (p : SideIs k T w s h B b o n) (hl : n ≤ 1000000000) (hz : ∀ g, w.heap.size ≤ g → T g = 0) :
    Calls Try.prog 10 #[.pointer (some ⟨s, 0, none⟩)] w fun e w' => e = .returned (.bool true) ∧ PlayOut k T w s h B b o 0 w' := by
  have HP : Hid (SideIs k T w s h B b o n) := p
  have HZ : Hid (∀ g, w.heap.size ≤ g → T g = 0) := hz
  obtain ⟨c1, _, am, cm, hcm⟩ := p.reads
  clear p hz
  go_enter Try.func10, Try.ntmps10
  go_wp2
  go_loopw [3] (fun i wr => ∃ (j : Nat) (T' : Nat → Nat), j ≤ n ∧ i = .int .i64 (j : Int) ∧ Hid (SideIs k T' wr s h B b o j ∧ Goes (mine k) T w T' wr ∧ ∀ g, wr.heap.size ≤ g → T' g = 0)) (fun i _ => (intOf i).toNat)
  case atStart => exact ⟨n, T, Nat.le_refl _, rfl, HP.out, Goes.refl _ _ _, HZ.out⟩
  case round =>
    clear HP HZ c1 hcm
    obtain ⟨j, T', hj, rfl, HQ⟩ := hrel
    by_cases h0 : 0 < j
    · have d1 : (0 : Int) < (j : Int) := by omega
      have HC : Hid (Calls Try.prog 9 #[.pointer (some ⟨s, 0, none⟩), .agg #[.int .i64 2, .int .i64 0, .bool false]] wr fun e w' => e = .returned (.bool true) ∧ PlayOut k T' wr s h B b o (lenOf 2 j) w') := plays_is k T' wr s h B b o j 2 0 false HQ.out.1 (by omega) HQ.out.2.2
      have hl2 : lenOf 2 j = j - 1 := by simp [lenOf]
      rw [hl2] at HC
      have w1 : IntKind.i64.wrap ((j : Int) - 1) = ((j - 1 : Nat) : Int) := by rw [IntWalk.i64_in _ (by omega)]; omega
      have hj1 : j - 1 < j := by omega
      clear hl2
      generalize j - 1 = j1 at *
      go_wp2_with (go_at_call 9; refine HC.out.mono ?_; rintro e w3 ⟨rfl, T3, k1, k2, k3⟩; obtain ⟨r1, _, am, cm, r2⟩ := k1.reads; have HQ3 : Hid (SideIs k T3 w3 s h B b o j1 ∧ Goes (mine k) T w T3 w3 ∧ ∀ g, w3.heap.size ≤ g → T3 g = 0) := ⟨k1, HQ.out.2.1.trans k2, k3⟩; clear k1 k2 k3)
      go_roundw
      case rel => exact ⟨j1, T3, by omega, by simp [w1], HQ3⟩
      case measure => simp [intOf, w1]; omega
    · obtain rfl : j = 0 := by omega
      have HC2 : Hid (Calls Try.prog 9 #[.pointer (some ⟨s, 0, none⟩), .agg #[.int .i64 2, .int .i64 0, .bool false]] wr fun e w' => e = .returned (.bool true) ∧ PlayOut k T' wr s h B b o 0 w') := plays_is k T' wr s h B b o 0 2 0 false HQ.out.1 (by omega) HQ.out.2.2
      go_wp2_with fail
      refine HC2.out.mono ?_
      rintro e w3 ⟨rfl, T3, k1, k2, k3⟩
      have HC3 : Hid (Calls Try.prog 9 #[.pointer (some ⟨s, 0, none⟩), .agg #[.int .i64 3, .int .i64 0, .bool false]] w3 fun e w' => e = .returned (.bool true) ∧ PlayOut k T3 w3 s h B b o 0 w') := plays_is k T3 w3 s h B b o 0 3 0 false k1 (by omega) k3
      have HG3 : Hid (Goes (mine k) T w T3 w3) := HQ.out.2.1.trans k2
      clear k1 k2 k3
      go_wp2_with fail
      refine HC3.out.mono ?_
      rintro e w4 ⟨rfl, T4, k1, k2, k3⟩
      have HC4 : Hid (Calls Try.prog 9 #[.pointer (some ⟨s, 0, none⟩), .agg #[.int .i64 4, .int .i64 0, .bool false]] w4 fun e w' => e = .returned (.bool true) ∧ PlayOut k T4 w4 s h B b o 0 w') := plays_is k T4 w4 s h B b o 0 4 0 false k1 (by omega) k3
      have HG4 : Hid (Goes (mine k) T w T4 w4) := HG3.out.trans k2
      clear k1 k2 k3
      go_wp2_with fail
      refine HC4.out.mono ?_
      rintro e w5 ⟨rfl, T5, k1, k2, k3⟩
      have HF : Hid (PlayOut k T w s h B b o 0 w5) := ⟨T5, k1, HG4.out.trans k2, k3⟩
      clear k1 k2 k3
      go_wp2
      go_ret
      exact ⟨rfl, HF.out⟩

end Hp
end Go.Proofs.Ytodgomgacgoliaa
