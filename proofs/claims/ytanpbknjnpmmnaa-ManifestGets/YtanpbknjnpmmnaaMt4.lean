import Derived.Test.YtanpbknjnpmmnaaMr3
import Derived.Test.YtanpbknjnpmmnaaTxt
import Derived.Test.YtanpbknjnpmmnaaMs4
namespace Go.Proofs.Ytanpbknjnpmmnaa
namespace Mnf
open Go.RowKit CMath Byt Cod Crw Irw Laws
set_option linter.unusedVariables false
set_option linter.unusedSimpArgs false
set_option maxRecDepth 20000

/-! The document's reader. -/
theorem hid9 {p : Prop} (h : p) : Hid p := h
variable {α : Type}
/-- how far it is behind a part, and what it has read -/
def pS (o : List Nat → Option (α × List Nat)) (st : Option (List Nat)) : Option (List Nat) := st.bind fun l => (o l).map (·.2)
def pV (o : List Nat → Option (α × List Nat)) (z : α) (st : Option (List Nat)) : α := ((st.bind o).map (·.1)).getD z
/-- a reader as it lies: its bytes lie below base, it doesn't -/
def RdAt (base : Nat) (w : World) (R : Nat) (st : Option (List Nat)) : Prop :=
  ∃ (a : Option Addr) (l : List Nat) (c : Nat) (bad : Bool), Zb w R [.slice a l.length c, .bool bad] ∧ IsB w a l ∧ l.length ≤ c ∧ c ≤ 9223372036854775807 ∧ (∀ b off, a = some ⟨b, off, none⟩ → b < base) ∧ st = (if bad then none else some l)
theorem RdAt.keep {base R : Nat} {w w' : World} {st : Option (List Nat)} (h : RdAt base w R st) (hb : w'.heap[R]? = w.heap[R]?) (hs : w.heap.size ≤ w'.heap.size) (hk : ∀ b, b < base → b < w.heap.size → w'.heap[b]? = w.heap[b]?) : RdAt base w' R st := by
  obtain ⟨a, l, c, bad, h1, h2, h3, h4, h5, h6⟩ := h
  refine ⟨a, l, c, bad, h1.keep hb hs, ⟨fun hne => ?_, h2.2⟩, h3, h4, h5, h6⟩
  obtain ⟨b, off, e, hr⟩ := h2.1 hne
  exact ⟨b, off, e, hr.keep (hk b (h5 b off e) hr.1) hs⟩
theorem keep_set {R : Nat} {w : World} (k : Nat) (v : Value) : Keep [R] w (w.setCell ⟨R, k, none⟩ v) :=
  ⟨rfl, rfl, rfl, by simp, fun i _ hn => Below.heap_setCell _ _ _ _ (fun e => hn (by simp [e]))⟩
theorem isB_set {R : Nat} {w : World} {a : Option Addr} {l : List Nat} {base : Nat} (h : IsB w a l) (h5 : ∀ b off, a = some ⟨b, off, none⟩ → b < base) (hR : base ≤ R) (k : Nat) (v : Value) : IsB (w.setCell ⟨R, k, none⟩ v) a l := by
  refine ⟨fun hne => ?_, h.2⟩
  obtain ⟨b, off, e, hr⟩ := h.1 hne
  exact ⟨b, off, e, hr.keep (Below.heap_setCell _ _ _ _ (fun e2 => by have := h5 b off e; simp only at e2; omega)) (by simp)⟩
/-- it turns bad -/
theorem RdAt.bad {base R : Nat} {w : World} {a : Option Addr} {l : List Nat} {c : Nat} {bad : Bool} (h1 : Zb w R [.slice a l.length c, .bool bad]) (h2 : IsB w a l) (h3 : l.length ≤ c) (h4 : c ≤ 9223372036854775807) (h5 : ∀ b off, a = some ⟨b, off, none⟩ → b < base) (hR : base ≤ R) : RdAt base (w.setCell ⟨R, 1, none⟩ (.bool true)) R none :=
  ⟨a, l, c, true, by simpa using h1.set 1 (.bool true), isB_set h2 h5 hR _ _, h3, h4, h5, rfl⟩
/-- it goes on -/
theorem RdAt.on {base R : Nat} {w : World} {a a' : Option Addr} {l r : List Nat} {c c' n' : Nat} (h1 : Zb w R [.slice a l.length c, .bool false]) (h2 : IsB w a' r) (hn : n' = r.length) (h3 : r.length ≤ c') (h4 : c' ≤ 9223372036854775807) (h5 : ∀ b off, a' = some ⟨b, off, none⟩ → b < base) (hR : base ≤ R) : RdAt base (w.setCell ⟨R, 0, none⟩ (.slice a' n' c')) R (some r) := by
  subst hn
  exact ⟨a', r, c', false, by simpa using h1.set 0 (.slice a' r.length c'), isB_set h2 h5 hR _ _, h3, h4, h5, rfl⟩

set_option maxHeartbeats 1000000 in
theorem rnumber_any (base R : Nat) (st : Option (List Nat)) (w : World) (h : RdAt base w R st) (hR : base ≤ R) :
    Calls Try.prog 38 #[.pointer (some ⟨R, 0, none⟩)] w fun e w' => e = .returned (.int .u64 ((pV (rdN M64) 0 st : Nat) : Int)) ∧ RdAt base w' R (pS (rdN M64) st) ∧ Keep [R] w w' := by
  obtain ⟨a, l, c, bad, h1, h2, h3, h4, h5, h6⟩ := h
  have C := refUint_any a c l.length l w h2 (by omega) rfl
  obtain ⟨⟨n, k, f⟩, hx⟩ : ∃ x, rd l 0 0 = x := ⟨_, rfl⟩
  rw [hx] at C
  dsimp only at C
  have HC := hid9 C
  have c0 := h1.2.1 0 _ rfl
  have c1 := h1.2.1 1 _ rfl
  have f0 := h1.2.2
  have HB : Hid (RdAt base (w.setCell ⟨R, 1, none⟩ (.bool true)) R none) := RdAt.bad h1 h2 h3 h4 h5 hR
  cases bad with
  | true =>
    simp only [if_true] at h6
    subst h6
    clear C h1 h2 h3 h4 h5 hx
    go_enter Try.func38, Try.ntmps38
    go_wp2_with (go_at_call 53; refine HC.out.mono ?_; rintro e w' ⟨rfl, hw⟩; obtain rfl := hw.symm; clear hw)
    go_ret
    exact ⟨rfl, HB.out, keep_set _ _⟩
  | false =>
    simp only [Bool.false_eq_true, if_false] at h6
    subst h6
    by_cases hf : f = 0
    · subst hf
      obtain ⟨q1, q2, q3⟩ := rd_ok0 h2.2 hx
      obtain ⟨q4, q5, q6⟩ := rd_bytes h2.2 hx
      have hrn : rdN M64 l = some (n, l.drop k) := by
        unfold rdN
        rw [hx]
        exact if_pos ⟨rfl, by unfold M64; omega⟩
      obtain ⟨b, off, rfl⟩ := isB_at h2 (by omega)
      have hV : pV (rdN M64) 0 (some l) = n := by unfold pV; rw [Option.bind_some, hrn]; rfl
      have hS : pS (rdN M64) (some l) = some (l.drop k) := by unfold pS; rw [Option.bind_some, hrn]; rfl
      have hO : ∀ a' n' c', IsB w a' (l.drop k) → n' = (l.drop k).length → (l.drop k).length ≤ c' → c' ≤ 9223372036854775807 → (∀ b off, a' = some ⟨b, off, none⟩ → b < base) → RdAt base (w.setCell ⟨R, 0, none⟩ (.slice a' n' c')) R (some (l.drop k)) := fun a' n' c' z1 z2 z3 z4 z5 => RdAt.on h1 z1 z2 z3 z4 z5 hR
      have HO := hid9 hO
      have HI := hid9 h2
      have H5 := hid9 h5
      have HLD : Hid ((l.drop k).length = l.length - k) := by show _ = _; simp
      have HV := hid9 hV
      have HS := hid9 hS
      clear C h1 h2 hx hrn hV hS hO h5 q1 q2 q3 q6 HB
      generalize l.length = L at *
      have g1 : (k : Int) ≤ (L : Int) := by omega
      have g2 : (k : Int) ≤ (c : Int) := by omega
      have g3 : (L : Int) ≤ (c : Int) := by omega
      by_cases hkc : k = c
      · have e1 : k = L := by omega
        subst e1
        subst hkc
        go_enter Try.func38, Try.ntmps38
        go_wp2_with (go_at_call 53; refine HC.out.mono ?_; rintro e w' ⟨rfl, hw⟩; obtain rfl := hw.symm; clear hw)
        go_ret
        rw [HV.out, HS.out]
        refine ⟨rfl, HO.out _ _ _ ?_ ?_ ?_ ?_ ?_, keep_set _ _⟩
        · rw [List.eq_nil_of_length_eq_zero (HLD.out.trans (by omega))]; exact IsB.nil _ _
        · have := HLD.out; omega
        · have := HLD.out; omega
        · first | omega | simp
        · intro b' o' e; cases e; exact H5.out _ _ rfl
      · have e2 : k < c := by omega
        have e3 : (k : Int) < (c : Int) := by omega
        have e4 : ¬ c - k = 0 := by omega
        go_enter Try.func38, Try.ntmps38
        go_wp2_with (go_at_call 53; refine HC.out.mono ?_; rintro e w' ⟨rfl, hw⟩; obtain rfl := hw.symm; clear hw)
        go_ret
        rw [HV.out, HS.out]
        refine ⟨rfl, HO.out _ _ _ ?_ ?_ ?_ ?_ ?_, keep_set _ _⟩
        · exact isB_drop' HI.out k
        · have := HLD.out; omega
        · have := HLD.out; omega
        · first | omega | simp
        · intro b' o' e; cases e; exact H5.out _ _ rfl
    · have hrn : rdN M64 l = none := by
        unfold rdN
        rw [hx]
        exact if_neg (fun z => hf z.1)
      have hV : pV (rdN M64) 0 (some l) = 0 := by unfold pV; rw [Option.bind_some, hrn]; rfl
      have hS : pS (rdN M64) (some l) = none := by unfold pS; rw [Option.bind_some, hrn]; rfl
      rw [hV, hS]
      have hf2 : ¬ (f : Int) = 0 := by omega
      clear C h1 h2 h3 h4 h5 hx hrn hV hS
      go_enter Try.func38, Try.ntmps38
      go_wp2_with (go_at_call 53; refine HC.out.mono ?_; rintro e w' ⟨rfl, hw⟩; obtain rfl := hw.symm; clear hw)
      go_ret
      exact ⟨rfl, HB.out, keep_set _ _⟩
end Mnf
end Go.Proofs.Ytanpbknjnpmmnaa
namespace Go.Proofs.Ytanpbknjnpmmnaa
namespace Mnf
open Go.RowKit CMath Byt Cod Crw Irw Laws
set_option linter.unusedVariables false
set_option linter.unusedSimpArgs false
set_option maxRecDepth 20000
theorem rdN_none {most : Nat} (hm : most ≤ M64) {l : List Nat} (h : rdN M64 l = none) : rdN most l = none := by
  unfold rdN at *
  split at h
  · cases h
  · rename_i hc
    exact if_neg (fun z => hc ⟨z.1, by omega⟩)
theorem rdN_some {most : Nat} {l r : List Nat} {n : Nat} (h : rdN M64 l = some (n, r)) : rdN most l = if n ≤ most then some (n, r) else none := by
  unfold rdN at *
  split at h
  · rename_i hc
    simp only [Option.some.injEq, Prod.mk.injEq] at h
    obtain ⟨rfl, rfl⟩ := h
    by_cases hn : (rd l 0 0).1 ≤ most
    · rw [if_pos ⟨hc.1, hn⟩, if_pos hn]
    · rw [if_neg (fun z => hn z.2), if_neg hn]
  · cases h
theorem RdAt.turn {base R : Nat} {w : World} {st : Option (List Nat)} (h : RdAt base w R st) (hR : base ≤ R) : RdAt base (w.setCell ⟨R, 1, none⟩ (.bool true)) R none := by
  obtain ⟨a, l, c, bad, h1, h2, h3, h4, h5, h6⟩ := h
  exact RdAt.bad h1 h2 h3 h4 h5 hR
theorem RdAt.cell {base R : Nat} {w : World} {st : Option (List Nat)} (h : RdAt base w R st) : w.cell? ⟨R, 1, none⟩ = some (.bool st.isNone) := by
  obtain ⟨a, l, c, bad, h1, h2, h3, h4, h5, rfl⟩ := h
  rw [h1.2.1 1 _ rfl]
  cases bad <;> rfl
theorem RdAt.fz {base R : Nat} {w : World} {st : Option (List Nat)} (h : RdAt base w R st) (j : Nat) : w.frozen? ⟨R, j, none⟩ = false := by
  obtain ⟨a, l, c, bad, h1, _⟩ := h
  exact h1.2.2 j
theorem pV_le {st : Option (List Nat)} : pV (rdN M64) 0 st ≤ M64 := by
  unfold pV
  cases st with
  | none => simp
  | some l =>
    rw [Option.bind_some]
    cases h : rdN M64 l with
    | none => simp
    | some x =>
      obtain ⟨n, r⟩ := x
      unfold rdN at h
      split at h
      · rename_i hc
        cases h
        exact hc.2
      · cases h
/-- a number that is at most so great -/
theorem below_cases (most : Nat) (hm : most ≤ M64) (st : Option (List Nat)) : (pV (rdN M64) 0 st ≤ most ∧ pV (rdN most) 0 st = pV (rdN M64) 0 st ∧ pS (rdN most) st = pS (rdN M64) st) ∨ (most < pV (rdN M64) 0 st ∧ pV (rdN most) 0 st = 0 ∧ pS (rdN most) st = none) := by
  unfold pV pS
  cases st with
  | none => left; simp
  | some l =>
    simp only [Option.bind_some]
    cases h : rdN M64 l with
    | none =>
      left
      rw [rdN_none hm h]
      simp
    | some x =>
      obtain ⟨n, r⟩ := x
      rw [rdN_some h]
      by_cases hn : n ≤ most
      · left
        rw [if_pos hn]
        simpa using hn
      · right
        rw [if_neg hn]
        simp
        omega
set_option maxHeartbeats 1000000 in
theorem rbelow_any (base R most : Nat) (y : Int) (st : Option (List Nat)) (w : World) (h : RdAt base w R st) (hR : base ≤ R) (hm : most ≤ M63) (hy : y = most) :
    Calls Try.prog 39 #[.pointer (some ⟨R, 0, none⟩), .int .u64 y] w fun e w' => e = .returned (.int .i64 ((pV (rdN most) 0 st : Nat) : Int)) ∧ RdAt base w' R (pS (rdN most) st) ∧ Keep [R] w w' := by
  subst hy
  have C := rnumber_any base R st w h hR
  have hm2 : most ≤ M64 := by unfold M63 M64 at *; omega
  have hcs := below_cases most hm2 st
  have hle := pV_le (st := st)
  unfold M63 at hm
  obtain ⟨n, hn⟩ : ∃ n, n = pV (rdN M64) 0 st := ⟨_, rfl⟩
  rw [← hn] at C hcs hle
  unfold M64 at hle
  have HC := hid9 C
  have HR2 := hid9 hR
  clear C h hn hm2
  rcases hcs with ⟨q1, q2, q3⟩ | ⟨q1, q2, q3⟩
  · rw [q2, q3]
    have g1 : ¬ (most : Int) < (n : Int) := by omega
    have g2 : (n : Int) ≤ 9223372036854775807 := by omega
    clear q2 q3
    go_enter Try.func39, Try.ntmps39
    go_wp2_with (go_at_call 38; refine HC.out.mono ?_; rintro e w1 ⟨rfl, hr1, hk1⟩; have H1 := hid9 (And.intro hr1 hk1); clear hr1 hk1)
    go_ret
    exact ⟨by go_num, H1.out⟩
  · rw [q2, q3]
    have g1 : (most : Int) < (n : Int) := by omega
    clear q2 q3
    go_enter Try.func39, Try.ntmps39
    go_wp2_with (go_at_call 38; refine HC.out.mono ?_; rintro e w1 ⟨rfl, hr1, hk1⟩; have H1 := hid9 (And.intro hr1 hk1); have c1 := hr1.cell; have f1 := hr1.fz 1; clear hr1 hk1)
    go_ret
    exact ⟨rfl, H1.out.1.turn HR2.out, H1.out.2.trans (keep_set _ _)⟩
theorem text_le {l : List Nat} {s : List Nat} {k : Nat} (h : text l 64 = (s, k, 0)) : k ≤ l.length ∧ 1 ≤ l.length := by
  unfold text at h
  split at h
  · rename_i hc; simp only [Prod.mk.injEq] at h; exact absurd h.2.2 hc
  · split at h
    · simp at h
    · split at h
      · simp at h
      · rename_i h1 h2 h3
        simp only [Prod.mk.injEq] at h
        refine ⟨by omega, ?_⟩
        cases l with
        | nil => simp [rd] at h1
        | cons x l => simp
set_option maxHeartbeats 1000000 in
theorem rtext_any (base R : Nat) (st : Option (List Nat)) (w : World) (h : RdAt base w R st) (hR : base ≤ R) :
    Calls Try.prog 40 #[.pointer (some ⟨R, 0, none⟩)] w fun e w' => e = .returned (.string (pV rdK ⟨#[]⟩ st)) ∧ RdAt base w' R (pS rdK st) ∧ Keep [R] w w' := by
  obtain ⟨a, l, c, bad, h1, h2, h3, h4, h5, h6⟩ := h
  have C := refText_any a c l.length l 64 w h2 h3 h4 (by omega) rfl
  unfold txt at C
  obtain ⟨⟨s, k, f⟩, hx⟩ : ∃ x, text l 64 = x := ⟨_, rfl⟩
  rw [hx] at C
  dsimp only at C
  have HC := hid9 C
  have c0 := h1.2.1 0 _ rfl
  have c1 := h1.2.1 1 _ rfl
  have f0 := h1.2.2
  have HB : Hid (RdAt base (w.setCell ⟨R, 1, none⟩ (.bool true)) R none) := RdAt.bad h1 h2 h3 h4 h5 hR
  cases bad with
  | true =>
    simp only [if_true] at h6
    subst h6
    clear C h1 h2 h3 h4 h5 hx
    go_enter Try.func40, Try.ntmps40
    go_wp2_with (go_at_call 54; refine HC.out.mono ?_; rintro e w' ⟨rfl, hw⟩; obtain rfl := hw.symm; clear hw)
    go_ret
    exact ⟨rfl, HB.out, keep_set _ _⟩
  | false =>
    simp only [Bool.false_eq_true, if_false] at h6
    subst h6
    by_cases hf : f = 0
    · subst hf
      obtain ⟨q5, q4⟩ := text_le hx
      have hrn : rdK l = some (ofB s, l.drop k) := by
        unfold rdK
        rw [hx]
        exact if_pos rfl
      obtain ⟨b, off, rfl⟩ := isB_at h2 (by omega)
      have hV : pV rdK ⟨#[]⟩ (some l) = ofB s := by unfold pV; rw [Option.bind_some, hrn]; rfl
      have hS : pS rdK (some l) = some (l.drop k) := by unfold pS; rw [Option.bind_some, hrn]; rfl
      have hO : ∀ a' n' c', IsB w a' (l.drop k) → n' = (l.drop k).length → (l.drop k).length ≤ c' → c' ≤ 9223372036854775807 → (∀ b off, a' = some ⟨b, off, none⟩ → b < base) → RdAt base (w.setCell ⟨R, 0, none⟩ (.slice a' n' c')) R (some (l.drop k)) := fun a' n' c' z1 z2 z3 z4 z5 => RdAt.on h1 z1 z2 z3 z4 z5 hR
      have HO := hid9 hO
      have HI := hid9 h2
      have H5 := hid9 h5
      have HLD : Hid ((l.drop k).length = l.length - k) := by show _ = _; simp
      have HV := hid9 hV
      have HS := hid9 hS
      clear C h1 h2 hx hrn hV hS hO h5 HB
      generalize l.length = L at *
      have g1 : (k : Int) ≤ (L : Int) := by omega
      have g2 : (k : Int) ≤ (c : Int) := by omega
      have g3 : (L : Int) ≤ (c : Int) := by omega
      generalize ofB s = Z at *
      by_cases hkc : k = c
      · have e1 : k = L := by omega
        subst e1
        subst hkc
        go_enter Try.func40, Try.ntmps40
        go_wp2_with (go_at_call 54; refine HC.out.mono ?_; rintro e w' ⟨rfl, hw⟩; obtain rfl := hw.symm; clear hw)
        go_ret
        rw [HV.out, HS.out]
        refine ⟨rfl, HO.out _ _ _ ?_ ?_ ?_ ?_ ?_, keep_set _ _⟩
        · rw [List.eq_nil_of_length_eq_zero (HLD.out.trans (by omega))]; exact IsB.nil _ _
        · have := HLD.out; omega
        · have := HLD.out; omega
        · omega
        · intro b' o' e; cases e; exact H5.out _ _ rfl
      · have e2 : k < c := by omega
        have e3 : (k : Int) < (c : Int) := by omega
        have e4 : ¬ c - k = 0 := by omega
        go_enter Try.func40, Try.ntmps40
        go_wp2_with (go_at_call 54; refine HC.out.mono ?_; rintro e w' ⟨rfl, hw⟩; obtain rfl := hw.symm; clear hw)
        go_ret
        rw [HV.out, HS.out]
        refine ⟨rfl, HO.out _ _ _ ?_ ?_ ?_ ?_ ?_, keep_set _ _⟩
        · exact isB_drop' HI.out k
        · have := HLD.out; omega
        · have := HLD.out; omega
        · omega
        · intro b' o' e; cases e; exact H5.out _ _ rfl
    · have hrn : rdK l = none := by
        unfold rdK
        rw [hx]
        exact if_neg hf
      have hV : pV rdK ⟨#[]⟩ (some l) = ⟨#[]⟩ := by unfold pV; rw [Option.bind_some, hrn]; rfl
      have hS : pS rdK (some l) = none := by unfold pS; rw [Option.bind_some, hrn]; rfl
      rw [hV, hS]
      have hf2 : ¬ (f : Int) = 0 := by omega
      clear C h1 h2 h3 h4 h5 hx hrn hV hS
      go_enter Try.func40, Try.ntmps40
      go_wp2_with (go_at_call 54; refine HC.out.mono ?_; rintro e w' ⟨rfl, hw⟩; obtain rfl := hw.symm; clear hw)
      go_ret
      exact ⟨rfl, HB.out, keep_set _ _⟩
end Mnf
end Go.Proofs.Ytanpbknjnpmmnaa
namespace Go.Proofs.Ytanpbknjnpmmnaa
namespace Mnf
open Go.RowKit CMath Byt Cod Crw Irw Laws
set_option linter.unusedVariables false
set_option linter.unusedSimpArgs false
set_option maxRecDepth 20000
section math
variable {α β : Type}
theorem st_bind (o : List Nat → Option (α × List Nat)) (z : α) (st : Option (List Nat)) (F : α → List Nat → Option β) : st.bind (fun r => (o r).bind fun x => F x.1 x.2) = (pS o st).bind fun r => F (pV o z st) r := by
  cases st with
  | none => rfl
  | some l =>
    unfold pS pV
    cases h : o l <;> simp [h]
/-- so many things more are read -/
def lp (o : List Nat → Option (α × List Nat)) (m : Nat) (C : List α → List Nat → Option β) (xs : List α) (r : List Nat) : Option β := (rdL o m r).bind fun y => C (xs ++ y.1) y.2
theorem lp_start (o : List Nat → Option (α × List Nat)) (m : Nat) (C : List α → List Nat → Option β) (st : Option (List Nat)) : st.bind (fun r => (rdLst o m r).bind fun y => C y.1 y.2) = (pS (rdN m) st).bind (lp o (pV (rdN m) 0 st) C []) := by
  have h := st_bind (rdN m) 0 st (fun n r => lp o n C [] r)
  rw [← h]
  congr 1
  funext r
  unfold rdLst lp
  rw [Option.bind_assoc]
  simp
theorem lp_step (o : List Nat → Option (α × List Nat)) (n k : Nat) (C : List α → List Nat → Option β) (xs : List α) (hk : k < n) : lp o (n - k) C xs = fun r => (o r).bind fun x => lp o (n - (k + 1)) C (xs ++ [x.1]) x.2 := by
  funext r
  unfold lp
  rw [show n - k = (n - (k + 1)) + 1 by omega]
  simp only [rdL]
  cases o r with
  | none => rfl
  | some x =>
    simp only [Option.bind_some]
    cases rdL o (n - (k + 1)) x.2 with
    | none => rfl
    | some y => simp
theorem lp_done (o : List Nat → Option (α × List Nat)) (C : List α → List Nat → Option β) (xs : List α) : lp o 0 C xs = C xs := by
  funext r
  simp [lp, rdL]
theorem rdI_bind (m : Nat) (r : List Nat) (F : Int → List Nat → Option β) : ((rdI m r).bind fun x => F x.1 x.2) = (rdN m r).bind fun x => F (x.1 : Int) x.2 := by
  unfold rdI
  cases rdN m r <;> rfl
theorem rd2_bind {γ : Type} (o1 : List Nat → Option (α × List Nat)) (o2 : List Nat → Option (γ × List Nat)) (r : List Nat) (F : α × γ → List Nat → Option β) : ((rd2 o1 o2 r).bind fun x => F x.1 x.2) = (o1 r).bind fun x => (o2 x.2).bind fun y => F (x.1, y.1) y.2 := by
  unfold rd2
  cases o1 r with
  | none => rfl
  | some x =>
    simp only [Option.bind_some]
    cases o2 x.2 <;> rfl
end math
theorem pl_bind {β : Type} (st : Option (List Nat)) (F : Pl → List Nat → Option β) : st.bind (fun r => (rdPl r).bind fun x => F x.1 x.2) = (pS (rdN M64) (pS (rdN 4) st)).bind fun r => F (((pV (rdN 4) 0 st : Nat) : Int), pV (rdN M64) 0 (pS (rdN 4) st)) r := by
  rw [← st_bind (rdN M64) 0 (pS (rdN 4) st) (fun no r => F (((pV (rdN 4) 0 st : Nat) : Int), no) r)]
  rw [← st_bind (rdN 4) 0 st (fun lv r => (rdN M64 r).bind fun x => F ((lv : Int), x.1) x.2)]
  congr 1
  funext r
  unfold rdPl
  rw [rd2_bind]
  exact rdI_bind 4 r fun lv r => (rdN M64 r).bind fun y => F (lv, y.1) y.2
/-- how far the reader is behind a placed table, part by part -/
def d1 (st : Option (List Nat)) := pS (rdN 4) st
def d2 (st : Option (List Nat)) := pS (rdN M64) (d1 st)
def d3 (st : Option (List Nat)) := pS (rdN M63) (d2 st)
def d4 (st : Option (List Nat)) := pS (rdN M63) (d3 st)
def d5 (st : Option (List Nat)) := pS (rdN M63) (d4 st)
def d6 (st : Option (List Nat)) := pS rdK (d5 st)
def d7 (st : Option (List Nat)) := pS rdK (d6 st)
def dV (st : Option (List Nat)) : Pd := ⟨((pV (rdN 4) 0 st : Nat) : Int), pV (rdN M64) 0 (d1 st), ((pV (rdN M63) 0 (d2 st) : Nat) : Int), ((pV (rdN M63) 0 (d3 st) : Nat) : Int), ((pV (rdN M63) 0 (d4 st) : Nat) : Int), pV rdK ⟨#[]⟩ (d5 st), pV rdK ⟨#[]⟩ (d6 st)⟩
theorem pd_one {β : Type} (r : List Nat) (F : Pd → List Nat → Option β) : ((rdPd r).bind fun x => F x.1 x.2) = (rdN 4 r).bind fun a => (rdN M64 a.2).bind fun b => (rdN M63 b.2).bind fun c => (rdN M63 c.2).bind fun d => (rdN M63 d.2).bind fun e => (rdK e.2).bind fun f => (rdK f.2).bind fun g => F ⟨(a.1 : Int), b.1, (c.1 : Int), (d.1 : Int), (e.1 : Int), f.1, g.1⟩ g.2 := by
  unfold rdPd rdMap rdT rdPl rd2 rdI
  cases h1 : rdN 4 r with
  | none => simp
  | some a =>
    cases h2 : rdN M64 a.2 with
    | none => simp [h2]
    | some b =>
      cases h3 : rdN M63 b.2 with
      | none => simp [h2, h3]
      | some c =>
        cases h4 : rdN M63 c.2 with
        | none => simp [h2, h3, h4]
        | some d =>
          cases h5 : rdN M63 d.2 with
          | none => simp [h2, h3, h4, h5]
          | some e =>
            cases h6 : rdK e.2 with
            | none => simp [h2, h3, h4, h5, h6]
            | some f =>
              cases h7 : rdK f.2 with
              | none => simp [h2, h3, h4, h5, h6, h7]
              | some g => simp [h2, h3, h4, h5, h6, h7, ofT]
theorem pd_bind {β : Type} (st : Option (List Nat)) (F : Pd → List Nat → Option β) : st.bind (fun r => (rdPd r).bind fun x => F x.1 x.2) = (d7 st).bind fun r => F (dV st) r := by
  refine Eq.symm (Eq.trans (st_bind rdK ⟨#[]⟩ (d6 st) (fun g r => F ⟨((pV (rdN 4) 0 st : Nat) : Int), pV (rdN M64) 0 (d1 st), ((pV (rdN M63) 0 (d2 st) : Nat) : Int), ((pV (rdN M63) 0 (d3 st) : Nat) : Int), ((pV (rdN M63) 0 (d4 st) : Nat) : Int), pV rdK ⟨#[]⟩ (d5 st), g⟩ r)).symm ?_)
  refine Eq.trans (st_bind rdK ⟨#[]⟩ (d5 st) (fun f r => (rdK r).bind fun g => F ⟨((pV (rdN 4) 0 st : Nat) : Int), pV (rdN M64) 0 (d1 st), ((pV (rdN M63) 0 (d2 st) : Nat) : Int), ((pV (rdN M63) 0 (d3 st) : Nat) : Int), ((pV (rdN M63) 0 (d4 st) : Nat) : Int), f, g.1⟩ g.2)).symm ?_
  refine Eq.trans (st_bind (rdN M63) 0 (d4 st) (fun e r => (rdK r).bind fun f => (rdK f.2).bind fun g => F ⟨((pV (rdN 4) 0 st : Nat) : Int), pV (rdN M64) 0 (d1 st), ((pV (rdN M63) 0 (d2 st) : Nat) : Int), ((pV (rdN M63) 0 (d3 st) : Nat) : Int), (e : Int), f.1, g.1⟩ g.2)).symm ?_
  refine Eq.trans (st_bind (rdN M63) 0 (d3 st) (fun d r => (rdN M63 r).bind fun e => (rdK e.2).bind fun f => (rdK f.2).bind fun g => F ⟨((pV (rdN 4) 0 st : Nat) : Int), pV (rdN M64) 0 (d1 st), ((pV (rdN M63) 0 (d2 st) : Nat) : Int), (d : Int), (e.1 : Int), f.1, g.1⟩ g.2)).symm ?_
  refine Eq.trans (st_bind (rdN M63) 0 (d2 st) (fun c r => (rdN M63 r).bind fun d => (rdN M63 d.2).bind fun e => (rdK e.2).bind fun f => (rdK f.2).bind fun g => F ⟨((pV (rdN 4) 0 st : Nat) : Int), pV (rdN M64) 0 (d1 st), (c : Int), (d.1 : Int), (e.1 : Int), f.1, g.1⟩ g.2)).symm ?_
  refine Eq.trans (st_bind (rdN M64) 0 (d1 st) (fun b r => (rdN M63 r).bind fun c => (rdN M63 c.2).bind fun d => (rdN M63 d.2).bind fun e => (rdK e.2).bind fun f => (rdK f.2).bind fun g => F ⟨((pV (rdN 4) 0 st : Nat) : Int), b, (c.1 : Int), (d.1 : Int), (e.1 : Int), f.1, g.1⟩ g.2)).symm ?_
  refine Eq.trans (st_bind (rdN 4) 0 st (fun a r => (rdN M64 r).bind fun b => (rdN M63 b.2).bind fun c => (rdN M63 c.2).bind fun d => (rdN M63 d.2).bind fun e => (rdK e.2).bind fun f => (rdK f.2).bind fun g => F ⟨(a : Int), b.1, (c.1 : Int), (d.1 : Int), (e.1 : Int), f.1, g.1⟩ g.2)).symm ?_
  congr 1
  funext r
  exact (pd_one r F).symm
/-! a record as the document reads it -/
def e3 (a b c : Nat) (o : List Pl) (i : List Pd) (p : List ByteArray) (r : List Nat) : Option Ed := if r = [] then some ⟨a, b, c, o, i, p⟩ else none
def e2 (a b c : Nat) (o : List Pl) (i : List Pd) (r : List Nat) : Option Ed := (rdLst rdK 5 r).bind fun p => e3 a b c o i p.1 p.2
def e1 (a b c : Nat) (o : List Pl) (r : List Nat) : Option Ed := (rdLst rdPd 256 r).bind fun i => e2 a b c o i.1 i.2
def e0 (a b c : Nat) (r : List Nat) : Option Ed := (rdLst rdPl 256 r).bind fun o => e1 a b c o.1 o.2
def recR (l : List Nat) : Option Ed := (rdRo l).bind fun r => e0 r.1.1 r.1.2.1 r.1.2.2 r.2
theorem recR_start (l : List Nat) : recR l = (pS (rdN M64) (pS (rdN M64) (pS (rdN M64) (some l)))).bind (e0 (pV (rdN M64) 0 (some l)) (pV (rdN M64) 0 (pS (rdN M64) (some l))) (pV (rdN M64) 0 (pS (rdN M64) (pS (rdN M64) (some l))))) := by
  unfold recR rdRo rd2 pS pV
  cases h1 : rdN M64 l with
  | none => simp [h1]
  | some a =>
    cases h2 : rdN M64 a.2 with
    | none => simp [h1, h2]
    | some b =>
      cases h3 : rdN M64 b.2 with
      | none => simp [h1, h2, h3]
      | some c => simp [h1, h2, h3]
/-- the program's reader and the document's -/
theorem rdL_len {α : Type} {o : List Nat → Option (α × List Nat)} : ∀ (n : Nat) (l : List Nat) (y : List α × List Nat), rdL o n l = some y → y.1.length = n := by
  intro n
  induction n with
  | zero => intro l y h; simp only [rdL, Option.some.injEq] at h; subst h; rfl
  | succ n ih =>
    intro l y h
    unfold rdL at h
    cases a : o l with
    | none => rw [a] at h; cases h
    | some x =>
      rw [a, Option.bind_some] at h
      cases b : rdL o n x.2 with
      | none => rw [b] at h; cases h
      | some z =>
        rw [b] at h
        simp only [Option.map_some, Option.some.injEq] at h
        subst h
        simp [ih x.2 z b]
theorem rdN_cut (m : Nat) (hm : m ≤ 256) (r : List Nat) : rdN m r = (rdN 256 r).bind fun x => if x.1 ≤ m then some x else none := by
  unfold rdN
  by_cases h : (rd r 0 0).2.2 = 0 ∧ (rd r 0 0).1 ≤ 256
  · rw [if_pos h]
    simp only [Option.bind_some]
    by_cases h2 : (rd r 0 0).1 ≤ m
    · rw [if_pos ⟨h.1, h2⟩, if_pos h2]
    · rw [if_neg (fun z => h2 z.2), if_neg h2]
  · rw [if_neg h, if_neg (fun z => h ⟨z.1, by omega⟩)]
    rfl
theorem lst_cut {α : Type} (o : List Nat → Option (α × List Nat)) (m : Nat) (hm : m ≤ 256) (r : List Nat) : rdLst o m r = (rdLst o 256 r).bind fun y => if y.1.length ≤ m then some y else none := by
  unfold rdLst
  rw [rdN_cut m hm]
  cases h : rdN 256 r with
  | none => rfl
  | some x =>
    simp only [Option.bind_some]
    by_cases h2 : x.1 ≤ m
    · rw [if_pos h2]
      simp only [Option.bind_some]
      cases b : rdL o x.1 x.2 with
      | none => rfl
      | some y =>
        simp only [Option.bind_some]
        rw [if_pos (by rw [rdL_len _ _ _ b]; exact h2)]
    · rw [if_neg h2]
      cases b : rdL o x.1 x.2 with
      | none => rfl
      | some y =>
        simp only [Option.bind_some, Option.bind_none]
        rw [if_neg (by rw [rdL_len _ _ _ b]; exact h2)]
def fitR (last : Bool) (e : Ed) : Bool := decide (tabs e ≤ 256) && (last || (decide (tabs e = 256) && decide (e.ptr.length = 0)))
theorem rdBody_R (last : Bool) (l : List Nat) : rdBody last l = (recR l).bind fun e => if fitR last e = true then some e else none := by
  unfold rdBody recR e0 e1 e2 e3
  cases h1 : rdRo l with
  | none => rfl
  | some x =>
    simp only [Option.bind_some]
    cases h2 : rdLst rdPl 256 x.2 with
    | none => rfl
    | some o =>
      simp only [Option.bind_some]
      rw [lst_cut rdPd (256 - o.1.length) (by omega)]
      cases h3 : rdLst rdPd 256 o.2 with
      | none => rfl
      | some i =>
        simp only [Option.bind_some]
        have ho : o.1.length ≤ 256 := by
          unfold rdLst at h2
          cases a : rdN 256 x.2 with
          | none => rw [a] at h2; cases h2
          | some y =>
            rw [a, Option.bind_some] at h2
            rw [rdL_len _ _ _ h2]
            unfold rdN at a
            split at a
            · rename_i hc; cases a; exact hc.2
            · cases a
        by_cases hl : i.1.length ≤ 256 - o.1.length
        · rw [if_pos hl]
          simp only [Option.bind_some]
          cases h4 : rdLst rdK 5 i.2 with
          | none => rfl
          | some p =>
            simp only [Option.bind_some]
            by_cases hp : p.2 = []
            · rw [if_pos hp]
              simp only [Option.bind_some]
              have hf : fitR last ⟨x.1.1, x.1.2.1, x.1.2.2, o.1, i.1, p.1⟩ = true ↔ ¬ (p.2 ≠ [] ∨ (last = false ∧ ¬ (o.1.length + i.1.length = 256 ∧ p.1 = []))) := by
                unfold fitR tabs
                have : o.1.length + i.1.length ≤ 256 := by omega
                cases last <;> simp [hp, this, List.length_eq_zero_iff]
              by_cases hz : fitR last ⟨x.1.1, x.1.2.1, x.1.2.2, o.1, i.1, p.1⟩ = true
              · rw [if_neg (hf.1 hz), if_pos hz]
              · rw [if_neg hz, if_pos (by by_cases hq : (p.2 ≠ [] ∨ (last = false ∧ ¬ (o.1.length + i.1.length = 256 ∧ p.1 = [])))
                                          · exact hq
                                          · exact absurd (hf.2 hq) hz)]
            · rw [if_neg hp, if_pos (.inl hp)]
              rfl
        · rw [if_neg hl]
          simp only [Option.bind_none]
          cases h4 : rdLst rdK 5 i.2 with
          | none => rfl
          | some p =>
            simp only [Option.bind_some]
            by_cases hp : p.2 = []
            · rw [if_pos hp]
              simp only [Option.bind_some]
              rw [if_neg]
              unfold fitR tabs
              simp
              omega
            · rw [if_neg hp]
              rfl
end Mnf
end Go.Proofs.Ytanpbknjnpmmnaa
namespace Go.Proofs.Ytanpbknjnpmmnaa
namespace Mnf
open Go.RowKit CMath Byt Cod Crw Irw Laws
set_option linter.unusedVariables false
set_option linter.unusedSimpArgs false
set_option maxRecDepth 20000
theorem goes_keep {T : Nat → Nat} {w w' : World} {R : Nat} (h : Keep [R] w w') (hT : T R = 1) : Goes (· = 1) T w T w' :=
  ⟨h.os, h.tape, h.output, h.size, fun b hb hn => h.block b hb (by simp; rintro rfl; exact hn hT), fun _ _ _ => rfl, fun _ _ z => z⟩
/-- the state of Record: R the reader, E the edit, B what is answered -/
structure Rv (w : World) (T : Nat → Nat) (wr : World) (R E B : Nat) (st : Option (List Nat)) (a b c : Nat) (o i p : Sv) (xo : List Pl) (xi : List Pd) (xp : List ByteArray) : Prop where
  old : Old w T wr
  rd : RdAt w.heap.size wr R st
  tR : T R = 1
  box : Zb wr E (evC a b c o i p)
  tE : T E = 2
  res : Zb wr B (evC 0 0 0 nS nS nS)
  tB : T B = 3
  out : OwnK kPl 4 T wr (svV o) xo
  inn : OwnK kPd 5 T wr (svV i) xi
  ptr : OwnK kT 6 T wr (svV p) xp
variable {w wr w' : World} {T T' : Nat → Nat} {R E B a b c : Nat} {st st' : Option (List Nat)} {o i p s : Sv} {xo ro : List Pl} {xi ri : List Pd} {xp rp : List ByteArray}
theorem Rv.hR (h : Rv w T wr R E B st a b c o i p xo xi xp) : w.heap.size ≤ R := by
  rcases Nat.lt_or_ge R w.heap.size with hl | hl
  · have := h.old.zero R (.inl hl)
    rw [h.tR] at this
    cases this
  · exact hl
theorem RdAt.goes {t : Nat → Prop} {T T' : Nat → Nat} {w wr w' : World} {R : Nat} {st : Option (List Nat)} (h : RdAt w.heap.size wr R st) (hR : R < wr.heap.size) (hold : Old w T wr) (hg : Goes t T wr T' w') (h0 : ¬ t 0) (h1 : ¬ t (T R)) : RdAt w.heap.size w' R st :=
  h.keep (hg.block R hR h1) hg.size (fun b hb hl => hg.block b hl (by rw [hold.zero b (.inl hb)]; exact h0))
theorem RdAt.lt {base R : Nat} {w : World} {st : Option (List Nat)} (h : RdAt base w R st) : R < w.heap.size := by
  obtain ⟨a, l, c, bad, h1, _⟩ := h
  exact h1.1
/-- the reader has read on -/
theorem Rv.call (h : Rv w T wr R E B st a b c o i p xo xi xp) (hr : RdAt w.heap.size w' R st') (hk : Keep [R] wr w') : Rv w T w' R E B st' a b c o i p xo xi xp := by
  have hg := goes_keep hk h.tR
  exact ⟨h.old.goes hg (by decide), hr, h.tR, h.box.goes hg (by rw [h.tE]; decide), h.tE, h.res.goes hg (by rw [h.tB]; decide), h.tB, h.out.goes hg (by decide), h.inn.goes hg (by decide), h.ptr.goes hg (by decide)⟩
theorem Rv.goes {t : Nat → Prop} (h : Rv w T wr R E B st a b c o i p xo xi xp) (hg : Goes t T wr T' w') (h0 : ¬ t 0) (h1 : ¬ t 1) (h2 : ¬ t 2) (h3 : ¬ t 3) (h4 : ¬ t 4) (h5 : ¬ t 5) (h6 : ¬ t 6) : Rv w T' w' R E B st a b c o i p xo xi xp :=
  ⟨h.old.goes hg h0, h.rd.goes h.rd.lt h.old hg h0 (by rw [h.tR]; exact h1), (hg.tag R h.rd.lt (by rw [h.tR]; exact h1)).trans h.tR, h.box.goes hg (by rw [h.tE]; exact h2), (hg.tag E h.box.1 (by rw [h.tE]; exact h2)).trans h.tE, h.res.goes hg (by rw [h.tB]; exact h3), (hg.tag B h.res.1 (by rw [h.tB]; exact h3)).trans h.tB, h.out.goes hg h4, h.inn.goes hg h5, h.ptr.goes hg h6⟩
theorem Rv.below (h : Rv w T wr R E B st a b c o i p xo xi xp) (hb : Below wr.heap.size wr w') : Rv w T w' R E B st a b c o i p xo xi xp :=
  h.goes (Goes.below (t := fun _ => False) hb) id id id id id id id
/-- one thing more -/
theorem Rv.addO (h : Rv w T wr R E B st a b c o i p xo xi xp) (hg : Goes (· = 4) T wr T' w') (ho : OwnK kPl 4 T' w' (svV s) ro) : Rv w T' (w'.setCell ⟨E, 3, none⟩ (svV s)) R E B st a b c s i p ro xi xp := by
  have tE : T' E = 2 := (hg.tag E h.box.1 (by rw [h.tE]; decide)).trans h.tE
  have tR : T' R = 1 := (hg.tag R h.rd.lt (by rw [h.tR]; decide)).trans h.tR
  have tB : T' B = 3 := (hg.tag B h.res.1 (by rw [h.tB]; decide)).trans h.tB
  have g2 : Goes (· = 2) T' w' T' (w'.setCell ⟨E, 3, none⟩ (svV s)) := Goes.setCell tE
  have old := h.old.goes hg (by decide)
  have rd := h.rd.goes h.rd.lt h.old hg (by decide) (by rw [h.tR]; decide)
  exact ⟨old.goes g2 (by decide), rd.goes rd.lt old g2 (by decide) (by rw [tR]; decide), tR, (h.box.goes hg (by rw [h.tE]; decide)).set 3 (svV s), tE, (h.res.goes hg (by rw [h.tB]; decide)).goes g2 (by rw [tB]; decide), tB, ho.goes g2 (by decide), (h.inn.goes hg (by decide)).goes g2 (by decide), (h.ptr.goes hg (by decide)).goes g2 (by decide)⟩
theorem Rv.addI (h : Rv w T wr R E B st a b c o i p xo xi xp) (hg : Goes (· = 5) T wr T' w') (hi : OwnK kPd 5 T' w' (svV s) ri) : Rv w T' (w'.setCell ⟨E, 4, none⟩ (svV s)) R E B st a b c o s p xo ri xp := by
  have tE : T' E = 2 := (hg.tag E h.box.1 (by rw [h.tE]; decide)).trans h.tE
  have tR : T' R = 1 := (hg.tag R h.rd.lt (by rw [h.tR]; decide)).trans h.tR
  have tB : T' B = 3 := (hg.tag B h.res.1 (by rw [h.tB]; decide)).trans h.tB
  have g2 : Goes (· = 2) T' w' T' (w'.setCell ⟨E, 4, none⟩ (svV s)) := Goes.setCell tE
  have old := h.old.goes hg (by decide)
  have rd := h.rd.goes h.rd.lt h.old hg (by decide) (by rw [h.tR]; decide)
  exact ⟨old.goes g2 (by decide), rd.goes rd.lt old g2 (by decide) (by rw [tR]; decide), tR, (h.box.goes hg (by rw [h.tE]; decide)).set 4 (svV s), tE, (h.res.goes hg (by rw [h.tB]; decide)).goes g2 (by rw [tB]; decide), tB, (h.out.goes hg (by decide)).goes g2 (by decide), hi.goes g2 (by decide), (h.ptr.goes hg (by decide)).goes g2 (by decide)⟩
theorem Rv.addP (h : Rv w T wr R E B st a b c o i p xo xi xp) (hg : Goes (· = 6) T wr T' w') (hp : OwnK kT 6 T' w' (svV s) rp) : Rv w T' (w'.setCell ⟨E, 5, none⟩ (svV s)) R E B st a b c o i s xo xi rp := by
  have tE : T' E = 2 := (hg.tag E h.box.1 (by rw [h.tE]; decide)).trans h.tE
  have tR : T' R = 1 := (hg.tag R h.rd.lt (by rw [h.tR]; decide)).trans h.tR
  have tB : T' B = 3 := (hg.tag B h.res.1 (by rw [h.tB]; decide)).trans h.tB
  have g2 : Goes (· = 2) T' w' T' (w'.setCell ⟨E, 5, none⟩ (svV s)) := Goes.setCell tE
  have old := h.old.goes hg (by decide)
  have rd := h.rd.goes h.rd.lt h.old hg (by decide) (by rw [h.tR]; decide)
  exact ⟨old.goes g2 (by decide), rd.goes rd.lt old g2 (by decide) (by rw [tR]; decide), tR, (h.box.goes hg (by rw [h.tE]; decide)).set 5 (svV s), tE, (h.res.goes hg (by rw [h.tB]; decide)).goes g2 (by rw [tB]; decide), tB, (h.out.goes hg (by decide)).goes g2 (by decide), (h.inn.goes hg (by decide)).goes g2 (by decide), hp.goes g2 (by decide)⟩
/-- where the edit's parts lie -/
theorem Rv.cells (h : Rv w T wr R E B st a b c o i p xo xi xp) : wr.cell? ⟨E, 3, none⟩ = some (.slice o.1 o.2.1 o.2.2) ∧ wr.cell? ⟨E, 4, none⟩ = some (.slice i.1 i.2.1 i.2.2) ∧ wr.cell? ⟨E, 5, none⟩ = some (.slice p.1 p.2.1 p.2.2) ∧ (∀ j, wr.frozen? ⟨E, j, none⟩ = false) ∧ wr.cell? ⟨R, 1, none⟩ = some (.bool st.isNone) :=
  ⟨h.box.2.1 3 _ rfl, h.box.2.1 4 _ rfl, h.box.2.1 5 _ rfl, h.box.2.2, h.rd.cell⟩
end Mnf
end Go.Proofs.Ytanpbknjnpmmnaa
