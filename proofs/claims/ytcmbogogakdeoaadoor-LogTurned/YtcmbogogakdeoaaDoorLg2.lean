import Derived.Test.YtcmbogogakdeoaaDoorLg1
namespace Go.Proofs.YtcmbogogakdeoaaDoor
namespace Lgg
open Go.RowKit CMath Byt Cod Lg Laws
set_option linter.unusedVariables false
set_option linter.unusedSimpArgs false
set_option maxRecDepth 20000

theorem Rd.sl {w : World} {R : Nat} {l : List Nat} {e : Nat} (h : Rd w R l e) : ∃ a c, w.cell? ⟨R, 0, none⟩ = some (.slice a l.length c) ∧ l.length ≤ c ∧ c ≤ 9223372036854775807 ∧ IsB w a l := by
  rcases h.c0 with ⟨h1, rfl⟩ | ⟨b, off, c, h1, h2, h3, h4, h5⟩
  · exact ⟨none, 0, h1, by simp, by omega, IsB.nil _ _⟩
  · exact ⟨_, c, h1, h2, h3, h5⟩
theorem rd_k {l : List Nat} (hl : ∀ x ∈ l, x < 256) {n k f : Nat} (h : rd l 0 0 = (n, k, f)) : k ≤ l.length ∧ (f ≠ 0 → n = 0 ∧ k = 0) ∧ n < 18446744073709551616 ∧ k ≤ 10 := by
  by_cases hf : f = 0
  · subst hf
    have h1 := rd_bytes hl h
    have h2 := rd_ok0 hl h
    exact ⟨h1.2.1, fun e => absurd rfl e, h2.1, h1.2.2⟩
  · have h1 := rd_err0 l h hf
    exact ⟨by omega, fun _ => ⟨h1.1, h1.2.1⟩, by omega, by omega⟩

set_option maxHeartbeats 1000000 in
theorem number_err (R : Nat) (l : List Nat) (e : Nat) (w : World) (h : Rd w R l e) (he : e ≠ 0) :
    Calls Tryd.prog 23 #[.pointer (some ⟨R, 0, none⟩)] w fun r w' => r = .returned (.int .u64 0) ∧ w' = w := by
  have c1 := h.c1
  have q1 : ¬ (e : Int) = 0 := by omega
  have q2 : ((e : Int) != 0) = true := by simp; omega
  clear h
  go_enter Tryd.func23, Tryd.ntmps23
  go_wp2
  go_ret
  exact ⟨rfl, rfl⟩
set_option maxHeartbeats 1000000 in
theorem number_any (R : Nat) (l : List Nat) (w : World) (h : Rd w R l 0) :
    Calls Tryd.prog 23 #[.pointer (some ⟨R, 0, none⟩)] w fun r w' => r = .returned (.int .u64 ((rd l 0 0).1 : Nat)) ∧ Rd w' R (l.drop (rd l 0 0).2.1) (rd l 0 0).2.2 ∧ Keep [R] w w' := by
  have HR : Hid (Rd w R l 0) := h
  have c1 := h.c1
  obtain ⟨a, c, c0, h2, h3, hb⟩ := h.sl
  have HU := uint_any a c _ l w hb h2 h3 rfl
  obtain ⟨⟨n, k, f⟩, hr⟩ : ∃ x, rd l 0 0 = x := ⟨_, rfl⟩
  have hk := rd_k h.by_ hr
  rw [hr] at HU ⊢
  dsimp only at HU ⊢
  have HUU : Hid (Calls Tryd.prog 32 #[.slice a l.length c] w fun e w' => e = .returned (.tuple #[.int .u64 (n : Nat), .int .i64 (k : Nat), .int .i64 (f : Nat)]) ∧ w' = w) := HU
  clear h hb HU hr
  go_enter Tryd.func23, Tryd.ntmps23
  go_wp2_with (first
    | (go_at_call 32; refine HUU.out.mono ?_; rintro e w1 ⟨rfl, hw1⟩; obtain rfl := hw1.symm)
    | (go_at_call 33; refine (pass_any R k l 0 f _ _ _ rfl rfl HR.out hk.1).mono ?_; rintro r w2 ⟨⟨v2, rfl⟩, hr2, hk2⟩; have HP : Hid (Rd w2 R (l.drop k) f ∧ Keep [R] w w2) := ⟨hr2, hk2⟩; clear hr2 hk2))
  go_ret
  exact ⟨rfl, HP.out⟩

set_option maxHeartbeats 1000000 in
theorem text_err (R : Nat) (l : List Nat) (e : Nat) (m : Int) (w : World) (h : Rd w R l e) (he : e ≠ 0) :
    Calls Tryd.prog 43 #[.pointer (some ⟨R, 0, none⟩), .int .i64 m] w fun r w' => r = .returned (.string ⟨#[]⟩) ∧ w' = w := by
  have c1 := h.c1
  have q1 : ¬ (e : Int) = 0 := by omega
  have q2 : ((e : Int) != 0) = true := by simp; omega
  clear h
  go_enter Tryd.func43, Tryd.ntmps43
  go_wp2
  go_ret
  exact ⟨rfl, rfl⟩
theorem text_k {l : List Nat} {m : Int} {s : List Nat} {k f : Nat} (hl : ∀ x ∈ l, x < 256) (h : text l m = (s, k, f)) : k ≤ l.length ∧ (f ≠ 0 → s = [] ∧ k = 0) := by
  obtain ⟨⟨n, j, g⟩, hr⟩ : ∃ x, rd l 0 0 = x := ⟨_, rfl⟩
  have hk := rd_k hl hr
  unfold text at h
  rw [hr] at h
  dsimp only at h
  split at h
  · cases h; exact ⟨by omega, fun _ => ⟨rfl, rfl⟩⟩
  · split at h
    · cases h; exact ⟨by omega, fun _ => ⟨rfl, rfl⟩⟩
    · split at h
      · cases h; exact ⟨by omega, fun _ => ⟨rfl, rfl⟩⟩
      · cases h; exact ⟨by omega, fun e => absurd rfl e⟩
set_option maxHeartbeats 1000000 in
theorem text_any' (R : Nat) (l : List Nat) (m : Int) (w : World) (h : Rd w R l 0) (hm : 0 ≤ m ∧ m ≤ 1000) :
    Calls Tryd.prog 43 #[.pointer (some ⟨R, 0, none⟩), .int .i64 m] w fun r w' => r = .returned (.string (ofB (text l m).1)) ∧ Rd w' R (l.drop (text l m).2.1) (text l m).2.2 ∧ Keep [R] w w' := by
  have HR : Hid (Rd w R l 0) := h
  have c1 := h.c1
  obtain ⟨a, c, c0, h2, h3, hb⟩ := h.sl
  have HU := text_any a c _ l m w hb h2 h3 (by omega) rfl
  unfold txt at HU
  obtain ⟨⟨s, k, f⟩, hr⟩ : ∃ x, text l m = x := ⟨_, rfl⟩
  have hk := text_k h.by_ hr
  rw [hr] at HU ⊢
  dsimp only at HU ⊢
  have HUU : Hid (Calls Tryd.prog 44 #[.slice a l.length c, .int .i64 m] w fun e w' => e = .returned (.tuple #[.string (ofB s), .int .i64 (k : Nat), .int .i64 (f : Nat)]) ∧ w' = w) := HU
  clear h hb HU hr
  go_enter Tryd.func43, Tryd.ntmps43
  go_wp2_with (first
    | (go_at_call 44; refine HUU.out.mono ?_; rintro e w1 ⟨rfl, hw1⟩; obtain rfl := hw1.symm)
    | (go_at_call 33; refine (pass_any R k l 0 f _ _ _ rfl rfl HR.out hk.1).mono ?_; rintro r w2 ⟨⟨v2, rfl⟩, hr2, hk2⟩; have HP : Hid (Rd w2 R (l.drop k) f ∧ Keep [R] w w2) := ⟨hr2, hk2⟩; clear hr2 hk2))
  go_ret
  exact ⟨rfl, HP.out⟩

set_option maxHeartbeats 1000000 in
theorem kind_err (R : Nat) (l : List Nat) (e : Nat) (w : World) (h : Rd w R l e) (he : e ≠ 0) :
    Calls Tryd.prog 41 #[.pointer (some ⟨R, 0, none⟩)] w fun r w' => r = .returned (.int .u8 0) ∧ w' = w := by
  have c1 := h.c1
  have q1 : ¬ (e : Int) = 0 := by omega
  have q2 : ((e : Int) != 0) = true := by simp; omega
  clear h
  go_enter Tryd.func41, Tryd.ntmps41
  go_wp2
  go_ret
  exact ⟨rfl, rfl⟩
/-- what kind answers: the byte, what is left, the error -/
def knd (l : List Nat) : Nat × List Nat × Nat :=
  match l with
  | [] => (0, [], 20)
  | c :: r => if 1 < c then (0, c :: r, 21) else (c, r, 0)
set_option maxHeartbeats 1000000 in
theorem kind_any (R : Nat) (l : List Nat) (w : World) (h : Rd w R l 0) :
    Calls Tryd.prog 41 #[.pointer (some ⟨R, 0, none⟩)] w fun r w' => r = .returned (.int .u8 ((knd l).1 : Nat)) ∧ Rd w' R (knd l).2.1 (knd l).2.2 ∧ Keep [R] w w' := by
  have HR : Hid (Rd w R l 0) := h
  have c1 := h.c1
  have f1 := h.fr 1
  have hlt := h.lt
  have hby := h.by_
  obtain ⟨a, c, c0, h2, h3, hb⟩ := h.sl
  clear h
  cases l with
  | nil =>
    go_enter Tryd.func41, Tryd.ntmps41
    go_wp2
    go_ret
    exact ⟨rfl, HR.out.err 20, Keep.set w R 1 _⟩
  | cons x r =>
    obtain ⟨b, off, rfl, hr⟩ := hb.1 (by simp)
    have d0 := hr.2 0 x rfl
    rw [Nat.add_zero] at d0
    have hx := hby x (List.mem_cons_self ..)
    rw [List.length_cons] at c0 h2
    have q3 : ¬ ((r.length : Int) + 1 = 0) := by omega
    have q4 : (0 : Int) < (r.length : Int) + 1 := by omega
    clear hb hr hby
    by_cases h1 : 1 < x
    · have q5 : (1 : Int) < (x : Int) := by omega
      have e : knd (x :: r) = (0, x :: r, 21) := by simp [knd, h1]
      rw [e]
      go_enter Tryd.func41, Tryd.ntmps41
      go_wp2
      go_ret
      exact ⟨rfl, HR.out.err 21, Keep.set w R 1 _⟩
    · have q5 : ¬ (1 : Int) < (x : Int) := by omega
      have e : knd (x :: r) = (x, r, 0) := by simp [knd, h1]
      rw [e]
      go_enter Tryd.func41, Tryd.ntmps41
      go_wp2_with (go_at_call 33; refine (pass_any R 1 (x :: r) 0 0 _ _ _ rfl rfl HR.out (by simp)).mono ?_; rintro r1 w2 ⟨⟨v2, rfl⟩, hr2, hk2⟩; have HP : Hid (Rd w2 R ((x :: r).drop 1) 0 ∧ Keep [R] w w2) := ⟨hr2, hk2⟩; clear hr2 hk2)
      go_ret
      exact ⟨rfl, HP.out⟩

theorem loop_len (b : ByteArray) : ∀ n i r, b.size - i = n → (ByteArray.toList.loop b i r).length = r.length + n := by
  intro n
  induction n with
  | zero =>
    intro i r h
    unfold ByteArray.toList.loop
    rw [if_neg (by omega)]
    simp
  | succ n ih =>
    intro i r h
    unfold ByteArray.toList.loop
    rw [if_pos (by omega), ih (i + 1) _ (by omega)]
    simp
    omega
theorem ofB_ne {s : List Nat} (hs : s ≠ []) : (ofB s).toList.isEmpty = false := by
  have h : (ofB s).toList.length = (ofB s).size := by
    unfold ByteArray.toList
    rw [loop_len _ _ 0 [] rfl]
    simp
  have h2 : (ofB s).size = s.length := by simp [ofB, ByteArray.size]
  have h3 : 0 < s.length := List.length_pos_iff.2 hs
  cases hh : (ofB s).toList with
  | nil => rw [hh] at h; simp at h; omega
  | cons a r => rfl
set_option maxHeartbeats 1000000 in
theorem key_err (R : Nat) (l : List Nat) (e : Nat) (w : World) (h : Rd w R l e) (he : e ≠ 0) :
    Calls Tryd.prog 42 #[.pointer (some ⟨R, 0, none⟩)] w fun r w' => r = .returned (.string ⟨#[]⟩) ∧ w' = w := by
  have HR : Hid (Rd w R l e) := h
  have c1 := h.c1
  have q1 : ¬ (e : Int) = 0 := by omega
  have q2 : ((e : Int) == 0) = false := by simp; omega
  clear h
  go_enter Tryd.func42, Tryd.ntmps42
  go_wp2_with (go_at_call 43; refine (text_err R l e _ w HR.out he).mono ?_; rintro r w1 ⟨rfl, hw1⟩; obtain rfl := hw1.symm)
  go_ret
  exact ⟨rfl, rfl⟩
/-- what key answers: its bytes, what is left, the error -/
def ky (l : List Nat) : List Nat × List Nat × Nat := ((text l 64).1, l.drop (text l 64).2.1, if (text l 64).2.2 = 0 ∧ (text l 64).1 = [] then 21 else (text l 64).2.2)
set_option maxHeartbeats 1000000 in
theorem key_any (R : Nat) (l : List Nat) (w : World) (h : Rd w R l 0) :
    Calls Tryd.prog 42 #[.pointer (some ⟨R, 0, none⟩)] w fun r w' => r = .returned (.string (ofB (ky l).1)) ∧ Rd w' R (ky l).2.1 (ky l).2.2 ∧ Keep [R] w w' := by
  have HR : Hid (Rd w R l 0) := h
  have HT := text_any' R l 64 w h (by omega)
  unfold ky
  obtain ⟨⟨s, k, f⟩, hr⟩ : ∃ x, text l 64 = x := ⟨_, rfl⟩
  rw [hr] at HT ⊢
  dsimp only at HT ⊢
  have HTT : Hid (Calls Tryd.prog 43 #[.pointer (some ⟨R, 0, none⟩), .int .i64 64] w fun r w' => r = .returned (.string (ofB s)) ∧ Rd w' R (l.drop k) f ∧ Keep [R] w w') := HT
  clear h HT hr
  by_cases hf : f = 0
  · subst hf
    by_cases hs : s = []
    · subst hs
      rw [if_pos ⟨rfl, rfl⟩]
      go_enter Tryd.func42, Tryd.ntmps42
      go_wp2_with (go_at_call 43; refine HTT.out.mono ?_; rintro r w1 ⟨rfl, hr1, hk1⟩; have HP : Hid (Rd w1 R (l.drop k) 0 ∧ Keep [R] w w1) := ⟨hr1, hk1⟩; have d1 := hr1.c1; have g1 := hr1.fr 1; have hl1 := hr1.lt; have hof : ofB [] = ⟨#[]⟩ := rfl; clear hr1 hk1)
      go_ret
      exact ⟨rfl, HP.out.1.err 21, HP.out.2.trans (Keep.set _ R 1 _)⟩
    · rw [if_neg (by rintro ⟨_, h⟩; exact hs h)]
      have hne : (ofB s).toList.isEmpty = false := ofB_ne hs
      go_enter Tryd.func42, Tryd.ntmps42
      go_wp2_with (go_at_call 43; refine HTT.out.mono ?_; rintro r w1 ⟨rfl, hr1, hk1⟩; have HP : Hid (Rd w1 R (l.drop k) 0 ∧ Keep [R] w w1) := ⟨hr1, hk1⟩; have d1 := hr1.c1; clear hr1 hk1)
      go_ret
      exact ⟨rfl, HP.out.1, HP.out.2⟩
  · rw [if_neg (by rintro ⟨h, _⟩; exact hf h)]
    have q1 : ¬ (f : Int) = 0 := by omega
    have q2 : ((f : Int) == 0) = false := by simp; omega
    go_enter Tryd.func42, Tryd.ntmps42
    go_wp2_with (go_at_call 43; refine HTT.out.mono ?_; rintro r w1 ⟨rfl, hr1, hk1⟩; have HP : Hid (Rd w1 R (l.drop k) f ∧ Keep [R] w w1) := ⟨hr1, hk1⟩; have d1 := hr1.c1; clear hr1 hk1)
    go_ret
    exact ⟨rfl, HP.out.1, HP.out.2⟩

end Lgg
end Go.Proofs.YtcmbogogakdeoaaDoor
