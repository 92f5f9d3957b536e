import Derived.Test.YtodgomgacgoliaaKn4
namespace Go.Proofs.Ytodgomgacgoliaa
namespace Hp
open Go.RowKit Laws Irw
set_option linter.unusedVariables false
set_option maxRecDepth 100000
set_option linter.unusedSimpArgs false

def oddF (o a b : Int) : Bool := (IntKind.u64.wrap (IntKind.u64.wrap (IntKind.u64.wrap (IntKind.u64.wrap a * 31) + IntKind.u64.wrap (IntKind.u64.wrap b * 17)) + IntKind.u64.wrap o)).tmod 3 == 0
theorem odder_any (o a b : Int) (w : World) : Calls Try.prog 20 #[.int .i64 o, .int .i64 a, .int .i64 b] w fun e w' => e = .returned (.bool (oddF o a b)) ∧ w' = w := by
  go_enter Try.func20, Try.ntmps20
  go_wp2
  go_ret
  exact ⟨rfl, rfl⟩
theorem less_odd : Less 19 oddF := by
  refine ⟨enters_of Try.func19 (by kernel_rfl) rfl, fun o a b B W hc => ?_⟩
  go_enter Try.func19, Try.ntmps19
  go_wp2_with (go_at_call 20; refine (odder_any o a b _).mono ?_; rintro e w9 ⟨rfl, hw9⟩; have hw8 := hw9.symm; clear hw9; subst hw8)
  go_ret
  exact ⟨rfl, 0, rfl⟩

/-- What stands between two rounds of PileAny. -/
structure PA (w0 : World) (T : Nat → Nat) (w : World) (h B b : Nat) (o : Int) (l m : List Int) : Prop where
  heap : HeapAt 1 T w h 19 B o l
  bag : BagAt 4 T w b 3 m
  old : Old w0 T w
  perm : l.Perm m
theorem PA.below {w0 : World} {T : Nat → Nat} {w w' : World} {h B b : Nat} {o : Int} {l m : List Int} (p : PA w0 T w h B b o l m) (hb : Below w.heap.size w w') : PA w0 T w' h B b o l m :=
  ⟨p.heap.below hb, p.bag.below hb, p.old.goes (Goes.below (t := fun _ => False) hb) (fun z => z), p.perm⟩
/-- a push and a put -/
def PushCall (T : Nat → Nat) (w : World) (h B : Nat) (o : Int) (l : List Int) (x : Int) : Prop := Calls Try.prog 21 #[.pointer (some ⟨h, 0, none⟩), .int .i64 x] w fun e w' => e = .returned (.tuple #[]) ∧ PushIs (oddF o) 1 T w h 19 B o l x w'

theorem PA.pop {w0 : World} {T : Nat → Nat} {w : World} {h B b : Nat} {o : Int} {l m : List Int} (p : PA w0 T w h B b o l m) (h0 : 0 < l.length) (hl : l.length ≤ 10000000000) :
    Calls Try.prog 23 #[.pointer (some ⟨h, 0, none⟩)] w fun e w' => e = .returned (.tuple #[.int .i64 (l.getD 0 0), .bool true]) ∧ Hid (∃ T' l', HeapAt 1 T' w' h 19 B o l' ∧ BagAt 4 T' w' b 3 m ∧ Old w0 T' w' ∧ (l.getD 0 0 :: l').Perm m) := by
  refine (pop_any 1 T w h _ B o l less_odd p.heap h0 hl).mono ?_
  rintro e w' ⟨rfl, T', l', k1, k2, k3, k4⟩
  exact ⟨rfl, T', l', k1, p.bag.goes k2 (by omega) (by omega), p.old.goes k2 (by omega), k3.trans p.perm⟩
theorem take_of {w0 : World} {T : Nat → Nat} {w : World} {h B b : Nat} {o x : Int} {l' m : List Int} (k1 : HeapAt 1 T w h 19 B o l') (k2 : BagAt 4 T w b 3 m) (k3 : Old w0 T w) (k4 : (x :: l').Perm m) (hl : m.length ≤ 10000000000) :
    Calls Try.prog 24 #[.pointer (some ⟨b, 0, none⟩), .int .i64 x] w fun e w' => e = .returned (.bool true) ∧ Hid (∃ T' m', PA w0 T' w' h B b o l' m' ∧ m'.length + 1 = m.length) := by
  refine (take_any 4 T w b 3 m x k2 (k4.mem_iff.1 (by simp)) (by omega)).mono ?_
  rintro e w' ⟨rfl, m', ⟨T', z1, z2⟩, z3⟩
  exact ⟨rfl, T', m', ⟨k1.goes z2 (by omega) (by omega) (by omega), z1, k3.goes z2 (by omega), (k4.trans z3.symm).cons_inv⟩, by have := z3.length_eq; simpa using this⟩

def cellLen (w : World) (b : Nat) : Nat := match w.cell? ⟨b, 1, none⟩ with
  | some (.slice _ n _) => n
  | _ => 0
theorem BagAt.cellLen {t : Nat} {T : Nat → Nat} {w : World} {b : Nat} {o : Int} {l : List Int} (h : BagAt t T w b o l) : cellLen w b = l.length := by
  obtain ⟨a, c, hc, _⟩ := h.form
  unfold Hp.cellLen
  rw [hc]
/-- Len, and what is in the bag, in one region -/
theorem PA.len {w0 : World} {T : Nat → Nat} {w : World} {h B b : Nat} {o : Int} {l m : List Int} (p : PA w0 T w h B b o l m) : ∀ z, Calls Try.prog 25 #[.pointer (some ⟨h, 0, none⟩)] (w.drewN z) fun e w' => e = .returned (.int .i64 (m.length : Int)) ∧ w' = w.drewN z := fun z => by
  have := len_any 1 T (w.drewN z) h _ B o l (p.heap.below (below_drewN (Below.refl _ _) _))
  rwa [p.perm.length_eq] at this

set_option maxHeartbeats 8000000 in
theorem any_walk (o : Int) (a : Option Addr) (c : Nat) (l : List Int) (w : World) (ha : IsI w a l) :
    Calls Try.prog 5 #[.int .i64 o, .slice a l.length c] w fun e w' => e = .returned (.bool true) ∧ Below w.heap.size w w' := by
  have HA : Hid (IsI w a l) := ha
  clear ha
  have hmf : ∀ (fn : Fn) (first cap : Array Value) (w : World), (Instr.makeFunc fn first cap).run Try.prog w = .ok (.func fn first cap) w := fun _ _ _ _ => rfl
  by_cases hs : l.length ≤ 600
  case neg =>
    have hs' : (600 : Int) < (l.length : Int) := by omega
    go_enter Try.func5, Try.ntmps5
    go_wp2
    go_ret
    exact ⟨rfl, (Below.refl _ _).alloc (Nat.le_refl _) _⟩
  have hs' : ¬ (600 : Int) < (l.length : Int) := by omega
  go_enter Try.func5, Try.ntmps5
  go_wp2_with fail
  refine (known_any _).mono ?_
  rintro e w1 ⟨rfl, hb1⟩
  have hb0 : Below w.heap.size w w1 := ((Below.refl _ _).alloc (Nat.le_refl _) _).trans (hb1.mono (by simp))
  have cB : w1.cell? ⟨w.heap.size, 0, none⟩ = some (.int .i64 o) := (hb1.cell (p := ⟨w.heap.size, 0, none⟩) (by simp)).trans (by simp)
  have hBl : w.heap.size < w1.heap.size := by have := hb1.size; simp at this; omega
  clear hb1
  go_wp2_with fail
  refine (new_any (upd (fun _ => 0) w.heap.size 3) w1 19 w.heap.size o 1 hBl (upd_same _ _ _) cB).mono ?_
  rintro e w2 ⟨rfl, hh2, hb2⟩
  have HH2 : Hid (HeapAt 1 (upd (upd (fun _ => 0) w.heap.size 3) w1.heap.size 1) w2 w1.heap.size 19 w.heap.size o [] ∧ Old w (upd (upd (fun _ => 0) w.heap.size 3) w1.heap.size 1) w2) := ⟨hh2, hb0.trans (hb2.mono (by omega)), fun b hb => by have := hh2.dirs.lth; have := hh2.dirs.ltB; rw [upd_other _ _ (by omega), upd_other _ _ (by omega)]⟩
  clear hh2 hb2 cB hb0 hBl
  generalize upd (upd (fun _ => 0) w.heap.size 3) w1.heap.size 1 = T1 at *
  generalize w1.heap.size = h at *
  generalize hBB : w.heap.size = B at HH2 ⊢
  go_wp2
  have HP0 : Hid (PA w (upd T1 w2.heap.size 4) (w2.alloc (.cells #[.int .i64 3, .slice none 0 0] 29)) h B w2.heap.size o [] []) := by
    have hg : Goes (fun _ => False) T1 w2 (upd T1 w2.heap.size 4) (w2.alloc (.cells #[.int .i64 3, .slice none 0 0] 29)) := by
      have hb : Below w2.heap.size w2 (w2.alloc (.cells #[.int .i64 3, .slice none 0 0] 29)) := (Below.refl _ _).alloc (Nat.le_refl _) _
      exact ⟨hb.os, hb.tape, hb.output, hb.size, fun b h1 _ => hb.block b h1, fun b h1 _ => upd_other _ _ (by omega), fun b h1 h2 => by rw [upd_other _ _ (by simp at h1; omega)]; exact h2⟩
    exact ⟨HH2.out.1.goes hg (fun z => z) (fun z => z) (fun z => z), ⟨upd_same _ _ _, by simp, by simp, by simp, .slice none 0 0, by simp, OwnL.nil _ _ _⟩, HH2.out.2.goes hg (fun z => z), List.Perm.refl _⟩
  clear HH2
  generalize upd T1 w2.heap.size 4 = T2 at *
  generalize hb9 : w2.heap.size = b at *
  clear hb9
  clear hBB
  go_loopw [7] (fun i wr => ∃ (k : Nat) (T : Nat → Nat) (l1 m1 : List Int), k ≤ l.length ∧ i = .int .i64 (k : Int) ∧ m1.length ≤ k ∧ Hid (PA w T wr h B b o l1 m1)) (fun i _ => l.length - (intOf i).toNat)
  case atStart => exact ⟨0, T2, [], [], Nat.zero_le _, rfl, by simp, HP0⟩
  case round =>
    clear HP0
    obtain ⟨k, T, l1, m1, hk, rfl, hml, HP⟩ := hrel
    have hll : l1.length = m1.length := HP.out.perm.length_eq
    have hll6 : l1.length ≤ 600 := by omega
    have hmm6 : m1.length ≤ 600 := by omega
    clear hll
    by_cases hlt : k < l.length
    · as_aux_lemma =>
        obtain ⟨bl, ol, haa, hrl⟩ := HA.out.at_ (by omega)
        subst haa
        have HR : Hid (IRow w bl ol l) := hrl
        clear hrl
        obtain ⟨x, hx⟩ : ∃ x, l.getD k 0 = x := ⟨_, rfl⟩
        have HX : Hid (∀ W : World, Below w.heap.size w W → W.cell? ⟨bl, ol + k, none⟩ = some (.int .i64 x)) := fun W hW => by rw [← hx]; exact (hW.cell (p := ⟨bl, ol + k, none⟩) HR.out.1).trans (HR.out.cell hlt)
        clear hx
        have cx := HX.out wr HP.out.old.below
        have d1 : (k : Int) < (l.length : Int) := by omega
        have w4 : IntKind.i64.wrap ((k : Int) + 1) = (k : Int) + 1 := IntWalk.i64_in _ (by omega)
        go_wp2_with fail
        refine (push_any 1 T wr h 19 B o l1 x less_odd HP.out.heap (by omega)).mono ?_
        rintro e w3 ⟨rfl, T3, l3, k1, k2, k3, k4⟩
        have H3 : Hid (HeapAt 1 T3 w3 h 19 B o l3 ∧ BagAt 4 T3 w3 b 3 m1 ∧ Old w T3 w3 ∧ l3.Perm (m1 ++ [x])) := ⟨k1, HP.out.bag.goes k2 (by omega) (by omega), HP.out.old.goes k2 (by omega), k3.trans (HP.out.perm.append_right _)⟩
        clear k1 k2 k3 k4 HP cx
        have cx3 := HX.out w3 H3.out.2.2.1.below
        go_wp2_with fail
        refine (put_any 4 T3 w3 b 3 m1 x H3.out.2.1 (by omega)).mono ?_
        rintro e w4 ⟨rfl, T4, z1, z2⟩
        have HQ : Hid (PA w T4 w4 h B b o l3 (m1 ++ [x])) := ⟨H3.out.1.goes z2 (by omega) (by omega) (by omega), z1, H3.out.2.2.1.goes z2 (by omega), H3.out.2.2.2⟩
        have hm4 : (m1 ++ [x]).length ≤ k + 1 ∧ 0 < (m1 ++ [x]).length := by simp; omega
        clear z1 z2 H3 cx3
        generalize m1 ++ [x] = m4 at *
        obtain ⟨hm4a, hm4b⟩ := hm4
        have hl3 : 0 < l3.length ∧ l3.length ≤ 601 := by have := HQ.out.perm.length_eq; omega
        obtain ⟨hl3a, hl3b⟩ := hl3
        have hkt : (k : Int).tmod 3 = ((k % 3 : Nat) : Int) := rfl
        by_cases hr2 : k % 3 = 2
        · have hrem : (k : Int).tmod 3 = 2 := by rw [hkt, hr2]; rfl
          clear hkt hr2
          go_wp2_with fail
          refine (HQ.out.pop hl3a (by omega)).mono ?_
          rintro e w5 ⟨rfl, HX5⟩
          obtain ⟨T5, l5, k1, k2, k3, k4⟩ := HX5.out
          clear HX5 HQ
          generalize l3.getD 0 0 = y at *
          have HTK : Hid (Calls Try.prog 24 #[.pointer (some ⟨b, 0, none⟩), .int .i64 y] w5 fun e w' => e = .returned (.bool true) ∧ Hid (∃ T' m', PA w T' w' h B b o l5 m' ∧ m'.length + 1 = m4.length)) := take_of k1 k2 k3 k4 (by omega)
          clear k1 k2 k3 k4
          go_wp2_with fail
          refine HTK.out.mono ?_
          rintro e w6 ⟨rfl, HX6⟩
          obtain ⟨T6, m6, hq, hm6⟩ := HX6.out
          have HQ : Hid (PA w T6 w6 h B b o l5 m6) := hq
          clear HX6 HTK hq
          obtain ⟨am, cm, hcm, _⟩ := HQ.out.bag.form
          have HLN : Hid _ := HQ.out.len
          go_wp2
          go_quiet ((go_at_call 25; exact Calls.quiet_of_same (HLN.out _)))
          go_wp2
          go_roundw
          case rel => exact ⟨k + 1, T6, l5, m6, by omega, by go_num, by omega, HQ.out.below (below_drewN (Below.refl _ _) _)⟩
          case measure => simp [intOf]; omega
        · have hr3 : ¬ ((k % 3 : Nat) : Int) = 2 := by omega
          generalize k % 3 = r at *
          clear hr2
          obtain ⟨am, cm, hcm, _⟩ := HQ.out.bag.form
          have HLN : Hid _ := HQ.out.len
          go_wp2
          go_quiet ((go_at_call 25; exact Calls.quiet_of_same (HLN.out _)))
          go_wp2
          go_roundw
          case rel => exact ⟨k + 1, T4, l3, m4, by omega, by go_num, by omega, HQ.out.below (below_drewN (Below.refl _ _) _)⟩
          case measure => simp [intOf]; omega
    · as_aux_lemma =>
        have d1 : ¬ (k : Int) < (l.length : Int) := by omega
        go_wp2
        go_loopw [10] (fun _ wr => ∃ (T : Nat → Nat) (l1 m1 : List Int), m1.length ≤ 600 ∧ Hid (PA w T wr h B b o l1 m1)) (fun _ wr => cellLen wr b)
        case atStart => exact ⟨T, l1, m1, hmm6, HP⟩
        case round =>
          clear HP hll6 hml hmm6
          obtain ⟨T, l1, m1, hmm, HP⟩ := hrel
          rename World => wq
          obtain ⟨am, cm, hcm, _⟩ := HP.out.bag.form
          have hll : l1.length = m1.length := HP.out.perm.length_eq
          have HLL : Hid (l1.length = m1.length) := hll
          have hl6 : l1.length ≤ 600 := by omega
          by_cases h0 : 0 < m1.length
          · have d2 : (0 : Int) < (m1.length : Int) := by omega
            have hl0 : 0 < l1.length := by omega
            clear hll
            go_wp2_with fail
            refine (HP.out.pop hl0 (by omega)).mono ?_
            rintro e w5 ⟨rfl, HX5⟩
            obtain ⟨T5, l5, k1, k2, k3, k4⟩ := HX5.out
            have HCL : Hid (cellLen wq b = m1.length) := HP.out.bag.cellLen
            clear HX5 HP
            generalize l1.getD 0 0 = y at *
            have HTK : Hid (Calls Try.prog 24 #[.pointer (some ⟨b, 0, none⟩), .int .i64 y] w5 fun e w' => e = .returned (.bool true) ∧ Hid (∃ T' m', PA w T' w' h B b o l5 m' ∧ m'.length + 1 = m1.length)) := take_of k1 k2 k3 k4 (by omega)
            clear k1 k2 k3 k4
            go_wp2_with fail
            refine HTK.out.mono ?_
            rintro e w6 ⟨rfl, HX6⟩
            obtain ⟨T6, m6, hq, hm6⟩ := HX6.out
            have HQ : Hid (PA w T6 w6 h B b o l5 m6) := hq
            clear HX6 HTK hq
            go_wp2
            go_roundw
            case rel => exact ⟨T6, l5, m6, by omega, HQ⟩
            case measure => rw [HCL.out, HQ.out.bag.cellLen]; omega
          · have d2 : ¬ (0 : Int) < (m1.length : Int) := by omega
            have HE : Hid (l1 = []) := List.eq_nil_of_length_eq_zero (by omega)
            clear hll
            have HPN : Hid (Calls Try.prog 23 #[.pointer (some ⟨h, 0, none⟩)] wq fun e w' => e = .returned (.tuple #[.int .i64 0, .bool false]) ∧ w' = wq) := by
              have hh := HP.out.heap
              rw [HE.out] at hh
              exact pop_none 1 T wq h _ B o hh
            have HLN : Hid (Calls Try.prog 25 #[.pointer (some ⟨h, 0, none⟩)] wq fun e w' => e = .returned (.int .i64 0) ∧ w' = wq) := by
              have hh := HP.out.heap
              rw [HE.out] at hh
              exact len_any 1 T wq h _ B o [] hh
            go_wp2_with (first
              | (go_at_call 23; refine HPN.out.mono ?_; rintro e w9 ⟨rfl, hw9⟩; have hw8 := hw9.symm; clear hw9; subst hw8)
              | (go_at_call 25; refine HLN.out.mono ?_; rintro e w9 ⟨rfl, hw9⟩; have hw8 := hw9.symm; clear hw9; subst hw8))
            go_ret
            exact ⟨rfl, HP.out.old.below⟩

end Hp
end Go.Proofs.Ytodgomgacgoliaa
