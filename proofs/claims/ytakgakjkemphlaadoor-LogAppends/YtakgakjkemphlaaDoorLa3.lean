import Derived.Test.YtakgakjkemphlaaDoorLa2
namespace Go.Proofs.YtakgakjkemphlaaDoor
namespace Lga
open Go.RowKit CMath Byt Cod Lg Laws
set_option linter.unusedVariables false
set_option maxRecDepth 20000
set_option linter.unusedSimpArgs false

theorem zer_succ (j : Nat) : zer j ++ [0] = zer (j + 1) := by rw [zer, zer, List.replicate_succ']
/-- where the loop stands -/
def RLay (A : Nat) (l q : List Nat) (p f : Nat) (first : Bool) : Prop := if first = true ∨ f < l.length then q ++ lay (!first) (512 - p) (l.drop f) = app A l else q = app A l
theorem RLay.go {A : Nat} {l q : List Nat} {p f : Nat} {first : Bool} (h : RLay A l q p f first) (hg : first = true ∨ f < l.length) : q ++ lay (!first) (512 - p) (l.drop f) = app A l := by unfold RLay at h; rwa [if_pos hg] at h
theorem RLay.last {A : Nat} {l q : List Nat} {p f n : Nat} {first : Bool} (h : RLay A l q p f first) (hg : first = true ∨ f < l.length) (hf : f ≤ l.length) (hn : n = l.length - f) (hm : n ≤ 512 - p - 7) : RLay A l (q ++ pie (kd (!first) true) ((l.drop f).take n)) 0 (f + n) false := by
  have e := h.go hg
  rw [lay_end (by simp; omega)] at e
  unfold RLay
  rw [if_neg (by simp; omega), List.take_of_length_le (by simp; omega)]
  exact e
theorem RLay.next {A : Nat} {l q : List Nat} {p f n : Nat} {first : Bool} (h : RLay A l q p f first) (hg : first = true ∨ f < l.length) (hp : p ≤ 504) (hn : n = 512 - p - 7) (hm : n < l.length - f) : RLay A l (q ++ pie (kd (!first) false) ((l.drop f).take n)) 0 (f + n) false := by
  have e := h.go hg
  rw [lay_on (by simp; omega) (by omega), ← hn, List.drop_drop, ← List.append_assoc] at e
  unfold RLay
  rw [if_pos (by right; omega)]
  exact e
/-- a piece laid behind what is there -/
theorem piece_own {wr w5 w6 : World} {base k : Nat} {q p : List Nat} {v5 v6 : Value} (h : w6.ownsRow base 5 1 v6 (q.length + 4 + (body k p).length) (cellsB (q ++ four (crc (body k p)) ++ body k p))) : w6.ownsRow base 5 1 v6 (q ++ pie k p).length (cellsB (q ++ pie k p)) := by
  rw [List.append_assoc] at h
  have e : q.length + 4 + (body k p).length = (q ++ pie k p).length := by simp [pie, four]; omega
  rw [← e]
  exact h
set_option maxHeartbeats 2000000 in
theorem refAppend_any (at' : Int) (a : Option Addr) (cap N : Nat) (l : List Nat) (w : World) (hi : IsB w a l) (hc : a = none → cap = 0) (hcap : l.length ≤ cap) (hmx : cap ≤ 9223372036854775807) (hn : N = l.length) (h47 : 8 * l.length + 4096 ≤ 140737488355328) (hat : -9223372036854775808 ≤ at' ∧ at' ≤ 9223372036854775807) :
    Calls Tryd.prog 9 #[.int .i64 at', .slice a N cap] w fun e w' => ∃ v, e = .returned v ∧ w'.ownsRow w.heap.size 5 1 v (app at'.toNat l).length (cellsB (app at'.toNat l)) ∧ Below w.heap.size w w' := by
  have hN : l.length = N := hn.symm
  clear hn
  obtain ⟨i8, hinf, hz0, hz1, hz2⟩ := info_parts info8
  have HI : Hid (IsB w a l) := hi
  have HN : Hid (a = none → cap = 0) := hc
  clear hi hc
  obtain ⟨A, hA⟩ : ∃ A, at'.toNat = A := ⟨_, rfl⟩
  rw [hA]
  go_enter Tryd.func9, Tryd.ntmps9
  go_upto_if 14 with (fail)
  go_cut [0] (fun x w' => x = .int .i64 (A : Int) ∧ w' = w)
  case first =>
    by_cases h0 : at' < 0
    · have q0 : (0 : Int) = (A : Int) := by omega
      go_wp2
      go_meet
      case rel => exact ⟨by rw [← q0], rfl⟩
    · have q0 : at' = (A : Int) := by omega
      have HQ : Hid (at' = (A : Int)) := q0
      clear q0
      go_wp2
      go_meet
      case rel => exact ⟨by rw [← HQ.out], rfl⟩
  case rest =>
    obtain ⟨rfl, hw0⟩ := hcut
    obtain rfl := hw0.symm
    clear hw0
    have hA2 : A ≤ 9223372036854775807 := by omega
    clear hat
    obtain ⟨p, hp⟩ : ∃ p, A % 512 = p := ⟨_, rfl⟩
    have hpi : (A : Int) % 512 = (p : Int) := by omega
    have hpt : Int.tmod (A : Int) 512 = (p : Int) := by rw [Int.tmod_eq_emod_of_nonneg (by omega)]; omega
    have hpl : p < 512 := by omega
    have HB0 : Hid (app A l = if 512 - p < 8 then zer (512 - p) ++ lay false 512 l else lay false (512 - p) l) := by show _ = _; rw [← hp]; rfl
    clear hp
    go_upto_if 19 with (fail)
    go_cut [5, 6, 19] (fun x v _ w' => ∃ (P : Nat) (q : List Nat), x = .int .i64 (P : Int) ∧ P ≤ 504 ∧ q.length ≤ 8 ∧ Hid (q ++ lay false (512 - P) l = app A l ∧ (∀ y ∈ q, y < 256) ∧ w'.ownsRow w.heap.size 5 1 v q.length (cellsB q) ∧ Below w.heap.size w w'))
    case first =>
      by_cases h8 : 512 - p < 8
      · have q1 : (512 : Int) - (p : Int) < 8 := by omega
        go_wp2
        rw [show decide ((512 : Int) - (p : Int) < 8) = true from decide_eq_true q1]
        go_loopw [5, 6] (fun x v wr => ∃ j : Nat, p + j ≤ 512 ∧ x = .int .i64 ((p + j : Nat) : Int) ∧ Hid (wr.ownsRow w.heap.size 5 1 v j (cellsB (zer j)) ∧ Below w.heap.size w wr)) (fun x _ _ => 512 - (intOf x).toNat)
        case atStart => exact ⟨0, by omega, rfl, World.ownsRow_nil _ _ _ _, Below.refl _ _⟩
        case round =>
          have HH8 : Hid (512 - p < 8) := h8
          clear q1 h8
          obtain ⟨j, hj, rfl, HJ⟩ := hrel
          rename World => wr
          by_cases hlt : p + j < 512
          · have q2 : ((p + j : Nat) : Int) < 512 := by omega
            have hsz := HJ.out.2.size
            go_wp2_with (at_builtin; refine wpList_appB (by rfl) (.tmp 22) (.tmp 23) 22 (by rfl) w.heap.size 5 i8 Tryd.underlying22 hinf hz0 hz1 hz2 _ (zer j) j (by rfl) (HJ.out.1.alloc _) (some ⟨wr.heap.size, 0, none⟩) 1 1 [0] (by rfl) rfl (by simp) (isB_new (by rfl) (by omega)) (by omega) (by simp; omega) ?_; intro v2 w2 hown2 hgr2 hnn2; have HJ2 : Hid (w2.ownsRow w.heap.size 5 1 v2 (j + 1) (cellsB (zer (j + 1))) ∧ Below w.heap.size w w2) := ⟨by have h := hown2; rw [zer_succ] at h; exact h, below_of (HJ.out.2.alloc (by omega) _) hgr2 (Nat.le_refl _) (fun i hi => (HJ.out.1.lt i hi).1)⟩; clear hgr2 hown2 hnn2)
            go_roundw
            case rel => exact ⟨j + 1, by omega, by go_num, HJ2⟩
            case measure => simp [intOf]; omega
          · obtain rfl : j = 512 - p := by omega
            have q2 : ¬ ((p + (512 - p) : Nat) : Int) < 512 := by omega
            go_wp2
            go_meet
            case rel =>
              refine ⟨0, zer (512 - p), rfl, by omega, by rw [zer_length]; omega, by rw [HB0.out, if_pos HH8.out], ?_, by rw [zer_length]; exact HJ.out.1, HJ.out.2⟩
              intro y hy
              obtain ⟨_, rfl⟩ := List.mem_replicate.1 hy
              omega
      · have q1 : ¬ (512 : Int) - (p : Int) < 8 := by omega
        go_wp2
        go_meet
        case rel => exact ⟨p, [], rfl, by omega, by simp, by rw [HB0.out, if_neg h8]; rfl, by simp, World.ownsRow_nil _ _ _ _, Below.refl _ _⟩
    case rest =>
      obtain ⟨P, q, rfl, hP, hq8, HQ⟩ := hcut
      rename World => w1
      clear HB0 hpi hpt hpl
      go_wp2
      go_loopw [5, 6, 7, 8] (fun vp v vf vb wr => ∃ (q : List Nat) (p f : Nat) (first : Bool), vp = .int .i64 (p : Int) ∧ vf = .int .i64 (f : Int) ∧ vb = .bool first ∧ p ≤ 504 ∧ f ≤ l.length ∧ q.length + 8 * (l.length - f) ≤ 8 * l.length + 15 ∧ (first = true → q.length ≤ 8 ∧ f = 0) ∧ Hid (RLay A l q p f first ∧ (∀ y ∈ q, y < 256) ∧ wr.ownsRow w.heap.size 5 1 v q.length (cellsB q) ∧ Below w.heap.size w wr)) (fun _ _ vf vb _ => 2 * (l.length - (intOf vf).toNat) + (match vb with | .bool true => 1 | _ => 0))
      case atStart => exact ⟨q, P, 0, true, rfl, rfl, rfl, hP, Nat.zero_le _, by omega, fun _ => ⟨hq8, rfl⟩, by unfold RLay; rw [if_pos (.inl rfl)]; exact HQ.out.1, HQ.out.2.1, HQ.out.2.2.1, HQ.out.2.2.2⟩
      case round =>
        clear hP hq8 HQ
        obtain ⟨q, p, f, first, rfl, rfl, rfl, hp, hf, hql, hq1, HR⟩ := hrel
        rename World => wr
        have hsz := HR.out.2.2.2.size
        have HW := HR
        obtain ⟨m, hm⟩ : ∃ m : Nat, (512 : Int) - (p : Int) - 7 = (m : Int) := ⟨505 - p, by omega⟩
        have hmn : 512 - p - 7 = m := by omega
        obtain ⟨s, hs⟩ : ∃ s : Nat, (N : Int) - (f : Int) = (s : Int) := ⟨l.length - f, by omega⟩
        have hsn : l.length - f = s := by omega
        by_cases hgo : first = true ∨ f < l.length
        · cases a with
          | none =>
            obtain rfl : cap = 0 := HN.out rfl
            have hl0 := HI.out.none
            subst hl0
            obtain rfl : N = 0 := hN.symm
            obtain rfl : f = 0 := by simpa using hf
            obtain rfl : first = true := by simpa using hgo
            have hq2 := (hq1 rfl).1
            clear hq1
            obtain rfl : s = 0 := by simpa using hsn.symm
            have q1 : (0 : Int) < (m : Int) := by omega
            have HNX : Hid (RLay A [] (q ++ pie (kd (!true) true) ([] : List Nat)) 0 0 false) := by show RLay A [] (q ++ pie (kd (!true) true) ([] : List Nat)) 0 0 false; have h := RLay.last (n := 0) HR.out.1 (.inl rfl) (by simp) rfl (by omega); simpa using h
            have HIP : Hid (IsB wr none ([] : List Nat)) := IsB.nil _ _
            have hcr : crc (body (kd (!true) true) ([] : List Nat)) < 4294967296 := crc_lt _ (body_byte (kd_lt _ _) HIP.out.2)
            have hbl := body_length (kd (!true) true) ([] : List Nat)
            have htk : ([] : List Nat).length = 0 := by simp; try omega
            go_wp2_with (first
              | (at_builtin; refine wpList_appB (by rfl) (.tmp 67) (.tmp 73) 22 (by rfl) wr.heap.size 5 i8 Tryd.underlying22 hinf hz0 hz1 hz2 _ [([] : List Nat).length % 256, ([] : List Nat).length / 256 % 256, (kd (!true) true)] 3 (by rfl) (own_three (by rw [htk]; omega) (by rw [htk]; omega) (by rfl)) none 0 0 ([] : List Nat) (by first | rfl | (simp [Act.eval, Act.put]; done) | (simp [Act.eval, Act.put]; omega)) htk.symm (by simp) (HIP.out.below ((Below.refl _ _).alloc (Nat.le_refl _) _)) (by omega) (by simp) ?_; intro v1 w1 hown1 hgr1 hnn1; have HB1 : Hid (Below wr.heap.size wr w1) := below_of ((Below.refl _ _).alloc (Nat.le_refl _) _) hgr1 (Nat.le_refl _) (by simp [Value.ownBlock]); have HO1 : Hid (Own 5 wr.heap.size w1 v1 (body (kd (!true) true) ([] : List Nat))) := Own.pos hown1 (body_byte (kd_lt _ _) HIP.out.2) (by omega); clear hgr1 hown1 hnn1; obtain ⟨g1, c1, rfl, hg1, hgs1, hc1, hI1⟩ := HO1.out.isB; have HX1 : Hid (IsB w1 (some ⟨g1, 0, none⟩) (body (kd (!true) true) ([] : List Nat))) := hI1; clear hI1)
              | (go_at_call 22; refine (refSum_any _ _ _ (body (kd (!true) true) ([] : List Nat)) w1 HX1.out (by omega) rfl).mono ?_; rintro e w2 ⟨rfl, hw2⟩; obtain rfl := hw2.symm)
              | (go_at_call 21; refine (four_any (crc (body (kd (!true) true) ([] : List Nat))) w1 hcr).mono ?_; rintro e w3 ⟨v3, rfl, ho3, hb3⟩; obtain ⟨g3, c3, rfl, hg3, hgs3, hc3, hI3⟩ := ho3.isB; have HX3 : Hid (IsB w3 (some ⟨g3, 0, none⟩) (four (crc (body (kd (!true) true) ([] : List Nat))))) := hI3; have HB3 : Hid (Below w1.heap.size w1 w3) := hb3; have HO3 : Hid (w3.ownsRow w.heap.size 5 1 _ q.length (cellsB q)) := own_below (own_below HW.out.2.2.1 HB1.out) hb3; have hs1 := HB1.out.size; have hs3 := hb3.size; clear ho3 hb3 hI3)
              | (at_builtin; refine wpList_appB (by rfl) (.tmp 75) (.tmp 78) 22 (by rfl) w.heap.size 5 i8 Tryd.underlying22 hinf hz0 hz1 hz2 _ q q.length (by rfl) HO3.out (some ⟨g3, 0, none⟩) 4 c3 (four (crc (body (kd (!true) true) ([] : List Nat)))) (by rfl) rfl (by simp) HX3.out (by omega) (by omega) ?_; intro v5 w5 hown5 hgr5 hnn5; have HO5 : Hid (w5.ownsRow w.heap.size 5 1 v5 (q.length + 4) (cellsB (q ++ four (crc (body (kd (!true) true) ([] : List Nat)))))) := hown5; have HX5 : Hid (IsB w5 (some ⟨g1, 0, none⟩) (body (kd (!true) true) ([] : List Nat))) := isB_grown (HX1.out.below HB3.out) hgr5 (by omega) (fun e => by have := (HW.out.2.2.1.lt _ e).2; omega); have HB5 : Hid (Below w.heap.size w w5) := below_of ((HW.out.2.2.2.trans (HB1.out.mono (by omega))).trans (HB3.out.mono (by omega))) hgr5 (Nat.le_refl _) (fun j hj => (HO3.out.lt j hj).1); have hs5 := HB5.out.size; clear hown5 hgr5 hnn5)
              | (at_builtin; refine wpList_appB (by rfl) (.tmp 80) (.tmp 81) 22 (by rfl) w.heap.size 5 i8 Tryd.underlying22 hinf hz0 hz1 hz2 _ (q ++ four (crc (body (kd (!true) true) ([] : List Nat)))) (q.length + 4) (by rfl) HO5.out (some ⟨g1, 0, none⟩) (body (kd (!true) true) ([] : List Nat)).length c1 (body (kd (!true) true) ([] : List Nat)) (by rfl) rfl (by simp) HX5.out (by omega) (by omega) ?_; intro v6 w6 hown6 hgr6 hnn6; have HO6 : Hid (w6.ownsRow w.heap.size 5 1 v6 (q ++ pie (kd (!true) true) ([] : List Nat)).length (cellsB (q ++ pie (kd (!true) true) ([] : List Nat))) ∧ Below w.heap.size w w6) := ⟨piece_own (wr := w) (w5 := w) (v5 := v5) hown6, below_of HB5.out hgr6 (Nat.le_refl _) (fun j hj => (HO5.out.lt j hj).1)⟩; clear hown6 hgr6 hnn6))
            go_roundw
            case rel => exact ⟨q ++ pie (kd (!true) true) ([] : List Nat), 0, 0, false, rfl, by go_num, rfl, by omega, by omega, by rw [List.length_append, pie_length, htk]; omega, (by intro h; cases h), HNX.out, byte_app HW.out.2.1 (pie_byte (kd_lt _ _) HIP.out.2), HO6.out.1, HO6.out.2⟩
            case measure => first | omega | (simp [intOf]; done) | (simp [intOf]; omega)
          | some ad =>
            by_cases hl0 : l = []
            · subst hl0
              obtain rfl : N = 0 := hN.symm
              obtain rfl : f = 0 := by simpa using hf
              obtain rfl : first = true := by simpa using hgo
              have hq2 := (hq1 rfl).1
              clear hq1
              obtain rfl : s = 0 := by simpa using hsn.symm
              have q1 : (0 : Int) < (m : Int) := by omega
              have HNX : Hid (RLay A [] (q ++ pie (kd (!true) true) ([] : List Nat)) 0 0 false) := by show RLay A [] (q ++ pie (kd (!true) true) ([] : List Nat)) 0 0 false; have h := RLay.last (n := 0) HR.out.1 (.inl rfl) (by simp) rfl (by omega); simpa using h
              have HIP : Hid (IsB wr (some ad) ([] : List Nat)) := IsB.nil _ _
              have hcr : crc (body (kd (!true) true) ([] : List Nat)) < 4294967296 := crc_lt _ (body_byte (kd_lt _ _) HIP.out.2)
              have hbl := body_length (kd (!true) true) ([] : List Nat)
              have htk : ([] : List Nat).length = 0 := by simp; try omega
              go_wp2_with (first
                | (at_builtin; refine wpList_appB (by rfl) (.tmp 67) (.tmp 73) 22 (by rfl) wr.heap.size 5 i8 Tryd.underlying22 hinf hz0 hz1 hz2 _ [([] : List Nat).length % 256, ([] : List Nat).length / 256 % 256, (kd (!true) true)] 3 (by rfl) (own_three (by rw [htk]; omega) (by rw [htk]; omega) (by rfl)) (some ad) 0 cap ([] : List Nat) (by first | rfl | (simp [Act.eval, Act.put]; done) | (simp [Act.eval, Act.put]; omega)) htk.symm (by simp) (HIP.out.below ((Below.refl _ _).alloc (Nat.le_refl _) _)) (by omega) (by simp) ?_; intro v1 w1 hown1 hgr1 hnn1; have HB1 : Hid (Below wr.heap.size wr w1) := below_of ((Below.refl _ _).alloc (Nat.le_refl _) _) hgr1 (Nat.le_refl _) (by simp [Value.ownBlock]); have HO1 : Hid (Own 5 wr.heap.size w1 v1 (body (kd (!true) true) ([] : List Nat))) := Own.pos hown1 (body_byte (kd_lt _ _) HIP.out.2) (by omega); clear hgr1 hown1 hnn1; obtain ⟨g1, c1, rfl, hg1, hgs1, hc1, hI1⟩ := HO1.out.isB; have HX1 : Hid (IsB w1 (some ⟨g1, 0, none⟩) (body (kd (!true) true) ([] : List Nat))) := hI1; clear hI1)
                | (go_at_call 22; refine (refSum_any _ _ _ (body (kd (!true) true) ([] : List Nat)) w1 HX1.out (by omega) rfl).mono ?_; rintro e w2 ⟨rfl, hw2⟩; obtain rfl := hw2.symm)
                | (go_at_call 21; refine (four_any (crc (body (kd (!true) true) ([] : List Nat))) w1 hcr).mono ?_; rintro e w3 ⟨v3, rfl, ho3, hb3⟩; obtain ⟨g3, c3, rfl, hg3, hgs3, hc3, hI3⟩ := ho3.isB; have HX3 : Hid (IsB w3 (some ⟨g3, 0, none⟩) (four (crc (body (kd (!true) true) ([] : List Nat))))) := hI3; have HB3 : Hid (Below w1.heap.size w1 w3) := hb3; have HO3 : Hid (w3.ownsRow w.heap.size 5 1 _ q.length (cellsB q)) := own_below (own_below HW.out.2.2.1 HB1.out) hb3; have hs1 := HB1.out.size; have hs3 := hb3.size; clear ho3 hb3 hI3)
                | (at_builtin; refine wpList_appB (by rfl) (.tmp 75) (.tmp 78) 22 (by rfl) w.heap.size 5 i8 Tryd.underlying22 hinf hz0 hz1 hz2 _ q q.length (by rfl) HO3.out (some ⟨g3, 0, none⟩) 4 c3 (four (crc (body (kd (!true) true) ([] : List Nat)))) (by rfl) rfl (by simp) HX3.out (by omega) (by omega) ?_; intro v5 w5 hown5 hgr5 hnn5; have HO5 : Hid (w5.ownsRow w.heap.size 5 1 v5 (q.length + 4) (cellsB (q ++ four (crc (body (kd (!true) true) ([] : List Nat)))))) := hown5; have HX5 : Hid (IsB w5 (some ⟨g1, 0, none⟩) (body (kd (!true) true) ([] : List Nat))) := isB_grown (HX1.out.below HB3.out) hgr5 (by omega) (fun e => by have := (HW.out.2.2.1.lt _ e).2; omega); have HB5 : Hid (Below w.heap.size w w5) := below_of ((HW.out.2.2.2.trans (HB1.out.mono (by omega))).trans (HB3.out.mono (by omega))) hgr5 (Nat.le_refl _) (fun j hj => (HO3.out.lt j hj).1); have hs5 := HB5.out.size; clear hown5 hgr5 hnn5)
                | (at_builtin; refine wpList_appB (by rfl) (.tmp 80) (.tmp 81) 22 (by rfl) w.heap.size 5 i8 Tryd.underlying22 hinf hz0 hz1 hz2 _ (q ++ four (crc (body (kd (!true) true) ([] : List Nat)))) (q.length + 4) (by rfl) HO5.out (some ⟨g1, 0, none⟩) (body (kd (!true) true) ([] : List Nat)).length c1 (body (kd (!true) true) ([] : List Nat)) (by rfl) rfl (by simp) HX5.out (by omega) (by omega) ?_; intro v6 w6 hown6 hgr6 hnn6; have HO6 : Hid (w6.ownsRow w.heap.size 5 1 v6 (q ++ pie (kd (!true) true) ([] : List Nat)).length (cellsB (q ++ pie (kd (!true) true) ([] : List Nat))) ∧ Below w.heap.size w w6) := ⟨piece_own (wr := w) (w5 := w) (v5 := v5) hown6, below_of HB5.out hgr6 (Nat.le_refl _) (fun j hj => (HO5.out.lt j hj).1)⟩; clear hown6 hgr6 hnn6))
              go_roundw
              case rel => exact ⟨q ++ pie (kd (!true) true) ([] : List Nat), 0, 0, false, rfl, by go_num, rfl, by omega, by omega, by rw [List.length_append, pie_length, htk]; omega, (by intro h; cases h), HNX.out, byte_app HW.out.2.1 (pie_byte (kd_lt _ _) HIP.out.2), HO6.out.1, HO6.out.2⟩
              case measure => first | omega | (simp [intOf]; done) | (simp [intOf]; omega)
            · obtain ⟨b, off, had, _⟩ := HI.out.1 hl0
              cases had
              have hlp : 0 < l.length := List.length_pos_iff.2 hl0
              have HII : Hid (IsB wr (some ⟨b, off + f, none⟩) (l.drop f)) := isB_drop (HI.out.below HR.out.2.2.2) f
              have hfl : f < l.length := by rcases hgo with h | h; exact (hq1 h).2 ▸ hlp; exact h
              have q7 : (f : Int) ≤ (cap : Int) := by omega
              have hsN : N - f = s := by omega
              have q10 : f < cap := by omega
              have q11 : ¬ cap = f := by omega
              have q12 : ¬ cap - f = 0 := by omega
              have q13 : (f : Int) < (cap : Int) := by omega
              have q8 : (N : Int) ≤ (cap : Int) := by omega
              rcases Nat.lt_trichotomy s m with hc3 | hc3 | hc3
              · skip
                have q1 : (s : Int) < (m : Int) := by omega
                have q2 : (f : Int) + (s : Int) = (N : Int) := by omega
                have q5 : (f : Int) + (s : Int) ≤ (cap : Int) := by omega
                have q6 : (f : Int) ≤ (f : Int) + (s : Int) := by omega
                have HNX : Hid (RLay A l (q ++ pie (kd (!first) true) ((l.drop f).take s)) 0 (f + s) false) := RLay.last HR.out.1 hgo hf (by omega) (by omega)
                cases first with
                | true =>
                  have hq2 := (hq1 rfl).1
                  clear hq1
                  have HIP : Hid (IsB wr (some ⟨b, off + f, none⟩) ((l.drop f).take s)) := HII.out.take _
                  have hcr : crc (body (kd (!true) true) ((l.drop f).take s)) < 4294967296 := crc_lt _ (body_byte (kd_lt _ _) HIP.out.2)
                  have hbl := body_length (kd (!true) true) ((l.drop f).take s)
                  have htk : ((l.drop f).take s).length = s := by simp; try omega
                  go_wp2_with (first
                    | (at_builtin; refine wpList_appB (by rfl) (.tmp 67) (.tmp 73) 22 (by rfl) wr.heap.size 5 i8 Tryd.underlying22 hinf hz0 hz1 hz2 _ [((l.drop f).take s).length % 256, ((l.drop f).take s).length / 256 % 256, (kd (!true) true)] 3 (by rfl) (own_three (by rw [htk]; omega) (by rw [htk]; omega) (by rfl)) (some ⟨b, off + f, none⟩) s (cap - f) ((l.drop f).take s) (by first | rfl | (simp [Act.eval, Act.put]; done) | (simp [Act.eval, Act.put]; omega)) htk.symm (by simp) (HIP.out.below ((Below.refl _ _).alloc (Nat.le_refl _) _)) (by omega) (by simp) ?_; intro v1 w1 hown1 hgr1 hnn1; have HB1 : Hid (Below wr.heap.size wr w1) := below_of ((Below.refl _ _).alloc (Nat.le_refl _) _) hgr1 (Nat.le_refl _) (by simp [Value.ownBlock]); have HO1 : Hid (Own 5 wr.heap.size w1 v1 (body (kd (!true) true) ((l.drop f).take s))) := Own.pos hown1 (body_byte (kd_lt _ _) HIP.out.2) (by omega); clear hgr1 hown1 hnn1; obtain ⟨g1, c1, rfl, hg1, hgs1, hc1, hI1⟩ := HO1.out.isB; have HX1 : Hid (IsB w1 (some ⟨g1, 0, none⟩) (body (kd (!true) true) ((l.drop f).take s))) := hI1; clear hI1)
                    | (go_at_call 22; refine (refSum_any _ _ _ (body (kd (!true) true) ((l.drop f).take s)) w1 HX1.out (by omega) rfl).mono ?_; rintro e w2 ⟨rfl, hw2⟩; obtain rfl := hw2.symm)
                    | (go_at_call 21; refine (four_any (crc (body (kd (!true) true) ((l.drop f).take s))) w1 hcr).mono ?_; rintro e w3 ⟨v3, rfl, ho3, hb3⟩; obtain ⟨g3, c3, rfl, hg3, hgs3, hc3, hI3⟩ := ho3.isB; have HX3 : Hid (IsB w3 (some ⟨g3, 0, none⟩) (four (crc (body (kd (!true) true) ((l.drop f).take s))))) := hI3; have HB3 : Hid (Below w1.heap.size w1 w3) := hb3; have HO3 : Hid (w3.ownsRow w.heap.size 5 1 _ q.length (cellsB q)) := own_below (own_below HW.out.2.2.1 HB1.out) hb3; have hs1 := HB1.out.size; have hs3 := hb3.size; clear ho3 hb3 hI3)
                    | (at_builtin; refine wpList_appB (by rfl) (.tmp 75) (.tmp 78) 22 (by rfl) w.heap.size 5 i8 Tryd.underlying22 hinf hz0 hz1 hz2 _ q q.length (by rfl) HO3.out (some ⟨g3, 0, none⟩) 4 c3 (four (crc (body (kd (!true) true) ((l.drop f).take s)))) (by rfl) rfl (by simp) HX3.out (by omega) (by omega) ?_; intro v5 w5 hown5 hgr5 hnn5; have HO5 : Hid (w5.ownsRow w.heap.size 5 1 v5 (q.length + 4) (cellsB (q ++ four (crc (body (kd (!true) true) ((l.drop f).take s)))))) := hown5; have HX5 : Hid (IsB w5 (some ⟨g1, 0, none⟩) (body (kd (!true) true) ((l.drop f).take s))) := isB_grown (HX1.out.below HB3.out) hgr5 (by omega) (fun e => by have := (HW.out.2.2.1.lt _ e).2; omega); have HB5 : Hid (Below w.heap.size w w5) := below_of ((HW.out.2.2.2.trans (HB1.out.mono (by omega))).trans (HB3.out.mono (by omega))) hgr5 (Nat.le_refl _) (fun j hj => (HO3.out.lt j hj).1); have hs5 := HB5.out.size; clear hown5 hgr5 hnn5)
                    | (at_builtin; refine wpList_appB (by rfl) (.tmp 80) (.tmp 81) 22 (by rfl) w.heap.size 5 i8 Tryd.underlying22 hinf hz0 hz1 hz2 _ (q ++ four (crc (body (kd (!true) true) ((l.drop f).take s)))) (q.length + 4) (by rfl) HO5.out (some ⟨g1, 0, none⟩) (body (kd (!true) true) ((l.drop f).take s)).length c1 (body (kd (!true) true) ((l.drop f).take s)) (by rfl) rfl (by simp) HX5.out (by omega) (by omega) ?_; intro v6 w6 hown6 hgr6 hnn6; have HO6 : Hid (w6.ownsRow w.heap.size 5 1 v6 (q ++ pie (kd (!true) true) ((l.drop f).take s)).length (cellsB (q ++ pie (kd (!true) true) ((l.drop f).take s))) ∧ Below w.heap.size w w6) := ⟨piece_own (wr := w) (w5 := w) (v5 := v5) hown6, below_of HB5.out hgr6 (Nat.le_refl _) (fun j hj => (HO5.out.lt j hj).1)⟩; clear hown6 hgr6 hnn6))
                  go_roundw
                  case rel => exact ⟨q ++ pie (kd (!true) true) ((l.drop f).take s), 0, f + s, false, rfl, by go_num, rfl, by omega, by omega, by rw [List.length_append, pie_length, htk]; omega, (by intro h; cases h), HNX.out, byte_app HW.out.2.1 (pie_byte (kd_lt _ _) HIP.out.2), HO6.out.1, HO6.out.2⟩
                  case measure => first | omega | (simp [intOf]; done) | (simp [intOf]; omega)
                | false =>
                  clear hq1
                  have q9 : (f : Int) < (N : Int) := by rcases hgo with h | h; cases h; omega
                  have HIP : Hid (IsB wr (some ⟨b, off + f, none⟩) ((l.drop f).take s)) := HII.out.take _
                  have hcr : crc (body (kd (!false) true) ((l.drop f).take s)) < 4294967296 := crc_lt _ (body_byte (kd_lt _ _) HIP.out.2)
                  have hbl := body_length (kd (!false) true) ((l.drop f).take s)
                  have htk : ((l.drop f).take s).length = s := by simp; try omega
                  go_wp2_with (first
                    | (at_builtin; refine wpList_appB (by rfl) (.tmp 67) (.tmp 73) 22 (by rfl) wr.heap.size 5 i8 Tryd.underlying22 hinf hz0 hz1 hz2 _ [((l.drop f).take s).length % 256, ((l.drop f).take s).length / 256 % 256, (kd (!false) true)] 3 (by rfl) (own_three (by rw [htk]; omega) (by rw [htk]; omega) (by rfl)) (some ⟨b, off + f, none⟩) s (cap - f) ((l.drop f).take s) (by first | rfl | (simp [Act.eval, Act.put]; done) | (simp [Act.eval, Act.put]; omega)) htk.symm (by simp) (HIP.out.below ((Below.refl _ _).alloc (Nat.le_refl _) _)) (by omega) (by simp) ?_; intro v1 w1 hown1 hgr1 hnn1; have HB1 : Hid (Below wr.heap.size wr w1) := below_of ((Below.refl _ _).alloc (Nat.le_refl _) _) hgr1 (Nat.le_refl _) (by simp [Value.ownBlock]); have HO1 : Hid (Own 5 wr.heap.size w1 v1 (body (kd (!false) true) ((l.drop f).take s))) := Own.pos hown1 (body_byte (kd_lt _ _) HIP.out.2) (by omega); clear hgr1 hown1 hnn1; obtain ⟨g1, c1, rfl, hg1, hgs1, hc1, hI1⟩ := HO1.out.isB; have HX1 : Hid (IsB w1 (some ⟨g1, 0, none⟩) (body (kd (!false) true) ((l.drop f).take s))) := hI1; clear hI1)
                    | (go_at_call 22; refine (refSum_any _ _ _ (body (kd (!false) true) ((l.drop f).take s)) w1 HX1.out (by omega) rfl).mono ?_; rintro e w2 ⟨rfl, hw2⟩; obtain rfl := hw2.symm)
                    | (go_at_call 21; refine (four_any (crc (body (kd (!false) true) ((l.drop f).take s))) w1 hcr).mono ?_; rintro e w3 ⟨v3, rfl, ho3, hb3⟩; obtain ⟨g3, c3, rfl, hg3, hgs3, hc3, hI3⟩ := ho3.isB; have HX3 : Hid (IsB w3 (some ⟨g3, 0, none⟩) (four (crc (body (kd (!false) true) ((l.drop f).take s))))) := hI3; have HB3 : Hid (Below w1.heap.size w1 w3) := hb3; have HO3 : Hid (w3.ownsRow w.heap.size 5 1 _ q.length (cellsB q)) := own_below (own_below HW.out.2.2.1 HB1.out) hb3; have hs1 := HB1.out.size; have hs3 := hb3.size; clear ho3 hb3 hI3)
                    | (at_builtin; refine wpList_appB (by rfl) (.tmp 75) (.tmp 78) 22 (by rfl) w.heap.size 5 i8 Tryd.underlying22 hinf hz0 hz1 hz2 _ q q.length (by rfl) HO3.out (some ⟨g3, 0, none⟩) 4 c3 (four (crc (body (kd (!false) true) ((l.drop f).take s)))) (by rfl) rfl (by simp) HX3.out (by omega) (by omega) ?_; intro v5 w5 hown5 hgr5 hnn5; have HO5 : Hid (w5.ownsRow w.heap.size 5 1 v5 (q.length + 4) (cellsB (q ++ four (crc (body (kd (!false) true) ((l.drop f).take s)))))) := hown5; have HX5 : Hid (IsB w5 (some ⟨g1, 0, none⟩) (body (kd (!false) true) ((l.drop f).take s))) := isB_grown (HX1.out.below HB3.out) hgr5 (by omega) (fun e => by have := (HW.out.2.2.1.lt _ e).2; omega); have HB5 : Hid (Below w.heap.size w w5) := below_of ((HW.out.2.2.2.trans (HB1.out.mono (by omega))).trans (HB3.out.mono (by omega))) hgr5 (Nat.le_refl _) (fun j hj => (HO3.out.lt j hj).1); have hs5 := HB5.out.size; clear hown5 hgr5 hnn5)
                    | (at_builtin; refine wpList_appB (by rfl) (.tmp 80) (.tmp 81) 22 (by rfl) w.heap.size 5 i8 Tryd.underlying22 hinf hz0 hz1 hz2 _ (q ++ four (crc (body (kd (!false) true) ((l.drop f).take s)))) (q.length + 4) (by rfl) HO5.out (some ⟨g1, 0, none⟩) (body (kd (!false) true) ((l.drop f).take s)).length c1 (body (kd (!false) true) ((l.drop f).take s)) (by rfl) rfl (by simp) HX5.out (by omega) (by omega) ?_; intro v6 w6 hown6 hgr6 hnn6; have HO6 : Hid (w6.ownsRow w.heap.size 5 1 v6 (q ++ pie (kd (!false) true) ((l.drop f).take s)).length (cellsB (q ++ pie (kd (!false) true) ((l.drop f).take s))) ∧ Below w.heap.size w w6) := ⟨piece_own (wr := w) (w5 := w) (v5 := v5) hown6, below_of HB5.out hgr6 (Nat.le_refl _) (fun j hj => (HO5.out.lt j hj).1)⟩; clear hown6 hgr6 hnn6))
                  go_roundw
                  case rel => exact ⟨q ++ pie (kd (!false) true) ((l.drop f).take s), 0, f + s, false, rfl, by go_num, rfl, by omega, by omega, by rw [List.length_append, pie_length, htk]; omega, (by intro h; cases h), HNX.out, byte_app HW.out.2.1 (pie_byte (kd_lt _ _) HIP.out.2), HO6.out.1, HO6.out.2⟩
                  case measure => first | omega | (simp [intOf]; done) | (simp [intOf]; omega)
              · skip
                obtain rfl : s = m := by omega
                have q1 : ¬ (s : Int) < (s : Int) := by omega
                have q2 : (f : Int) + (s : Int) = (N : Int) := by omega
                have q5 : (f : Int) + (s : Int) ≤ (cap : Int) := by omega
                have q6 : (f : Int) ≤ (f : Int) + (s : Int) := by omega
                have HNX : Hid (RLay A l (q ++ pie (kd (!first) true) ((l.drop f).take s)) 0 (f + s) false) := RLay.last HR.out.1 hgo hf (by omega) (by omega)
                cases first with
                | true =>
                  have hq2 := (hq1 rfl).1
                  clear hq1
                  have HIP : Hid (IsB wr (some ⟨b, off + f, none⟩) ((l.drop f).take s)) := HII.out.take _
                  have hcr : crc (body (kd (!true) true) ((l.drop f).take s)) < 4294967296 := crc_lt _ (body_byte (kd_lt _ _) HIP.out.2)
                  have hbl := body_length (kd (!true) true) ((l.drop f).take s)
                  have htk : ((l.drop f).take s).length = s := by simp; try omega
                  go_wp2_with (first
                    | (at_builtin; refine wpList_appB (by rfl) (.tmp 67) (.tmp 73) 22 (by rfl) wr.heap.size 5 i8 Tryd.underlying22 hinf hz0 hz1 hz2 _ [((l.drop f).take s).length % 256, ((l.drop f).take s).length / 256 % 256, (kd (!true) true)] 3 (by rfl) (own_three (by rw [htk]; omega) (by rw [htk]; omega) (by rfl)) (some ⟨b, off + f, none⟩) s (cap - f) ((l.drop f).take s) (by first | rfl | (simp [Act.eval, Act.put]; done) | (simp [Act.eval, Act.put]; omega)) htk.symm (by simp) (HIP.out.below ((Below.refl _ _).alloc (Nat.le_refl _) _)) (by omega) (by simp) ?_; intro v1 w1 hown1 hgr1 hnn1; have HB1 : Hid (Below wr.heap.size wr w1) := below_of ((Below.refl _ _).alloc (Nat.le_refl _) _) hgr1 (Nat.le_refl _) (by simp [Value.ownBlock]); have HO1 : Hid (Own 5 wr.heap.size w1 v1 (body (kd (!true) true) ((l.drop f).take s))) := Own.pos hown1 (body_byte (kd_lt _ _) HIP.out.2) (by omega); clear hgr1 hown1 hnn1; obtain ⟨g1, c1, rfl, hg1, hgs1, hc1, hI1⟩ := HO1.out.isB; have HX1 : Hid (IsB w1 (some ⟨g1, 0, none⟩) (body (kd (!true) true) ((l.drop f).take s))) := hI1; clear hI1)
                    | (go_at_call 22; refine (refSum_any _ _ _ (body (kd (!true) true) ((l.drop f).take s)) w1 HX1.out (by omega) rfl).mono ?_; rintro e w2 ⟨rfl, hw2⟩; obtain rfl := hw2.symm)
                    | (go_at_call 21; refine (four_any (crc (body (kd (!true) true) ((l.drop f).take s))) w1 hcr).mono ?_; rintro e w3 ⟨v3, rfl, ho3, hb3⟩; obtain ⟨g3, c3, rfl, hg3, hgs3, hc3, hI3⟩ := ho3.isB; have HX3 : Hid (IsB w3 (some ⟨g3, 0, none⟩) (four (crc (body (kd (!true) true) ((l.drop f).take s))))) := hI3; have HB3 : Hid (Below w1.heap.size w1 w3) := hb3; have HO3 : Hid (w3.ownsRow w.heap.size 5 1 _ q.length (cellsB q)) := own_below (own_below HW.out.2.2.1 HB1.out) hb3; have hs1 := HB1.out.size; have hs3 := hb3.size; clear ho3 hb3 hI3)
                    | (at_builtin; refine wpList_appB (by rfl) (.tmp 75) (.tmp 78) 22 (by rfl) w.heap.size 5 i8 Tryd.underlying22 hinf hz0 hz1 hz2 _ q q.length (by rfl) HO3.out (some ⟨g3, 0, none⟩) 4 c3 (four (crc (body (kd (!true) true) ((l.drop f).take s)))) (by rfl) rfl (by simp) HX3.out (by omega) (by omega) ?_; intro v5 w5 hown5 hgr5 hnn5; have HO5 : Hid (w5.ownsRow w.heap.size 5 1 v5 (q.length + 4) (cellsB (q ++ four (crc (body (kd (!true) true) ((l.drop f).take s)))))) := hown5; have HX5 : Hid (IsB w5 (some ⟨g1, 0, none⟩) (body (kd (!true) true) ((l.drop f).take s))) := isB_grown (HX1.out.below HB3.out) hgr5 (by omega) (fun e => by have := (HW.out.2.2.1.lt _ e).2; omega); have HB5 : Hid (Below w.heap.size w w5) := below_of ((HW.out.2.2.2.trans (HB1.out.mono (by omega))).trans (HB3.out.mono (by omega))) hgr5 (Nat.le_refl _) (fun j hj => (HO3.out.lt j hj).1); have hs5 := HB5.out.size; clear hown5 hgr5 hnn5)
                    | (at_builtin; refine wpList_appB (by rfl) (.tmp 80) (.tmp 81) 22 (by rfl) w.heap.size 5 i8 Tryd.underlying22 hinf hz0 hz1 hz2 _ (q ++ four (crc (body (kd (!true) true) ((l.drop f).take s)))) (q.length + 4) (by rfl) HO5.out (some ⟨g1, 0, none⟩) (body (kd (!true) true) ((l.drop f).take s)).length c1 (body (kd (!true) true) ((l.drop f).take s)) (by rfl) rfl (by simp) HX5.out (by omega) (by omega) ?_; intro v6 w6 hown6 hgr6 hnn6; have HO6 : Hid (w6.ownsRow w.heap.size 5 1 v6 (q ++ pie (kd (!true) true) ((l.drop f).take s)).length (cellsB (q ++ pie (kd (!true) true) ((l.drop f).take s))) ∧ Below w.heap.size w w6) := ⟨piece_own (wr := w) (w5 := w) (v5 := v5) hown6, below_of HB5.out hgr6 (Nat.le_refl _) (fun j hj => (HO5.out.lt j hj).1)⟩; clear hown6 hgr6 hnn6))
                  go_roundw
                  case rel => exact ⟨q ++ pie (kd (!true) true) ((l.drop f).take s), 0, f + s, false, rfl, by go_num, rfl, by omega, by omega, by rw [List.length_append, pie_length, htk]; omega, (by intro h; cases h), HNX.out, byte_app HW.out.2.1 (pie_byte (kd_lt _ _) HIP.out.2), HO6.out.1, HO6.out.2⟩
                  case measure => first | omega | (simp [intOf]; done) | (simp [intOf]; omega)
                | false =>
                  clear hq1
                  have q9 : (f : Int) < (N : Int) := by rcases hgo with h | h; cases h; omega
                  have HIP : Hid (IsB wr (some ⟨b, off + f, none⟩) ((l.drop f).take s)) := HII.out.take _
                  have hcr : crc (body (kd (!false) true) ((l.drop f).take s)) < 4294967296 := crc_lt _ (body_byte (kd_lt _ _) HIP.out.2)
                  have hbl := body_length (kd (!false) true) ((l.drop f).take s)
                  have htk : ((l.drop f).take s).length = s := by simp; try omega
                  go_wp2_with (first
                    | (at_builtin; refine wpList_appB (by rfl) (.tmp 67) (.tmp 73) 22 (by rfl) wr.heap.size 5 i8 Tryd.underlying22 hinf hz0 hz1 hz2 _ [((l.drop f).take s).length % 256, ((l.drop f).take s).length / 256 % 256, (kd (!false) true)] 3 (by rfl) (own_three (by rw [htk]; omega) (by rw [htk]; omega) (by rfl)) (some ⟨b, off + f, none⟩) s (cap - f) ((l.drop f).take s) (by first | rfl | (simp [Act.eval, Act.put]; done) | (simp [Act.eval, Act.put]; omega)) htk.symm (by simp) (HIP.out.below ((Below.refl _ _).alloc (Nat.le_refl _) _)) (by omega) (by simp) ?_; intro v1 w1 hown1 hgr1 hnn1; have HB1 : Hid (Below wr.heap.size wr w1) := below_of ((Below.refl _ _).alloc (Nat.le_refl _) _) hgr1 (Nat.le_refl _) (by simp [Value.ownBlock]); have HO1 : Hid (Own 5 wr.heap.size w1 v1 (body (kd (!false) true) ((l.drop f).take s))) := Own.pos hown1 (body_byte (kd_lt _ _) HIP.out.2) (by omega); clear hgr1 hown1 hnn1; obtain ⟨g1, c1, rfl, hg1, hgs1, hc1, hI1⟩ := HO1.out.isB; have HX1 : Hid (IsB w1 (some ⟨g1, 0, none⟩) (body (kd (!false) true) ((l.drop f).take s))) := hI1; clear hI1)
                    | (go_at_call 22; refine (refSum_any _ _ _ (body (kd (!false) true) ((l.drop f).take s)) w1 HX1.out (by omega) rfl).mono ?_; rintro e w2 ⟨rfl, hw2⟩; obtain rfl := hw2.symm)
                    | (go_at_call 21; refine (four_any (crc (body (kd (!false) true) ((l.drop f).take s))) w1 hcr).mono ?_; rintro e w3 ⟨v3, rfl, ho3, hb3⟩; obtain ⟨g3, c3, rfl, hg3, hgs3, hc3, hI3⟩ := ho3.isB; have HX3 : Hid (IsB w3 (some ⟨g3, 0, none⟩) (four (crc (body (kd (!false) true) ((l.drop f).take s))))) := hI3; have HB3 : Hid (Below w1.heap.size w1 w3) := hb3; have HO3 : Hid (w3.ownsRow w.heap.size 5 1 _ q.length (cellsB q)) := own_below (own_below HW.out.2.2.1 HB1.out) hb3; have hs1 := HB1.out.size; have hs3 := hb3.size; clear ho3 hb3 hI3)
                    | (at_builtin; refine wpList_appB (by rfl) (.tmp 75) (.tmp 78) 22 (by rfl) w.heap.size 5 i8 Tryd.underlying22 hinf hz0 hz1 hz2 _ q q.length (by rfl) HO3.out (some ⟨g3, 0, none⟩) 4 c3 (four (crc (body (kd (!false) true) ((l.drop f).take s)))) (by rfl) rfl (by simp) HX3.out (by omega) (by omega) ?_; intro v5 w5 hown5 hgr5 hnn5; have HO5 : Hid (w5.ownsRow w.heap.size 5 1 v5 (q.length + 4) (cellsB (q ++ four (crc (body (kd (!false) true) ((l.drop f).take s)))))) := hown5; have HX5 : Hid (IsB w5 (some ⟨g1, 0, none⟩) (body (kd (!false) true) ((l.drop f).take s))) := isB_grown (HX1.out.below HB3.out) hgr5 (by omega) (fun e => by have := (HW.out.2.2.1.lt _ e).2; omega); have HB5 : Hid (Below w.heap.size w w5) := below_of ((HW.out.2.2.2.trans (HB1.out.mono (by omega))).trans (HB3.out.mono (by omega))) hgr5 (Nat.le_refl _) (fun j hj => (HO3.out.lt j hj).1); have hs5 := HB5.out.size; clear hown5 hgr5 hnn5)
                    | (at_builtin; refine wpList_appB (by rfl) (.tmp 80) (.tmp 81) 22 (by rfl) w.heap.size 5 i8 Tryd.underlying22 hinf hz0 hz1 hz2 _ (q ++ four (crc (body (kd (!false) true) ((l.drop f).take s)))) (q.length + 4) (by rfl) HO5.out (some ⟨g1, 0, none⟩) (body (kd (!false) true) ((l.drop f).take s)).length c1 (body (kd (!false) true) ((l.drop f).take s)) (by rfl) rfl (by simp) HX5.out (by omega) (by omega) ?_; intro v6 w6 hown6 hgr6 hnn6; have HO6 : Hid (w6.ownsRow w.heap.size 5 1 v6 (q ++ pie (kd (!false) true) ((l.drop f).take s)).length (cellsB (q ++ pie (kd (!false) true) ((l.drop f).take s))) ∧ Below w.heap.size w w6) := ⟨piece_own (wr := w) (w5 := w) (v5 := v5) hown6, below_of HB5.out hgr6 (Nat.le_refl _) (fun j hj => (HO5.out.lt j hj).1)⟩; clear hown6 hgr6 hnn6))
                  go_roundw
                  case rel => exact ⟨q ++ pie (kd (!false) true) ((l.drop f).take s), 0, f + s, false, rfl, by go_num, rfl, by omega, by omega, by rw [List.length_append, pie_length, htk]; omega, (by intro h; cases h), HNX.out, byte_app HW.out.2.1 (pie_byte (kd_lt _ _) HIP.out.2), HO6.out.1, HO6.out.2⟩
                  case measure => first | omega | (simp [intOf]; done) | (simp [intOf]; omega)
              · skip
                have q1 : ¬ (s : Int) < (m : Int) := by omega
                have q2 : ¬ (f : Int) + (m : Int) = (N : Int) := by omega
                have q22 : ((f : Int) + (m : Int) == (N : Int)) = false := by simp; omega
                have q5 : (f : Int) + (m : Int) ≤ (cap : Int) := by omega
                have q6 : (f : Int) ≤ (f : Int) + (m : Int) := by omega
                have HNX : Hid (RLay A l (q ++ pie (kd (!first) false) ((l.drop f).take m)) 0 (f + m) false) := RLay.next HR.out.1 hgo hp (by omega) (by omega)
                cases first with
                | true =>
                  have hq2 := (hq1 rfl).1
                  clear hq1
                  have HIP : Hid (IsB wr (some ⟨b, off + f, none⟩) ((l.drop f).take m)) := HII.out.take _
                  have hcr : crc (body (kd (!true) false) ((l.drop f).take m)) < 4294967296 := crc_lt _ (body_byte (kd_lt _ _) HIP.out.2)
                  have hbl := body_length (kd (!true) false) ((l.drop f).take m)
                  have htk : ((l.drop f).take m).length = m := by simp; try omega
                  go_wp2_with (first
                    | (at_builtin; refine wpList_appB (by rfl) (.tmp 67) (.tmp 73) 22 (by rfl) wr.heap.size 5 i8 Tryd.underlying22 hinf hz0 hz1 hz2 _ [((l.drop f).take m).length % 256, ((l.drop f).take m).length / 256 % 256, (kd (!true) false)] 3 (by rfl) (own_three (by rw [htk]; omega) (by rw [htk]; omega) (by rfl)) (some ⟨b, off + f, none⟩) m (cap - f) ((l.drop f).take m) (by first | rfl | (simp [Act.eval, Act.put]; done) | (simp [Act.eval, Act.put]; omega)) htk.symm (by simp) (HIP.out.below ((Below.refl _ _).alloc (Nat.le_refl _) _)) (by omega) (by simp) ?_; intro v1 w1 hown1 hgr1 hnn1; have HB1 : Hid (Below wr.heap.size wr w1) := below_of ((Below.refl _ _).alloc (Nat.le_refl _) _) hgr1 (Nat.le_refl _) (by simp [Value.ownBlock]); have HO1 : Hid (Own 5 wr.heap.size w1 v1 (body (kd (!true) false) ((l.drop f).take m))) := Own.pos hown1 (body_byte (kd_lt _ _) HIP.out.2) (by omega); clear hgr1 hown1 hnn1; obtain ⟨g1, c1, rfl, hg1, hgs1, hc1, hI1⟩ := HO1.out.isB; have HX1 : Hid (IsB w1 (some ⟨g1, 0, none⟩) (body (kd (!true) false) ((l.drop f).take m))) := hI1; clear hI1)
                    | (go_at_call 22; refine (refSum_any _ _ _ (body (kd (!true) false) ((l.drop f).take m)) w1 HX1.out (by omega) rfl).mono ?_; rintro e w2 ⟨rfl, hw2⟩; obtain rfl := hw2.symm)
                    | (go_at_call 21; refine (four_any (crc (body (kd (!true) false) ((l.drop f).take m))) w1 hcr).mono ?_; rintro e w3 ⟨v3, rfl, ho3, hb3⟩; obtain ⟨g3, c3, rfl, hg3, hgs3, hc3, hI3⟩ := ho3.isB; have HX3 : Hid (IsB w3 (some ⟨g3, 0, none⟩) (four (crc (body (kd (!true) false) ((l.drop f).take m))))) := hI3; have HB3 : Hid (Below w1.heap.size w1 w3) := hb3; have HO3 : Hid (w3.ownsRow w.heap.size 5 1 _ q.length (cellsB q)) := own_below (own_below HW.out.2.2.1 HB1.out) hb3; have hs1 := HB1.out.size; have hs3 := hb3.size; clear ho3 hb3 hI3)
                    | (at_builtin; refine wpList_appB (by rfl) (.tmp 75) (.tmp 78) 22 (by rfl) w.heap.size 5 i8 Tryd.underlying22 hinf hz0 hz1 hz2 _ q q.length (by rfl) HO3.out (some ⟨g3, 0, none⟩) 4 c3 (four (crc (body (kd (!true) false) ((l.drop f).take m)))) (by rfl) rfl (by simp) HX3.out (by omega) (by omega) ?_; intro v5 w5 hown5 hgr5 hnn5; have HO5 : Hid (w5.ownsRow w.heap.size 5 1 v5 (q.length + 4) (cellsB (q ++ four (crc (body (kd (!true) false) ((l.drop f).take m)))))) := hown5; have HX5 : Hid (IsB w5 (some ⟨g1, 0, none⟩) (body (kd (!true) false) ((l.drop f).take m))) := isB_grown (HX1.out.below HB3.out) hgr5 (by omega) (fun e => by have := (HW.out.2.2.1.lt _ e).2; omega); have HB5 : Hid (Below w.heap.size w w5) := below_of ((HW.out.2.2.2.trans (HB1.out.mono (by omega))).trans (HB3.out.mono (by omega))) hgr5 (Nat.le_refl _) (fun j hj => (HO3.out.lt j hj).1); have hs5 := HB5.out.size; clear hown5 hgr5 hnn5)
                    | (at_builtin; refine wpList_appB (by rfl) (.tmp 80) (.tmp 81) 22 (by rfl) w.heap.size 5 i8 Tryd.underlying22 hinf hz0 hz1 hz2 _ (q ++ four (crc (body (kd (!true) false) ((l.drop f).take m)))) (q.length + 4) (by rfl) HO5.out (some ⟨g1, 0, none⟩) (body (kd (!true) false) ((l.drop f).take m)).length c1 (body (kd (!true) false) ((l.drop f).take m)) (by rfl) rfl (by simp) HX5.out (by omega) (by omega) ?_; intro v6 w6 hown6 hgr6 hnn6; have HO6 : Hid (w6.ownsRow w.heap.size 5 1 v6 (q ++ pie (kd (!true) false) ((l.drop f).take m)).length (cellsB (q ++ pie (kd (!true) false) ((l.drop f).take m))) ∧ Below w.heap.size w w6) := ⟨piece_own (wr := w) (w5 := w) (v5 := v5) hown6, below_of HB5.out hgr6 (Nat.le_refl _) (fun j hj => (HO5.out.lt j hj).1)⟩; clear hown6 hgr6 hnn6))
                  go_roundw
                  case rel => exact ⟨q ++ pie (kd (!true) false) ((l.drop f).take m), 0, f + m, false, rfl, by go_num, rfl, by omega, by omega, by rw [List.length_append, pie_length, htk]; omega, (by intro h; cases h), HNX.out, byte_app HW.out.2.1 (pie_byte (kd_lt _ _) HIP.out.2), HO6.out.1, HO6.out.2⟩
                  case measure => first | omega | (simp [intOf]; done) | (simp [intOf]; omega)
                | false =>
                  clear hq1
                  have q9 : (f : Int) < (N : Int) := by rcases hgo with h | h; cases h; omega
                  have HIP : Hid (IsB wr (some ⟨b, off + f, none⟩) ((l.drop f).take m)) := HII.out.take _
                  have hcr : crc (body (kd (!false) false) ((l.drop f).take m)) < 4294967296 := crc_lt _ (body_byte (kd_lt _ _) HIP.out.2)
                  have hbl := body_length (kd (!false) false) ((l.drop f).take m)
                  have htk : ((l.drop f).take m).length = m := by simp; try omega
                  go_wp2_with (first
                    | (at_builtin; refine wpList_appB (by rfl) (.tmp 67) (.tmp 73) 22 (by rfl) wr.heap.size 5 i8 Tryd.underlying22 hinf hz0 hz1 hz2 _ [((l.drop f).take m).length % 256, ((l.drop f).take m).length / 256 % 256, (kd (!false) false)] 3 (by rfl) (own_three (by rw [htk]; omega) (by rw [htk]; omega) (by rfl)) (some ⟨b, off + f, none⟩) m (cap - f) ((l.drop f).take m) (by first | rfl | (simp [Act.eval, Act.put]; done) | (simp [Act.eval, Act.put]; omega)) htk.symm (by simp) (HIP.out.below ((Below.refl _ _).alloc (Nat.le_refl _) _)) (by omega) (by simp) ?_; intro v1 w1 hown1 hgr1 hnn1; have HB1 : Hid (Below wr.heap.size wr w1) := below_of ((Below.refl _ _).alloc (Nat.le_refl _) _) hgr1 (Nat.le_refl _) (by simp [Value.ownBlock]); have HO1 : Hid (Own 5 wr.heap.size w1 v1 (body (kd (!false) false) ((l.drop f).take m))) := Own.pos hown1 (body_byte (kd_lt _ _) HIP.out.2) (by omega); clear hgr1 hown1 hnn1; obtain ⟨g1, c1, rfl, hg1, hgs1, hc1, hI1⟩ := HO1.out.isB; have HX1 : Hid (IsB w1 (some ⟨g1, 0, none⟩) (body (kd (!false) false) ((l.drop f).take m))) := hI1; clear hI1)
                    | (go_at_call 22; refine (refSum_any _ _ _ (body (kd (!false) false) ((l.drop f).take m)) w1 HX1.out (by omega) rfl).mono ?_; rintro e w2 ⟨rfl, hw2⟩; obtain rfl := hw2.symm)
                    | (go_at_call 21; refine (four_any (crc (body (kd (!false) false) ((l.drop f).take m))) w1 hcr).mono ?_; rintro e w3 ⟨v3, rfl, ho3, hb3⟩; obtain ⟨g3, c3, rfl, hg3, hgs3, hc3, hI3⟩ := ho3.isB; have HX3 : Hid (IsB w3 (some ⟨g3, 0, none⟩) (four (crc (body (kd (!false) false) ((l.drop f).take m))))) := hI3; have HB3 : Hid (Below w1.heap.size w1 w3) := hb3; have HO3 : Hid (w3.ownsRow w.heap.size 5 1 _ q.length (cellsB q)) := own_below (own_below HW.out.2.2.1 HB1.out) hb3; have hs1 := HB1.out.size; have hs3 := hb3.size; clear ho3 hb3 hI3)
                    | (at_builtin; refine wpList_appB (by rfl) (.tmp 75) (.tmp 78) 22 (by rfl) w.heap.size 5 i8 Tryd.underlying22 hinf hz0 hz1 hz2 _ q q.length (by rfl) HO3.out (some ⟨g3, 0, none⟩) 4 c3 (four (crc (body (kd (!false) false) ((l.drop f).take m)))) (by rfl) rfl (by simp) HX3.out (by omega) (by omega) ?_; intro v5 w5 hown5 hgr5 hnn5; have HO5 : Hid (w5.ownsRow w.heap.size 5 1 v5 (q.length + 4) (cellsB (q ++ four (crc (body (kd (!false) false) ((l.drop f).take m)))))) := hown5; have HX5 : Hid (IsB w5 (some ⟨g1, 0, none⟩) (body (kd (!false) false) ((l.drop f).take m))) := isB_grown (HX1.out.below HB3.out) hgr5 (by omega) (fun e => by have := (HW.out.2.2.1.lt _ e).2; omega); have HB5 : Hid (Below w.heap.size w w5) := below_of ((HW.out.2.2.2.trans (HB1.out.mono (by omega))).trans (HB3.out.mono (by omega))) hgr5 (Nat.le_refl _) (fun j hj => (HO3.out.lt j hj).1); have hs5 := HB5.out.size; clear hown5 hgr5 hnn5)
                    | (at_builtin; refine wpList_appB (by rfl) (.tmp 80) (.tmp 81) 22 (by rfl) w.heap.size 5 i8 Tryd.underlying22 hinf hz0 hz1 hz2 _ (q ++ four (crc (body (kd (!false) false) ((l.drop f).take m)))) (q.length + 4) (by rfl) HO5.out (some ⟨g1, 0, none⟩) (body (kd (!false) false) ((l.drop f).take m)).length c1 (body (kd (!false) false) ((l.drop f).take m)) (by rfl) rfl (by simp) HX5.out (by omega) (by omega) ?_; intro v6 w6 hown6 hgr6 hnn6; have HO6 : Hid (w6.ownsRow w.heap.size 5 1 v6 (q ++ pie (kd (!false) false) ((l.drop f).take m)).length (cellsB (q ++ pie (kd (!false) false) ((l.drop f).take m))) ∧ Below w.heap.size w w6) := ⟨piece_own (wr := w) (w5 := w) (v5 := v5) hown6, below_of HB5.out hgr6 (Nat.le_refl _) (fun j hj => (HO5.out.lt j hj).1)⟩; clear hown6 hgr6 hnn6))
                  go_roundw
                  case rel => exact ⟨q ++ pie (kd (!false) false) ((l.drop f).take m), 0, f + m, false, rfl, by go_num, rfl, by omega, by omega, by rw [List.length_append, pie_length, htk]; omega, (by intro h; cases h), HNX.out, byte_app HW.out.2.1 (pie_byte (kd_lt _ _) HIP.out.2), HO6.out.1, HO6.out.2⟩
                  case measure => first | omega | (simp [intOf]; done) | (simp [intOf]; omega)
        · obtain rfl : first = false := by cases first <;> simp_all
          have q1 : ¬ (f : Int) < (N : Int) := by omega
          go_wp2
          go_ret
          have h := HR.out.1
          unfold RLay at h
          rw [if_neg hgo] at h
          rw [← h]
          exact ⟨_, rfl, HR.out.2.2.1, HR.out.2.2.2⟩

end Lga
end Go.Proofs.YtakgakjkemphlaaDoor
