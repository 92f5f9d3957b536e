import Derived.Test.YtkjddbplaicmjaaLg6
import Derived.Test.YtkjddbplaicmjaaTxt
namespace Go.Proofs.Ytkjddbplaicmjaa
namespace Rfw
open Go.RowKit CMath Byt Cod Lg Laws Grp Lgg Crw
set_option linter.unusedVariables false
set_option linter.unusedSimpArgs false
set_option maxRecDepth 20000

/-- what the document's write answers -/
def RwAns (w : World) (l : List Nat) (e : Ending) (w' : World) : Prop := ∃ (x : W3) (sz f : Nat), e = .returned (.tuple #[.agg #[.string x.1, .bool x.2.1, .string x.2.2], .int .i64 (sz : Int), .int .i64 (f : Int)]) ∧ f = (rdW l).2.2 ∧ (f = 0 → x = (rdW l).1 ∧ (rdW l).2.1 = l.drop sz ∧ sz ≤ l.length ∧ x.1.size ≤ 1000 ∧ x.2.2.size ≤ 1000) ∧ Below w.heap.size w w'
theorem isB_sub {w : World} {b off : Nat} {l : List Nat} (h : IsB w (some ⟨b, off, none⟩) l) (n : Nat) : IsB w (some ⟨b, off + n, none⟩) (l.drop n) := by
  refine ⟨fun hne => ?_, fun x hx => h.2 x (List.mem_of_mem_drop hx)⟩
  obtain ⟨b', off', e, hr⟩ := h.1 (by rintro rfl; simp at hne)
  cases e
  exact ⟨b, off + n, rfl, hr.drop n⟩
theorem below_new {w : World} {o : Obj} {p : Addr} {u : Value} {W : World} (h : Below w.heap.size w W) (hp : w.heap.size ≤ p.block) : Below w.heap.size w (W.setCell p u) := h.setCell hp u
theorem text_nil (m : Int) : text [] m = ([], 0, 20) := by simp [text, rd]
theorem aggz (W : World) (a0 a1 a2 : Value) : True := trivial

set_option maxHeartbeats 2000000 in
theorem refWrite_any (a : Option Addr) (cap n : Nat) (l : List Nat) (w : World) (h : IsB w a l) (hn : n = l.length) (hcap : l.length ≤ cap) (hmx : cap ≤ 9223372036854775807) :
    Calls Try.prog 44 #[.slice a n cap] w fun e w' => RwAns w l e w' := by
  subst hn
  have HZ : Hid (Bx (w.alloc zW) w.heap.size ⟨#[]⟩ false ⟨#[]⟩) := Bx.new w
  have HBL : Hid (Below w.heap.size w (w.alloc zW)) := (Below.refl _ _).alloc (Nat.le_refl _) _
  cases l with
  | nil =>
    clear h
    go_enter Try.func44, Try.ntmps44
    go_wp2
    refine bodyPost_ret (v := .tuple #[.agg #[.string ⟨#[]⟩, .bool false, .string ⟨#[]⟩], .int .i64 0, .int .i64 20]) ?_ rfl ⟨(_, _, _), 0, 20, rfl, rfl, (fun h => by cases h), (Below.refl _ _).alloc (Nat.le_refl _) _⟩
    · simp [results, Try.results44, go_sem, World.cell?_alloc_at, World.cell?_alloc_past]
  | cons c r =>
    obtain ⟨b, off, rfl, hr⟩ := h.1 (by simp)
    have c0 := hr.2 0 c rfl
    rw [Nat.add_zero] at c0
    have hbs := hr.1
    have hcb := h.2 c (List.mem_cons_self ..)
    have hrb : ∀ x ∈ r, x < 256 := fun x hx => h.2 x (List.mem_cons_of_mem _ hx)
    have HI : Hid (IsB w (some ⟨b, off, none⟩) (c :: r)) := h
    have hnb : ¬ b = w.heap.size := by omega
    rw [List.length_cons] at hcap
    have q0 : ¬ ((r.length : Int) + 1 = 0) := by omega
    have q00 : (0 : Int) < (r.length : Int) + 1 := by omega
    clear h hr HZ HBL
    by_cases h1 : 1 < c
    · have q1 : (1 : Int) < (c : Int) := by omega
      have e : rdW (c :: r) = (noW, [], 21) := by simp [rdW, h1]
      go_enter Try.func44, Try.ntmps44
      go_wp2
      refine bodyPost_ret (v := .tuple #[.agg #[.string ⟨#[]⟩, .bool false, .string ⟨#[]⟩], .int .i64 0, .int .i64 21]) ?_ rfl ⟨(_, _, _), 0, 21, rfl, by rw [e], (fun h => by cases h), (Below.refl _ _).alloc (Nat.le_refl _) _⟩
      · simp [results, Try.results44, go_sem, World.cell?_alloc_at, World.cell?_alloc_past]
    · have q1 : ¬ (1 : Int) < (c : Int) := by omega
      obtain ⟨⟨s, k, f⟩, htx⟩ : ∃ x, text r 64 = x := ⟨_, rfl⟩
      have hk := text_k hrb htx
      have hsl := text_len r 64
      rw [show ((64 : Nat) : Int) = 64 by rfl, htx] at hsl
      dsimp only at hsl
      have HT : Hid (∀ W a' c', IsB W a' r → r.length ≤ c' → c' ≤ 9223372036854775807 → Calls Try.prog 56 #[.slice a' r.length c', .int .i64 64] W fun e w' => e = .returned (.tuple #[.string (ofB s), .int .i64 (k : Int), .int .i64 (f : Int)]) ∧ w' = W) := fun W a' c' h1 h2 h3 => by
        have h := refText_any a' c' _ r 64 W h1 h2 h3 (by omega) rfl
        unfold txt at h
        rw [htx] at h
        exact h
      have HE : Hid (rdW (c :: r) = if f ≠ 0 then (noW, [], f) else if s = [] then (noW, [], 21) else if c = 1 then ((ofB s, true, ⟨#[]⟩), r.drop k, 0) else if (text (r.drop k) 512).2.2 ≠ 0 then (noW, [], (text (r.drop k) 512).2.2) else ((ofB s, false, ofB (text (r.drop k) 512).1), (r.drop k).drop (text (r.drop k) 512).2.1, 0)) := by
        show _ = _
        simp only [rdW, if_neg h1, htx]
      have hI1 : ∀ W, Below w.heap.size w W → IsB W (some ⟨b, off + 1, none⟩) r := fun W hW => isB_sub (HI.out.below hW) 1
      have HI1 : Hid (∀ W, Below w.heap.size w W → IsB W (some ⟨b, off + 1, none⟩) r) := hI1
      clear hI1
      by_cases hc1 : cap = 1
      · have hr0 : r = [] := List.eq_nil_of_length_eq_zero (by omega)
        have hf : f = 20 := by rw [hr0, text_nil] at htx; cases htx; rfl
        have q2 : ((f : Int) != 0) = true := by rw [hf]; rfl
        have q3 : ¬ (f : Int) = 0 := by omega
        have HTT : Hid (∀ W c', c' ≤ 9223372036854775807 → Calls Try.prog 56 #[.slice (some ⟨b, off, none⟩) 0 c', .int .i64 64] W fun e w' => e = .returned (.tuple #[.string (ofB s), .int .i64 (k : Int), .int .i64 (f : Int)]) ∧ w' = W) := fun W c' h => by have hh := HT.out W (some ⟨b, off, none⟩) c' (by rw [hr0]; exact IsB.nil _ _) (by rw [hr0]; simp) h; rw [hr0] at hh; exact hh
        have hE := HE.out
        rw [if_pos (by omega)] at hE
        have HE2 : Hid (rdW (c :: r) = (noW, [], f)) := hE
        subst hc1
        have hl0 : r.length = 0 := by omega
        clear htx hE hf hr0 hk
        go_enter Try.func44, Try.ntmps44
        go_wp2_with (go_at_call 56; refine (HTT.out _ _ (by omega)).mono ?_; rintro e w3 ⟨rfl, hw3⟩; obtain rfl := hw3)
        refine bodyPost_ret (v := .tuple #[.agg #[.string ⟨#[]⟩, .bool false, .string ⟨#[]⟩], .int .i64 0, .int .i64 f]) ?_ rfl ⟨(_, _, _), 0, f, rfl, by rw [HE2.out], (fun h => absurd h (by omega)), (Below.refl _ _).alloc (Nat.le_refl _) _⟩
        · simp [results, Try.results44, go_sem, World.cell?_alloc_at, World.cell?_alloc_past]
      · have z1 : ¬ cap - 1 = 0 := by omega
        have z2 : 1 < cap := by omega
        have z3 : (1 : Int) < (cap : Int) := by omega
        have z4 : (1 : Int) ≤ (cap : Int) := by omega
        have TARM : True := trivial
        by_cases hf : f = 0
        · subst hf
          rw [if_neg (by simp)] at HE
          by_cases hs : s = []
          · subst hs
            rw [if_pos rfl] at HE
            have hof : ofB [] = ⟨#[]⟩ := rfl
            go_enter Try.func44, Try.ntmps44
            go_wp2_with (go_at_call 56; refine (HT.out _ (some ⟨b, off + 1, none⟩) (cap - 1) (HI1.out _ ((Below.refl _ _).alloc (Nat.le_refl _) _)) (by omega) (by omega)).mono ?_; rintro e w3 ⟨rfl, hw3⟩; obtain rfl := hw3)
            refine bodyPost_ret (v := .tuple #[.agg #[.string ⟨#[]⟩, .bool false, .string ⟨#[]⟩], .int .i64 0, .int .i64 21]) ?_ rfl ⟨(_, _, _), 0, 21, rfl, by rw [HE.out], (fun h => by cases h), (Below.refl _ _).alloc (Nat.le_refl _) _⟩
            · simp [results, Try.results44, go_sem, World.cell?_alloc_at, World.cell?_alloc_past]
          · rw [if_neg hs] at HE
            have hne : (ofB s).toList.isEmpty = false := ofB_ne hs
            have hso := ofB_size s
            by_cases hc : c = 1
            · subst hc
              rw [if_pos rfl] at HE
              go_enter Try.func44, Try.ntmps44
              go_wp2_with (go_at_call 56; refine (HT.out _ (some ⟨b, off + 1, none⟩) (cap - 1) (HI1.out _ ((Below.refl _ _).alloc (Nat.le_refl _) _)) (by omega) (by omega)).mono ?_; rintro e w3 ⟨rfl, hw3⟩; obtain rfl := hw3)
              refine bodyPost_ret (v := .tuple #[.agg #[.string (ofB s), .bool true, .string ⟨#[]⟩], .int .i64 ((k : Int) + 1), .int .i64 0]) ?_ rfl ⟨(ofB s, true, ⟨#[]⟩), k + 1, 0, rfl, by rw [HE.out], fun _ => ⟨by rw [HE.out], by rw [HE.out]; rfl, by simp; omega, by rw [hso]; omega, by simp [ByteArray.size]⟩, ((Below.refl _ _).alloc (Nat.le_refl _) _).alloc (by simp) _⟩
              · simp [results, Try.results44, go_sem, World.cell?_alloc_at, World.cell?_alloc_past]
            · rw [if_neg hc] at HE
              obtain rfl : c = 0 := by omega
              obtain ⟨⟨v, k2, f2⟩, htx2⟩ : ∃ x, text (r.drop k) 512 = x := ⟨_, rfl⟩
              rw [htx2] at HE
              dsimp only at HE
              have hk2 := text_k (fun x hx => hrb x (List.mem_of_mem_drop hx)) htx2
              have hvl := text_len (r.drop k) 512
              rw [show ((512 : Nat) : Int) = 512 by rfl, htx2] at hvl
              dsimp only at hvl
              have hvo := ofB_size v
              have hrd : (r.drop k).length = r.length - k := by simp
              rw [hrd] at hk2
              have HT2 : Hid (∀ W a' c', IsB W a' (r.drop k) → r.length - k ≤ c' → c' ≤ 9223372036854775807 → Calls Try.prog 56 #[.slice a' (r.length - k) c', .int .i64 512] W fun e w' => e = .returned (.tuple #[.string (ofB v), .int .i64 (k2 : Int), .int .i64 (f2 : Int)]) ∧ w' = W) := fun W a' c' h1 h2 h3 => by
                have h := refText_any a' c' (r.length - k) (r.drop k) 512 W h1 (by rw [hrd]; exact h2) h3 (by omega) hrd.symm
                unfold txt at h
                rw [htx2] at h
                exact h
              have HI2 : Hid (∀ W, Below w.heap.size w W → IsB W (some ⟨b, off + (k + 1), none⟩) (r.drop k)) := fun W hW => isB_sub (HI.out.below hW) (k + 1)
              have y1 : (k : Int) + 1 ≤ (cap : Int) := by omega
              have y2 : (k : Int) + 1 ≤ (r.length : Int) + 1 := by omega
              have y3 : ¬ ((0 : Nat) : Int) = 1 := by omega
              by_cases hck : cap = k + 1
              · have hkr : k = r.length := by omega
                have hd0 : r.drop k = [] := List.drop_of_length_le (by omega)
                have hf2 : f2 = 20 := by rw [hd0, text_nil] at htx2; cases htx2; rfl
                rw [if_pos (by omega)] at HE
                have HT2Z : Hid (∀ W c', c' ≤ 9223372036854775807 → Calls Try.prog 56 #[.slice (some ⟨b, off, none⟩) 0 c', .int .i64 512] W fun e w' => e = .returned (.tuple #[.string (ofB v), .int .i64 (k2 : Int), .int .i64 (f2 : Int)]) ∧ w' = W) := fun W c' h => by have hh := HT2.out W (some ⟨b, off, none⟩) c' (by rw [hd0]; exact IsB.nil _ _) (by omega) h; rw [show r.length - k = 0 by omega] at hh; exact hh
                have q2 : ((f2 : Int) != 0) = true := by rw [hf2]; rfl
                have q3 : ¬ (f2 : Int) = 0 := by omega
                have hf20 : f2 ≠ 0 := by omega
                have x1 : r.length + 1 - (k + 1) = 0 := by omega
                have x2 : cap - (k + 1) = 0 := by omega
                clear hck hkr hd0 hf2 htx2 htx
                go_enter Try.func44, Try.ntmps44
                go_wp2_with fail
                refine (HT.out _ (some ⟨b, off + 1, none⟩) (cap - 1) (HI1.out _ ((Below.refl _ _).alloc (Nat.le_refl _) _)) (by omega) (by omega)).mono ?_
                rintro e w3 ⟨rfl, hw3⟩
                obtain rfl := hw3
                go_wp2_with fail
                refine (HT2Z.out _ _ (by omega)).mono ?_
                rintro e w4 ⟨rfl, hw4⟩
                obtain rfl := hw4
                go_wp2_with fail
                refine bodyPost_ret (v := .tuple #[.agg #[.string ⟨#[]⟩, .bool false, .string ⟨#[]⟩], .int .i64 0, .int .i64 f2]) ?_ rfl ⟨(_, _, _), 0, f2, rfl, by rw [HE.out], (fun h => absurd h hf20), ((Below.refl _ _).alloc (Nat.le_refl _) _).alloc (by simp) _⟩
                · simp [results, Try.results44, go_sem, World.cell?_alloc_at, World.cell?_alloc_past]
              · have x1 : ¬ cap - (k + 1) = 0 := by omega
                have x2 : k + 1 < cap := by omega
                have x3 : (k : Int) + 1 < (cap : Int) := by omega
                have x4 : r.length + 1 - (k + 1) = r.length - k := by omega
                clear htx2 htx
                by_cases hf2 : f2 = 0
                · subst hf2
                  rw [if_neg (by simp)] at HE
                  go_enter Try.func44, Try.ntmps44
                  go_wp2_with fail
                  refine (HT.out _ (some ⟨b, off + 1, none⟩) (cap - 1) (HI1.out _ ((Below.refl _ _).alloc (Nat.le_refl _) _)) (by omega) (by omega)).mono ?_
                  rintro e w3 ⟨rfl, hw3⟩
                  obtain rfl := hw3
                  go_wp2_with fail
                  refine (HT2.out _ (some ⟨b, off + (k + 1), none⟩) (cap - (k + 1)) (HI2.out _ (((Below.refl _ _).alloc (Nat.le_refl _) _).alloc (by simp) _)) (by omega) (by omega)).mono ?_
                  rintro e w4 ⟨rfl, hw4⟩
                  obtain rfl := hw4
                  go_wp2_with fail
                  refine bodyPost_ret (v := .tuple #[.agg #[.string (ofB s), .bool false, .string (ofB v)], .int .i64 ((k : Int) + 1 + (k2 : Int)), .int .i64 0]) ?_ rfl ⟨(ofB s, false, ofB v), k + 1 + k2, 0, rfl, by rw [HE.out], fun _ => ⟨by rw [HE.out], by rw [HE.out, List.drop_drop]; show _ = (0 :: r).drop (k + 1 + k2); rw [show k + 1 + k2 = (k + k2) + 1 by omega]; rfl, by simp; omega, by rw [hso]; omega, by rw [hvo]; omega⟩, ((Below.refl _ _).alloc (Nat.le_refl _) _).alloc (by simp) _⟩
                  · simp [results, Try.results44, go_sem, World.cell?_alloc_at, World.cell?_alloc_past]
                · rw [if_pos hf2] at HE
                  have q2 : ((f2 : Int) != 0) = true := by simp; omega
                  have q3 : ¬ (f2 : Int) = 0 := by omega
                  go_enter Try.func44, Try.ntmps44
                  go_wp2_with fail
                  refine (HT.out _ (some ⟨b, off + 1, none⟩) (cap - 1) (HI1.out _ ((Below.refl _ _).alloc (Nat.le_refl _) _)) (by omega) (by omega)).mono ?_
                  rintro e w3 ⟨rfl, hw3⟩
                  obtain rfl := hw3
                  go_wp2_with fail
                  refine (HT2.out _ (some ⟨b, off + (k + 1), none⟩) (cap - (k + 1)) (HI2.out _ (((Below.refl _ _).alloc (Nat.le_refl _) _).alloc (by simp) _)) (by omega) (by omega)).mono ?_
                  rintro e w4 ⟨rfl, hw4⟩
                  obtain rfl := hw4
                  go_wp2_with fail
                  refine bodyPost_ret (v := .tuple #[.agg #[.string ⟨#[]⟩, .bool false, .string ⟨#[]⟩], .int .i64 0, .int .i64 f2]) ?_ rfl ⟨(_, _, _), 0, f2, rfl, by rw [HE.out], (fun h => absurd h hf2), ((Below.refl _ _).alloc (Nat.le_refl _) _).alloc (by simp) _⟩
                  · simp [results, Try.results44, go_sem, World.cell?_alloc_at, World.cell?_alloc_past]
        · rw [if_pos hf] at HE
          have q2 : ((f : Int) != 0) = true := by simp; omega
          have q3 : ¬ (f : Int) = 0 := by omega
          go_enter Try.func44, Try.ntmps44
          go_wp2_with (go_at_call 56; refine (HT.out _ (some ⟨b, off + 1, none⟩) (cap - 1) (HI1.out _ ((Below.refl _ _).alloc (Nat.le_refl _) _)) (by omega) (by omega)).mono ?_; rintro e w3 ⟨rfl, hw3⟩; obtain rfl := hw3)
          refine bodyPost_ret (v := .tuple #[.agg #[.string ⟨#[]⟩, .bool false, .string ⟨#[]⟩], .int .i64 0, .int .i64 f]) ?_ rfl ⟨(_, _, _), 0, f, rfl, by rw [HE.out], (fun h => absurd h hf), (Below.refl _ _).alloc (Nat.le_refl _) _⟩
          · simp [results, Try.results44, go_sem, World.cell?_alloc_at, World.cell?_alloc_past]

end Rfw
end Go.Proofs.Ytkjddbplaicmjaa
