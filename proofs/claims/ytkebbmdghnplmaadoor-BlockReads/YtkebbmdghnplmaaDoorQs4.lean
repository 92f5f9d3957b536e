import Derived.Test.YtkebbmdghnplmaaDoorQs3
import Derived.Deep.Cut
namespace Go.Proofs.YtkebbmdghnplmaaDoor
namespace Qb
open Go.RowKit CMath Byt Laws Irw Crw Cod
set_option linter.unusedVariables false
set_option linter.unusedSimpArgs false
set_option maxRecDepth 20000

theorem isB_dr {w : World} {b off : Nat} {l : List Nat} (h : IsB w (some ⟨b, off, none⟩) l) (n : Nat) : IsB w (some ⟨b, off + n, none⟩) (l.drop n) := by
  by_cases hd : l.drop n = []
  · rw [hd]; exact IsB.nil _ _
  · have hne : l ≠ [] := by rintro rfl; simp at hd
    obtain ⟨b', o', e, hr⟩ := h.1 hne
    cases e
    exact IsB.some (hr.drop n) (fun x hx => h.2 x (List.mem_of_mem_drop hx))
theorem uint_at (b off cap n p : Nat) (l : List Nat) (W : World) (h : IsB W (some ⟨b, off, none⟩) l) (hn : n = l.length) (h40 : n ≤ 1000000000000) {x k f : Nat} (hr : rd (l.drop p) 0 0 = (x, k, f)) :
    Calls Tryd.prog 77 #[.slice (some ⟨b, off + p, none⟩) (n - p) (cap - p)] W fun e w' => e = .returned (.tuple #[.int .u64 (x : Int), .int .i64 (k : Int), .int .i64 (f : Int)]) ∧ w' = W := by
  have hh := refUint_any (some ⟨b, off + p, none⟩) (cap - p) (n - p) (l.drop p) W (isB_dr h p) (by simp; omega) (by simp [hn])
  rw [hr] at hh
  exact hh
theorem rd_kk {l : List Nat} (hl : ∀ x ∈ l, x < 256) {n k f : Nat} (h : rd l 0 0 = (n, k, f)) : k ≤ l.length ∧ n < 18446744073709551616 ∧ k ≤ 10 := by
  by_cases hf : f = 0
  · subst hf
    have := rd_bytes hl h
    exact ⟨this.2.1, (rd_ok0 hl h).1, this.2.2⟩
  · obtain ⟨rfl, rfl, _⟩ := rd_err0 l h hf
    exact ⟨Nat.zero_le _, by omega, by omega⟩
theorem enV_in {r : Option (En × Nat)} {x : Option (En × Nat)} (h : r = x) : enV x = enV r := by rw [h]
set_option maxHeartbeats 4000000 in
theorem entry_any (b off cap n : Nat) (l : List Nat) (ah : ByteArray) (w : World) (h : IsB w (some ⟨b, off, none⟩) l) (hbl : b < w.heap.size) (hn : n = l.length) (hcap : n < cap) (hmx : cap ≤ 9223372036854775807) (hnm : n ≤ 1000000000000) (hah : ah.size ≤ 1000000) :
    Calls Tryd.prog 41 #[.slice (some ⟨b, off, none⟩) n cap, .string ah] w fun e w' => e = .returned (enV (rdF l (strB ah))) ∧ Below w.heap.size w w' := by
  have hby := h.2
  have hL0 : (strB ah).length = ah.size := strB_length ah
  obtain ⟨⟨n1, k1, f1⟩, hr1⟩ : ∃ x, rd l 0 0 = x := ⟨_, rfl⟩
  obtain ⟨⟨n2, k2, f2⟩, hr2⟩ : ∃ x, rd (l.drop k1) 0 0 = x := ⟨_, rfl⟩
  obtain ⟨⟨n3, k3, f3⟩, hr3⟩ : ∃ x, rd (l.drop (k1 + k2)) 0 0 = x := ⟨_, rfl⟩
  have hq1 := rd_kk hby hr1
  have hq2 := rd_kk (fun x hx => hby x (List.mem_of_mem_drop hx)) hr2
  have hq3 := rd_kk (fun x hx => hby x (List.mem_of_mem_drop hx)) hr3
  simp only [List.length_drop] at hq2 hq3
  rw [← hn] at hq1 hq2 hq3
  have hF : rdF l (strB ah) = if f1 ≠ 0 then none else if f2 ≠ 0 then none else if f3 ≠ 0 then none else rdG l (strB ah) n1 n2 n3 (k1 + k2 + k3) := by
    unfold rdF; rw [hr1]; simp only []; rw [hr2]; simp only []; rw [hr3]
  have HF : Hid (rdF l (strB ah) = if f1 ≠ 0 then none else if f2 ≠ 0 then none else if f3 ≠ 0 then none else rdG l (strB ah) n1 n2 n3 (k1 + k2 + k3)) := hF
  have HI : Hid (IsB w (some ⟨b, off, none⟩) l ∧ b < w.heap.size) := ⟨h, hbl⟩
  have HN : Hid (n = l.length) := hn
  have HS : Hid ((strB ah).length = ah.size) := hL0
  have g1 : (w.alloc (.cells #[.string ⟨#[]⟩, .int .u64 0, .bool false, .string ⟨#[]⟩] 30)).heap[w.heap.size]? = some (.cells #[.string ⟨#[]⟩, .int .u64 0, .bool false, .string ⟨#[]⟩] 30) := World.alloc_heap_new _ _
  have hb1 : Below w.heap.size w (w.alloc (.cells #[.string ⟨#[]⟩, .int .u64 0, .bool false, .string ⟨#[]⟩] 30)) := (Below.refl _ _).alloc (Nat.le_refl _) _
  have H1 : Hid (∀ W, Below w.heap.size w W → Calls Tryd.prog 77 #[.slice (some ⟨b, off, none⟩) n cap] W fun e w' => e = .returned (.tuple #[.int .u64 (n1 : Int), .int .i64 (k1 : Int), .int .i64 (f1 : Int)]) ∧ w' = W) := fun W hW => by
    have hh := refUint_any (some ⟨b, off, none⟩) cap n l W (HI.out.1.below hW) (by omega) hn
    rw [hr1] at hh; exact hh
  have H2 : Hid (∀ W, Below w.heap.size w W → Calls Tryd.prog 77 #[.slice (some ⟨b, off + k1, none⟩) (n - k1) (cap - k1)] W fun e w' => e = .returned (.tuple #[.int .u64 (n2 : Int), .int .i64 (k2 : Int), .int .i64 (f2 : Int)]) ∧ w' = W) := fun W hW => uint_at b off cap n k1 l W (HI.out.1.below hW) hn (by omega) hr2
  have H3 : Hid (∀ W, Below w.heap.size w W → Calls Tryd.prog 77 #[.slice (some ⟨b, off + (k1 + k2), none⟩) (n - (k1 + k2)) (cap - (k1 + k2))] W fun e w' => e = .returned (.tuple #[.int .u64 (n3 : Int), .int .i64 (k3 : Int), .int .i64 (f3 : Int)]) ∧ w' = W) := fun W hW => uint_at b off cap n (k1 + k2) l W (HI.out.1.below hW) hn (by omega) hr3
  have t1 : k1 < cap := by omega
  have t2 : k1 + k2 < cap := by omega
  have t3 : k1 + k2 + k3 < cap := by omega
  have t4 : k1 + k2 + k3 ≤ n := by omega
  have t5 : k1 + k2 ≤ n := by omega
  have t6 : k1 ≤ n := by omega
  have s1 : (k1 : Int) ≤ (n : Int) := by omega
  have s2 : (k1 : Int) ≤ (cap : Int) := by omega
  have s3 : ((k1 : Int) + (k2 : Int)) ≤ (n : Int) := by omega
  have s4 : ((k1 : Int) + (k2 : Int)) ≤ (cap : Int) := by omega
  have s5 : ((k1 : Int) + (k2 : Int) + (k3 : Int)) ≤ (n : Int) := by omega
  clear h hbl hn hF hr1 hr2 hr3 hby hL0
  go_enter Tryd.func41, Tryd.ntmps41
  go_upto_region 1 with (fail)
  generalize (w.alloc (.cells #[.string ⟨#[]⟩, .int .u64 0, .bool false, .string ⟨#[]⟩] 30)) = W1 at *
  have HG1 : Hid (W1.heap[w.heap.size]? = some (.cells #[.string ⟨#[]⟩, .int .u64 0, .bool false, .string ⟨#[]⟩] 30) ∧ Below w.heap.size w W1) := ⟨g1, hb1⟩
  have c0 : W1.cell? ⟨w.heap.size, 0, none⟩ = some (.string ⟨#[]⟩) := by rw [cell_of_obj g1]; rfl
  have c1 : W1.cell? ⟨w.heap.size, 1, none⟩ = some (.int .u64 0) := by rw [cell_of_obj g1]; rfl
  have c2 : W1.cell? ⟨w.heap.size, 2, none⟩ = some (.bool false) := by rw [cell_of_obj g1]; rfl
  have c3 : W1.cell? ⟨w.heap.size, 3, none⟩ = some (.string ⟨#[]⟩) := by rw [cell_of_obj g1]; rfl
  have z : ∀ j, W1.frozen? ⟨w.heap.size, j, none⟩ = false := fun j => froz_of_obj g1
  clear g1 hb1
  have HZ : Hid (∀ (fn : Func) (p u : Tmp) (tmps : Array Value), fn.results = #[.cell p 30, .tmp u] → tmps.getD p undef = .pointer (some ⟨w.heap.size, 0, none⟩) → True) := fun _ _ _ _ _ _ => trivial
  go_upto_region 2 with (go_at_call 77; go_loud (refine (H1.out _ HG1.out.2).mono ?_; rintro e w2 ⟨rfl, hw2⟩; obtain rfl := hw2.symm; clear hw2))
  by_cases hf1 : f1 = 0
  · subst hf1
    by_cases hc1 : ah.size < n1
    · have q1 : ((ah.size : Nat) : Int) < (n1 : Int) := by omega
      have HR : Hid (rdF l (strB ah) = none) := by
        show _ = _
        rw [HF.out]; simp only [ne_eq, not_true_eq_false, if_false]
        split
        · rfl
        split
        · rfl
        unfold rdG; rw [if_pos (by rw [HS.out]; exact hc1)]
      go_wp2
      have h4 := four_set (.string ⟨#[]⟩) (.int .u64 0) (.bool false) (.string ⟨#[]⟩) c0 c1 c2 c3
      refine bodyPost_ret (res_ent2 rfl _ _ w.heap.size ⟨#[]⟩ 0 false ⟨#[]⟩ (by rfl) h4.1 h4.2.1 h4.2.2.1 h4.2.2.2) rfl ?_
      exact ⟨by rw [HR.out]; rfl, four_below _ _ _ _ HG1.out.2 (Nat.le_refl _)⟩
    · have q1 : (n1 : Int) ≤ ((ah.size : Nat) : Int) := by omega
      go_upto_region 5 with (go_at_call 77; go_loud (refine (H2.out _ HG1.out.2).mono ?_; rintro e w2 ⟨rfl, hw2⟩; obtain rfl := hw2.symm; clear hw2))
      by_cases hf2 : f2 = 0
      · subst hf2
        go_upto_region 9 with (go_at_call 77; go_loud (refine (H3.out _ HG1.out.2).mono ?_; rintro e w2 ⟨rfl, hw2⟩; obtain rfl := hw2.symm; clear hw2))
        by_cases hf3 : f3 = 0
        · subst hf3
          by_cases hc2 : n - (k1 + k2 + k3) < n2
          · have q2 : ((n : Int) - ((k1 : Int) + (k2 : Int) + (k3 : Int))) < (n2 : Int) := by omega
            have HR : Hid (rdF l (strB ah) = none) := by
              show _ = _
              rw [HF.out]; simp only [ne_eq, not_true_eq_false, if_false]
              unfold rdG; rw [if_neg (by rw [HS.out]; exact hc1), if_pos (by rw [← HN.out]; exact hc2)]
            go_wp2
            have h4 := four_set (.string ⟨#[]⟩) (.int .u64 0) (.bool false) (.string ⟨#[]⟩) c0 c1 c2 c3
            refine bodyPost_ret (res_ent2 rfl _ _ w.heap.size ⟨#[]⟩ 0 false ⟨#[]⟩ (by rfl) h4.1 h4.2.1 h4.2.2.1 h4.2.2.2) rfl ?_
            exact ⟨by rw [HR.out]; rfl, four_below _ _ _ _ HG1.out.2 (Nat.le_refl _)⟩
          · have q2 : (n2 : Int) ≤ ((n : Int) - ((k1 : Int) + (k2 : Int) + (k3 : Int))) := by omega
            have hsl : ((l.drop (k1 + k2 + k3)).take n2).length = n2 := by simp; have := HN.out; omega
            have hEX : k1 + k2 + k3 + n2 - (k1 + k2 + k3) = ((l.drop (k1 + k2 + k3)).take n2).length := by rw [hsl]; omega
            have hIB : ∀ W, Below w.heap.size w W → IsB W (some ⟨b, off + (k1 + k2 + k3), none⟩) ((l.drop (k1 + k2 + k3)).take n2) := fun W hW => slice_take (isB_dr (HI.out.1.below hW) _) n2
            have hEX2 : n2 = ((l.drop (k1 + k2 + k3)).take n2).length := by rw [hsl]
            have hcA := conv_back W1.drew ⟨b, off + (k1 + k2 + k3), none⟩ (cap - (k1 + k2 + k3)) n2 _ (hIB _ HG1.out.2.drew) hEX2
            have hcB := conv_back (W1.alloc (Obj.cells #[Value.string { data := #[] }, Value.int IntKind.u64 0, Value.bool false, Value.string { data := #[] }] 30)).drew ⟨b, off + (k1 + k2 + k3), none⟩ (cap - (k1 + k2 + k3)) n2 _ (hIB _ (HG1.out.2.alloc HG1.out.2.size _).drew) hEX2
            have hcC := conv_back (W1.drew.alloc (Obj.cells #[Value.string { data := #[] }, Value.int IntKind.u64 0, Value.bool false, Value.string { data := #[] }] 30)) ⟨b, off + (k1 + k2 + k3), none⟩ (cap - (k1 + k2 + k3)) n2 _ (hIB _ (HG1.out.2.drew.alloc HG1.out.2.drew.size _)) hEX2
            clear hEX2
            have HKS : Hid (((l.drop (k1 + k2 + k3)).take n2).length = n2) := hsl
            clear hIB hsl hEX
            obtain ⟨kx, hkx⟩ : ∃ kx, ofB ((l.drop (k1 + k2 + k3)).take n2) = kx := ⟨_, rfl⟩
            rw [hkx] at hcA hcB hcC
            have hkz : kx.size = n2 := by rw [← hkx, ofB_sz]; exact HKS.out
            have hez : (ah.extract 0 n1).size = n1 := by simp; omega
            have had : ∀ W, (Op.stringOp .add (ah.extract 0 n1) kx).run Tryd.prog W = .ok (.string (ah.extract 0 n1 ++ kx)) W := fun W => run_string_add_sum W _ _ (by omega)
            have HKX : Hid (ofB ((strB ah).take n1 ++ (l.drop (k1 + k2 + k3)).take n2) = ah.extract 0 n1 ++ kx) := by
              show _ = _
              rw [← hkx, key_join ah n1 _ (fun x hx => HI.out.1.2 x (List.mem_of_mem_drop (List.mem_of_mem_take hx))) (by omega)]
            have hs9 : (ah.extract 0 n1).size + kx.size ≤ 9223372036854775807 := by omega
            have hs8 : ¬ 9223372036854775807 < (ah.extract 0 n1).size + kx.size := by omega
            have HT : Hid (∀ W, Below w.heap.size w W → Calls Tryd.prog 78 #[.slice (some ⟨b, off + (k1 + k2 + k3 + n2), none⟩) (n - (k1 + k2 + k3 + n2)) (cap - (k1 + k2 + k3 + n2)), .int .i64 512] W fun e w' => e = .returned (txt (l.drop (k1 + k2 + k3 + n2)) 512) ∧ w' = W) := fun W hW => refText_any _ _ _ _ 512 W (isB_dr (HI.out.1.below hW) _) (by simp; have := HN.out; omega) (by omega) (by omega) (by simp [HN.out])
            have gA := World.alloc_heap_new W1 (Obj.cells #[Value.string (ah.extract 0 n1 ++ kx), Value.int IntKind.u64 ((n3 : Int) / 2), Value.bool ((n3 : Int) % 2 == 1), Value.string { data := #[] }] 30)
            have hbA : Below w.heap.size w (W1.alloc (Obj.cells #[Value.string (ah.extract 0 n1 ++ kx), Value.int IntKind.u64 ((n3 : Int) / 2), Value.bool ((n3 : Int) % 2 == 1), Value.string { data := #[] }] 30)).drew := (HG1.out.2.alloc HG1.out.2.size _).drew
            have gB := (((Below.refl W1.heap.size W1).alloc (Nat.le_refl _) (Obj.cells #[Value.string (ah.extract 0 n1 ++ kx), Value.int IntKind.u64 ((n3 : Int) / 2), Value.bool ((n3 : Int) % 2 == 1), Value.string { data := #[] }] 30)).drew.block _ (Array.getElem?_eq_some_iff.1 HG1.out.1).1).trans HG1.out.1
            have HGA : Hid ((W1.alloc (Obj.cells #[Value.string (ah.extract 0 n1 ++ kx), Value.int IntKind.u64 ((n3 : Int) / 2), Value.bool ((n3 : Int) % 2 == 1), Value.string { data := #[] }] 30)).drew.heap[W1.heap.size]? = some (Obj.cells #[Value.string (ah.extract 0 n1 ++ kx), Value.int IntKind.u64 ((n3 : Int) / 2), Value.bool ((n3 : Int) % 2 == 1), Value.string { data := #[] }] 30) ∧ (W1.alloc (Obj.cells #[Value.string (ah.extract 0 n1 ++ kx), Value.int IntKind.u64 ((n3 : Int) / 2), Value.bool ((n3 : Int) % 2 == 1), Value.string { data := #[] }] 30)).drew.heap[w.heap.size]? = some (.cells #[.string ⟨#[]⟩, .int .u64 0, .bool false, .string ⟨#[]⟩] 30) ∧ Below w.heap.size w (W1.alloc (Obj.cells #[Value.string (ah.extract 0 n1 ++ kx), Value.int IntKind.u64 ((n3 : Int) / 2), Value.bool ((n3 : Int) % 2 == 1), Value.string { data := #[] }] 30)).drew) := ⟨gA, gB, hbA⟩
            have hne : w.heap.size < W1.heap.size := (Array.getElem?_eq_some_iff.1 HG1.out.1).1
            clear gA gB hbA
            go_wp2
            go_big_region
            all_goals
              clear hcA hcB hcC had hs9 hs8 c0 c1 c2 c3 z
              generalize (W1.alloc (Obj.cells #[Value.string (ah.extract 0 n1 ++ kx), Value.int IntKind.u64 ((n3 : Int) / 2), Value.bool ((n3 : Int) % 2 == 1), Value.string { data := #[] }] 30)).drew = W2 at *
              obtain ⟨V, hV⟩ : ∃ V, V = W1.heap.size := ⟨_, rfl⟩
              rw [← hV] at HGA hne ⊢
              have c0 : W2.cell? ⟨w.heap.size, 0, none⟩ = some (.string ⟨#[]⟩) := by rw [cell_of_obj HGA.out.2.1]; rfl
              have c1 : W2.cell? ⟨w.heap.size, 1, none⟩ = some (.int .u64 0) := by rw [cell_of_obj HGA.out.2.1]; rfl
              have c2 : W2.cell? ⟨w.heap.size, 2, none⟩ = some (.bool false) := by rw [cell_of_obj HGA.out.2.1]; rfl
              have c3 : W2.cell? ⟨w.heap.size, 3, none⟩ = some (.string ⟨#[]⟩) := by rw [cell_of_obj HGA.out.2.1]; rfl
              have z : ∀ j, W2.frozen? ⟨w.heap.size, j, none⟩ = false := fun j => froz_of_obj HGA.out.2.1
              have d0 : W2.cell? ⟨V, 0, none⟩ = some (.string (ah.extract 0 n1 ++ kx)) := by rw [cell_of_obj HGA.out.1]; rfl
              have d1 : W2.cell? ⟨V, 1, none⟩ = some (.int .u64 ((n3 : Int) / 2)) := by rw [cell_of_obj HGA.out.1]; rfl
              have d2 : W2.cell? ⟨V, 2, none⟩ = some (.bool ((n3 : Int) % 2 == 1)) := by rw [cell_of_obj HGA.out.1]; rfl
              have d3 : W2.cell? ⟨V, 3, none⟩ = some (.string ⟨#[]⟩) := by rw [cell_of_obj HGA.out.1]; rfl
              have zd : ∀ j, W2.frozen? ⟨V, j, none⟩ = false := fun j => froz_of_obj HGA.out.1
              have hne2 : ¬ V = w.heap.size := by omega
              have hne3 : ¬ w.heap.size = V := by omega
              generalize ah.extract 0 n1 ++ kx = kk at *
              clear hV hkx hkz hez
              have HG : Hid (rdF l (strB ah) = rdG l (strB ah) n1 n2 n3 (k1 + k2 + k3)) := by
                show _ = _
                rw [HF.out]; simp only [ne_eq, not_true_eq_false, if_false]
              by_cases hdl : n3 % 2 = 1
              · have hb9 : ((n3 : Int) % 2 == 1) = true := by simp; omega
                have HR : Hid (rdF l (strB ah) = some ((kk, (n3 : Int) / 2, true, ⟨#[]⟩), k1 + k2 + k3 + n2)) := by
                  show _ = _
                  rw [HG.out]; unfold rdG
                  rw [if_neg (by rw [HS.out]; exact hc1), if_neg (by rw [← HN.out]; exact hc2), if_pos hdl, HKX.out]
                  rfl
                rw [hb9] at d2
                go_wp2
                have h4 := four_set (.string kk) (.int .u64 ((n3 : Int) / 2)) (.bool true) (.string ⟨#[]⟩) c0 c1 c2 c3
                refine bodyPost_ret (res_ent2 rfl _ _ w.heap.size kk ((n3 : Int) / 2) true ⟨#[]⟩ (by rfl) h4.1 h4.2.1 h4.2.2.1 h4.2.2.2) rfl ?_
                exact ⟨by rw [HR.out]; simp [enV]; try omega, four_below _ _ _ _ HGA.out.2.2 (Nat.le_refl _)⟩
              · have hb9 : ((n3 : Int) % 2 == 1) = false := by simp; omega
                rw [hb9] at d2
                obtain ⟨⟨tx, tk, tf⟩, ht⟩ : ∃ x, text (l.drop (k1 + k2 + k3 + n2)) 512 = x := ⟨_, rfl⟩
                have hHT : txt (l.drop (k1 + k2 + k3 + n2)) 512 = .tuple #[.string (ofB tx), .int .i64 (tk : Int), .int .i64 (tf : Int)] := by unfold txt; rw [ht]
                rw [hHT] at HT
                have htk : tk ≤ n - (k1 + k2 + k3 + n2) := by have := text_le (l.drop (k1 + k2 + k3 + n2)) 512; rw [ht] at this; simp at this; have := HN.out; omega
                have u1 : k1 + k2 + k3 + n2 < cap := by omega
                have u2 : k1 + k2 + k3 + n2 ≤ n := by omega
                have u3 : ((k1 : Int) + (k2 : Int) + (k3 : Int) + (n2 : Int)) ≤ (n : Int) := by omega
                have HTX : Hid (text (l.drop (k1 + k2 + k3 + n2)) 512 = (tx, tk, tf)) := ht
                clear ht hHT
                by_cases hf4 : tf = 0
                · subst hf4
                  have HR : Hid (rdF l (strB ah) = some ((kk, (n3 : Int) / 2, false, ofB tx), k1 + k2 + k3 + n2 + tk)) := by
                    show _ = _
                    rw [HG.out]; unfold rdG
                    rw [if_neg (by rw [HS.out]; exact hc1), if_neg (by rw [← HN.out]; exact hc2), if_neg hdl, HTX.out, if_neg (by simp), HKX.out]
                    rfl
                  generalize ofB tx = tv at *
                  go_wp2_with (go_at_call 78; go_loud (refine (HT.out _ HGA.out.2.2).mono ?_; rintro e w2 ⟨rfl, hw2⟩; obtain rfl := hw2.symm; clear hw2))
                  have ne : ∀ i, (⟨V, 3, none⟩ : Addr) ≠ ⟨w.heap.size, i, none⟩ := fun i e => hne2 (congrArg Addr.block e)
                  have h4 := four_set (w := W2.setCell ⟨V, 3, none⟩ (.string tv)) (B := w.heap.size) (.string kk) (.int .u64 ((n3 : Int) / 2)) (.bool false) (.string tv) ((World.cell?_setCell_other _ _ _ _ (ne 0)).trans c0) ((World.cell?_setCell_other _ _ _ _ (ne 1)).trans c1) ((World.cell?_setCell_other _ _ _ _ (ne 2)).trans c2) ((World.cell?_setCell_other _ _ _ _ (ne 3)).trans c3)
                  refine bodyPost_ret (res_ent2 rfl _ _ w.heap.size kk ((n3 : Int) / 2) false tv (by rfl) h4.1 h4.2.1 h4.2.2.1 h4.2.2.2) rfl ?_
                  exact ⟨by rw [HR.out]; simp [enV]; try omega, four_below _ _ _ _ (HGA.out.2.2.setCell (p := ⟨V, 3, none⟩) (Nat.le_of_lt hne) _) (Nat.le_refl _)⟩
                · have q3 : (tf : Int) ≠ 0 := by omega
                  have HR : Hid (rdF l (strB ah) = none) := by
                    show _ = _
                    rw [HG.out]; unfold rdG
                    rw [if_neg (by rw [HS.out]; exact hc1), if_neg (by rw [← HN.out]; exact hc2), if_neg hdl, HTX.out, if_pos (by simpa using hf4)]
                  go_wp2_with (go_at_call 78; go_loud (refine (HT.out _ HGA.out.2.2).mono ?_; rintro e w2 ⟨rfl, hw2⟩; obtain rfl := hw2.symm; clear hw2))
                  have h4 := four_set (.string ⟨#[]⟩) (.int .u64 0) (.bool false) (.string ⟨#[]⟩) c0 c1 c2 c3
                  refine bodyPost_ret (res_ent2 rfl _ _ w.heap.size ⟨#[]⟩ 0 false ⟨#[]⟩ (by rfl) h4.1 h4.2.1 h4.2.2.1 h4.2.2.2) rfl ?_
                  exact ⟨by rw [HR.out]; rfl, four_below _ _ _ _ HGA.out.2.2 (Nat.le_refl _)⟩
        · have q3 : (f3 : Int) ≠ 0 := by omega
          have HR : Hid (rdF l (strB ah) = none) := by
            show _ = _
            rw [HF.out]; simp [hf3]
          go_wp2
          have h4 := four_set (.string ⟨#[]⟩) (.int .u64 0) (.bool false) (.string ⟨#[]⟩) c0 c1 c2 c3
          refine bodyPost_ret (res_ent2 rfl _ _ w.heap.size ⟨#[]⟩ 0 false ⟨#[]⟩ (by rfl) h4.1 h4.2.1 h4.2.2.1 h4.2.2.2) rfl ?_
          exact ⟨by rw [HR.out]; rfl, four_below _ _ _ _ HG1.out.2 (Nat.le_refl _)⟩
      · have q3 : (f2 : Int) ≠ 0 := by omega
        have HR : Hid (rdF l (strB ah) = none) := by
          show _ = _
          rw [HF.out]; simp [hf2]
        go_wp2
        have h4 := four_set (.string ⟨#[]⟩) (.int .u64 0) (.bool false) (.string ⟨#[]⟩) c0 c1 c2 c3
        refine bodyPost_ret (res_ent2 rfl _ _ w.heap.size ⟨#[]⟩ 0 false ⟨#[]⟩ (by rfl) h4.1 h4.2.1 h4.2.2.1 h4.2.2.2) rfl ?_
        exact ⟨by rw [HR.out]; rfl, four_below _ _ _ _ HG1.out.2 (Nat.le_refl _)⟩
  · have q3 : (f1 : Int) ≠ 0 := by omega
    have HR : Hid (rdF l (strB ah) = none) := by
      show _ = _
      rw [HF.out]; simp [hf1]
    go_wp2
    have h4 := four_set (.string ⟨#[]⟩) (.int .u64 0) (.bool false) (.string ⟨#[]⟩) c0 c1 c2 c3
    refine bodyPost_ret (res_ent2 rfl _ _ w.heap.size ⟨#[]⟩ 0 false ⟨#[]⟩ (by rfl) h4.1 h4.2.1 h4.2.2.1 h4.2.2.2) rfl ?_
    exact ⟨by rw [HR.out]; rfl, four_below _ _ _ _ HG1.out.2 (Nat.le_refl _)⟩
end Qb
end Go.Proofs.YtkebbmdghnplmaaDoor
