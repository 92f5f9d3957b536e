import Derived.Test.YtigcbbgnbchpnaaDw1
namespace Go.Proofs.Ytigcbbgnbchpnaa
namespace DiskNews
open Go.RowKit Go.Shelf Go.Maps Go.Sort Byt Laws Dsk
set_option linter.unusedVariables false
set_option maxRecDepth 100000
set_option linter.unusedSimpArgs false
theorem okNew_all {R : Int} {fs : List Fj} (h : okNew R fs = true) : fs.all okF = true ∧ fs.length ≤ 8388608 := by
  unfold okNew at h
  simp only [Bool.and_eq_true, decide_eq_true_eq] at h
  exact ⟨h.1.1.2, h.1.1.1.2⟩
theorem file_big {R : Nat} {fs : List Fj} (h : fs.all okF = true) : (∀ f ∈ (newM R fs).files, f.data.length ≤ 2147483648) ∧ (newM R fs).files.length ≤ fs.length := by
  refine ⟨fun f hf => ?_, ?_⟩
  · obtain ⟨p, hp, rfl⟩ := List.mem_map.1 hf
    have hlt := addAll_ids fs [] 0 (by simp) p hp
    have hlt' : p.2 < fs.length := by omega
    have hfl : (flOf fs)[p.2]? = some ⟨(fs[p.2]).data, (fs[p.2]).sure.toNat⟩ := by simp [flOf, hlt']
    have hokf : okF fs[p.2] = true := (List.all_eq_true.1 h) _ (List.getElem_mem hlt')
    unfold okF at hokf
    simp only [Bool.and_eq_true, decide_eq_true_eq] at hokf
    show (dataOf (flOf fs) p.2).length ≤ _
    have e1 : dataOf (flOf fs) p.2 = (fs[p.2]).data := by simp [dataOf, hfl]
    rw [e1]
    exact hokf.1.1.2
  · show ((addAll [] 0 fs).map _).length ≤ _
    rw [List.length_map]
    have := addAll_len fs [] 0
    simpa using this
theorem image_big {R : Nat} {fs : List Fj} (h : fs.all okF = true) : (∀ f ∈ (newM R fs).image 0 [], f.data.length ≤ 2147483648) ∧ ((newM R fs).image 0 []).length ≤ fs.length := by
  rw [image_same R fs h]
  refine ⟨fun f hf => ?_, ?_⟩
  · obtain ⟨p, hp, rfl⟩ := List.mem_map.1 hf
    have := (file_big (R := R) h).1 ⟨ofK p.1, dataOf (flOf fs) p.2, sureOf (flOf fs) p.2⟩ (List.mem_map.2 ⟨p, hp, rfl⟩)
    show ((dataOf (flOf fs) p.2).take _).length ≤ _
    rw [List.length_take]
    have h2 : (dataOf (flOf fs) p.2).length ≤ 2147483648 := this
    omega
  · show ((addAll [] 0 fs).map _).length ≤ _
    rw [List.length_map]
    have := addAll_len fs [] 0
    simpa using this
set_option maxHeartbeats 8000000 in
theorem walk (w : World) (R : Int) (hR : R ≤ 9223372036854775807) (a : Option Addr) (n c : Nat) (fs : List Fj) (ds : List (Option Addr × Nat)) (h : FjAt w a fs ds) (hn : fs.length = n) (hc : n ≤ c) (hc2 : c ≤ 9223372036854775807) (hl : ∀ f ∈ fs, f.data.length ≤ 140737488355328) (hl2 : n ≤ 2932031007402) :
    Calls Try.prog 3 #[.int .i64 R, .slice a n c] w fun e w' => e = .returned (.bool true) ∧ Below w.heap.size w w' := by
  have HF : Hid (FjAt w a fs ds ∧ fs.length = n ∧ n ≤ c ∧ c ≤ 9223372036854775807 ∧ (∀ f ∈ fs, f.data.length ≤ 140737488355328) ∧ R ≤ 9223372036854775807 ∧ n ≤ 2932031007402) := ⟨h, hn, hc, hc2, hl, hR, hl2⟩
  clear h hn hc hc2 hl hl2
  go_enter Try.func3, Try.ntmps3
  go_wp2_with fail
  refine (known_any w).mono ?_
  rintro e w1 ⟨rfl, hb1⟩
  have HB1 := HIDD hb1
  have HSM : Hid _ := small_nil a n c fs ds w1 (HF.out.1.below hb1) HF.out.2.1.symm HF.out.2.2.1 HF.out.2.2.2.1 HF.out.2.2.2.2.1
  clear hb1
  go_wp2_with fail
  refine Calls.mono HSM.out ?_
  rintro e w2 ⟨⟨bs, rfl, hbs⟩, hw2⟩
  have hw3 := hw2.symm
  clear hw2 HSM
  subst hw3
  cases bs with
  | false =>
    clear hbs
    go_wp2
    go_ret
    exact ⟨rfl, HB1.out⟩
  | true =>
    clear hbs
    have HBG : Hid _ := begin_any R HF.out.2.2.2.2.2.1 a n c fs ds w1 (HF.out.1.below HB1.out) HF.out.2.1 HF.out.2.2.1 HF.out.2.2.2.1 HF.out.2.2.2.2.1 HF.out.2.2.2.2.2.2
    go_wp2_with fail
    refine Calls.mono HBG.out ?_
    rintro e w4 ⟨hb4, hans⟩
    have HB4 := HIDD (keepB hb4 HB1.out)
    clear hb4 HBG
    rcases hans with ⟨hok, rfl⟩ | ⟨hok, P, d, r, mb, T, fb, S, gb, vf, vn, vs, vc, rfl, p0, p1, hpd, hrd⟩
    · clear hok
      go_wp2
      go_ret
      exact ⟨rfl, HB4.out⟩
    · obtain ⟨hall, hlen⟩ := okNew_all hok
      have HFA : Hid (∀ W, Below w4.heap.size w4 W → Calls Try.prog 9 #[.pointer (some ⟨d, 0, none⟩)] W fun e w' => ∃ v, e = .returned v ∧ Below w4.heap.size w4 w' ∧ Calls Try.prog 10 #[.pointer (some ⟨r, 0, none⟩)] w' fun e w'' => ∃ v', e = .returned v' ∧ Below w4.heap.size w4 w'' ∧ Calls Try.prog 8 #[v, v'] w'' fun e w3 => e = .returned (.bool true) ∧ Below w4.heap.size w4 w3) := fun W hW => by
        refine (files_any (hpd.below hW)).mono ?_
        rintro e w' ⟨v, dsv, rfl, hfv, hb⟩
        have hb' := keepB hb hW
        refine ⟨v, rfl, hb', ?_⟩
        refine (rfiles_any (hrd.below hb') (by simp [newR])).mono ?_
        rintro e w'' ⟨v', dsv', rfl, hfv', hb2⟩
        have hb'' := keepB hb2 hb'
        refine ⟨v', rfl, hb'', ?_⟩
        rw [files_same] at hfv'
        have hbig := file_big (R := R.toNat) hall
        refine (sameFiles_true _ _ v v' _ dsv dsv' w'' (hfv.below hb2) hfv' (by omega) hbig.1).mono ?_
        rintro e w3 ⟨rfl, k, rfl⟩
        exact ⟨rfl, below_drewN hb'' _⟩
      have HIM : Hid (∀ W, Below w4.heap.size w4 W → Calls Try.prog 11 #[.pointer (some ⟨d, 0, none⟩), .int .i64 0, .slice none 0 0] W fun e w' => ∃ v, e = .returned v ∧ Below w4.heap.size w4 w' ∧ Calls Try.prog 12 #[.pointer (some ⟨r, 0, none⟩), .int .i64 0, .slice none 0 0] w' fun e w'' => ∃ v', e = .returned v' ∧ Below w4.heap.size w4 w'' ∧ Calls Try.prog 8 #[v, v'] w'' fun e w3 => e = .returned (.bool true) ∧ Below w4.heap.size w4 w3) := fun W hW => by
        have hnl : (newM R.toNat fs).now.length ≤ 500000000 := by
          show (addAll [] 0 fs).length ≤ _
          have := addAll_len fs [] 0
          simp at this
          omega
        refine (image_any (hpd.below hW) 0 none 0 [] (fun j x hx => by simp at hx) (by simp) (by simp) (by simp) hnl (by simp [newM])).mono ?_
        rintro e w' ⟨v, dsv, rfl, hfv, hb⟩
        have hb' := keepB hb hW
        refine ⟨v, rfl, hb', ?_⟩
        refine (rimage_none (hrd.below hb') rfl 0).mono ?_
        rintro e w'' ⟨v', dsv', rfl, hfv', hb2⟩
        have hb'' := keepB hb2 hb'
        refine ⟨v', rfl, hb'', ?_⟩
        rw [← image_same R.toNat fs hall] at hfv'
        have hbig := image_big (R := R.toNat) hall
        refine (sameFiles_true _ _ v v' _ dsv dsv' w'' (hfv.below hb2) hfv' (by omega) hbig.1).mono ?_
        rintro e w3 ⟨rfl, k, rfl⟩
        exact ⟨rfl, below_drewN hb'' _⟩
      have HDW : Hid (∀ W, Below w4.heap.size w4 W → Calls Try.prog 13 #[.pointer (some ⟨d, 0, none⟩)] W fun e w' => e = .returned (.bool false) ∧ w' = W) := fun W hW => down_any (hpd.below hW)
      have HBX : Hid (∀ W, Below w4.heap.size w4 W → W.cell? ⟨P, 0, none⟩ = some (.pointer (some ⟨d, 0, none⟩)) ∧ W.cell? ⟨P, 1, none⟩ = some (.pointer (some ⟨r, 0, none⟩))) := fun W hW => ⟨(hW.cell (p := ⟨P, 0, none⟩) (World.block_lt_of_cell? w4 _ p0)).trans p0, (hW.cell (p := ⟨P, 1, none⟩) (World.block_lt_of_cell? w4 _ p1)).trans p1⟩
      have hS1 := HBX.out w4.drew (Below.refl _ _).drew
      clear hpd hrd hok hall hlen
      go_wp2
      go_region_held3 (fun W => W.cell? ⟨P, 0, none⟩ = some (.pointer (some ⟨d, 0, none⟩)) ∧ W.cell? ⟨P, 1, none⟩ = some (.pointer (some ⟨r, 0, none⟩))) (first | assumption | exact hS1)
        (first
        | (go_at_call 9; go_loud (refine (HFA.out _ (Below.refl _ _).drew).mono ?_; rintro e w5 ⟨v5, rfl, hb5, hc5⟩; have HC5 := HIDD hc5; have hS5 := HBX.out w5 hb5; clear hb5 hc5))
        | (go_at_call 10; go_loud (refine HC5.out.mono ?_; rintro e w6 ⟨v6, rfl, hb6, hc6⟩; have HC6 := HIDD hc6; have hS6 := HBX.out w6 hb6; clear hb6 hc6))
        | (revert HC9; intro HC9; (go_at_call 8; go_loud (refine HC9.out.mono ?_; rintro e w10 ⟨rfl, hb10⟩; have HB10 := HIDD hb10; have hS10 := HBX.out w10 hb10; clear hb10)))
        | (go_at_call 8; go_loud (refine HC6.out.mono ?_; rintro e w7 ⟨rfl, hb7⟩; have HB7 := HIDD hb7; have hS7 := HBX.out w7 hb7; clear hb7))
        | (go_at_call 11; go_loud (refine (HIM.out w7 HB7.out).mono ?_; rintro e w8 ⟨v8, rfl, hb8, hc8⟩; have HC8 := HIDD hc8; have hS8 := HBX.out w8 hb8; clear hb8 hc8))
        | (go_at_call 12; go_loud (refine HC8.out.mono ?_; rintro e w9 ⟨v9, rfl, hb9, hc9⟩; have HC9 := HIDD hc9; have hS9 := HBX.out w9 hb9; clear hb9 hc9))
        | (go_at_call 13; go_loud (refine (HDW.out w10 HB10.out).mono ?_; rintro e w11 ⟨rfl, hw11⟩; have HB11 : Hid (Below w.heap.size w w11) := (by rw [hw11]; exact keepB HB10.out HB4.out); have hS11 := (by rw [hw11]; exact hS10 : w11.cell? ⟨P, 0, none⟩ = some (.pointer (some ⟨d, 0, none⟩)) ∧ w11.cell? ⟨P, 1, none⟩ = some (.pointer (some ⟨r, 0, none⟩))); clear hw11)))
      all_goals (
        go_wp2
        go_ret
        exact ⟨rfl, HB11.out⟩)
end DiskNews
end Go.Proofs.Ytigcbbgnbchpnaa
