import Derived.Test.YtanpbknjnpmmnaaMtc
import Derived.Test.YtanpbknjnpmmnaaMl3
import Derived.Deep.DeepCutAuto
import Derived.Deep.RegionLaw
namespace Go.Proofs.Ytanpbknjnpmmnaa
namespace Mnf
open Go.RowKit CMath Byt Cod Crw Irw Laws
set_option linter.unusedVariables false
set_option linter.unusedSimpArgs false
set_option maxRecDepth 20000
theorem infoD : (Try.prog.info? 24).map (fun i => (i.zero, i.size, i.bytes)) = some (some kD.zero, 1, 24) := by kernel_rfl
theorem gz_of {w : World} {a : Option Addr} {rs : List (List Nat)} (h : IsD w a rs) : Rqc.GZ w a rs := by
  obtain ⟨vs, h1, h2, h3⟩ := h
  exact ⟨vs, h1, h2, fun i v r hv hr => ⟨(h3 i v r hv hr).1, (h3 i v r hv hr).2.1, (h3 i v r hv hr).2.2.1⟩⟩
theorem gets_len : ∀ (rs : List (List Nat)) (b : Ed) (es : List Ed), gets rs b = some es → es.length ≤ rs.length := by
  intro rs
  induction rs with
  | nil => intro b es h; simp [gets] at h; subst h; simp
  | cons l ls ih =>
    intro b es h
    rw [gets_cons] at h
    cases hr : rdRec l with
    | none => rw [hr] at h; cases h
    | some x =>
      rw [hr] at h
      simp only at h
      split at h
      · split at h
        · cases hg : gets ls noE with
          | none => rw [hg] at h; cases h
          | some es' =>
            rw [hg] at h
            simp only [Option.map_some, Option.some.injEq] at h
            subst h
            have := ih _ _ hg
            simp
            omega
        · have := ih _ _ h
          simp
          omega
      · cases h
theorem rec_tabs {l : List Nat} {last : Bool} {r : Ed} (h : rdRec l = some (last, r)) : r.out.length ≤ 256 ∧ r.inn.length ≤ 256 ∧ r.ptr.length ≤ 5 := by
  rw [rdRec_A] at h
  cases ha : recA l with
  | none => rw [ha] at h; cases h
  | some y =>
    obtain ⟨l', e'⟩ := y
    rw [ha, Option.bind_some] at h
    split at h
    · cases h; exact recA_le ha
    · cases h
theorem gets_small : ∀ (rs : List (List Nat)) (b : Ed) (es : List Ed), gets rs b = some es → b.out.length + 256 * rs.length ≤ 1000000000000 → b.inn.length + 256 * rs.length ≤ 1000000000000 → ∀ e ∈ es, LenB e := by
  intro rs
  induction rs with
  | nil => intro b es h _ _; simp [gets] at h; subst h; simp
  | cons l ls ih =>
    intro b es h h1 h2
    rw [gets_cons] at h
    simp only [List.length_cons] at h1 h2
    cases hr : rdRec l with
    | none => rw [hr] at h; cases h
    | some x =>
      obtain ⟨last, r⟩ := x
      rw [hr] at h
      simp only at h
      obtain ⟨t1, t2, t3⟩ := rec_tabs hr
      have jo : (joinE b r).out.length = b.out.length + r.out.length := by simp [joinE]
      have ji : (joinE b r).inn.length = b.inn.length + r.inn.length := by simp [joinE]
      split at h
      · split at h
        · cases hg : gets ls noE with
          | none => rw [hg] at h; cases h
          | some es' =>
            rw [hg] at h
            simp only [Option.map_some, Option.some.injEq] at h
            subst h
            intro e he
            rcases List.mem_cons.1 he with rfl | he
            · exact ⟨by omega, by omega, by show r.ptr.length ≤ _; omega⟩
            · exact ih _ _ hg (by simp [noE]; omega) (by simp [noE]; omega) e he
        · exact ih _ _ h (by omega) (by omega)
      · cases h
theorem bl_all {w a b c d e f : World} (h1 : Below w.heap.size w a) (h2 : Below a.heap.size a b) (h3 : Below b.heap.size b c) (h4 : Below c.heap.size c d) (h5 : Below d.heap.size d e) (h6 : Below e.heap.size e f) : Below w.heap.size w f := by
  have k2 := h1.trans (h2.mono h1.size)
  have k3 := k2.trans (h3.mono k2.size)
  have k4 := k3.trans (h4.mono k3.size)
  have k5 := k4.trans (h5.mono k4.size)
  exact k5.trans (h6.mono k5.size)
def An (o : Option (List Ed)) (es : List Ed) (fr : Int) : Prop := (o = some es ∧ fr = 0) ∨ (o = none ∧ fr = 140 ∧ es = [])
theorem An.ex (o : Option (List Ed)) : ∃ es fr, An o es fr := by
  cases o with
  | none => exact ⟨[], 140, .inr ⟨rfl, rfl, rfl⟩⟩
  | some es => exact ⟨es, 0, .inl ⟨rfl, rfl⟩⟩
theorem gt_an {o : Option (List Ed)} {w w' : World} {e : Ending} {es : List Ed} {fr : Int} (h : GtIs o w e w') (ha : An o es fr) : ∃ s, e = .returned (.tuple #[svV s, .int .i64 fr]) ∧ EdsAt w' s es ∧ Below w.heap.size w w' := by
  rcases h with ⟨es', s, h1, h2, h3, h4⟩ | ⟨h1, h2, h3⟩
  · rcases ha with ⟨a1, a2⟩ | ⟨a1, _⟩
    · rw [h1] at a1
      cases a1
      subst a2
      exact ⟨s, h2, h3, h4⟩
    · rw [h1] at a1; cases a1
  · rcases ha with ⟨a1, _⟩ | ⟨_, a2, a3⟩
    · rw [h1] at a1; cases a1
    · subst a2
      subst a3
      exact ⟨nS, h2, ⟨[], rfl, rfl, fun _ => rfl, Nat.le_refl _, IsK.nil _ _, fun j v e hv => by simp at hv⟩, h3⟩
theorem an_small {l : List (List Nat)} {es : List Ed} {fr : Int} (h : An (gets l noE) es fr) (hl : l.length ≤ 400000) : (∀ e ∈ es, LenB e) ∧ es.length ≤ 1000000000000 := by
  rcases h with ⟨h1, _⟩ | ⟨_, _, h3⟩
  · exact ⟨gets_small l noE es h1 (by simp [noE]; omega) (by simp [noE]; omega), by have := gets_len l noE es h1; omega⟩
  · subst h3
    simp
theorem bulk_le (x : List Nat) : x.length ≤ bulkD x := by unfold bulkD; omega
theorem cnt_le (l : List (List Nat)) : l.length ≤ (l.map bulkD).sum := by
  induction l with
  | nil => simp
  | cons y l ih =>
    simp only [List.map_cons, List.sum_cons, List.length_cons]
    have : 1 ≤ bulkD y := by unfold bulkD; omega
    omega
theorem sum_le {l : List (List Nat)} {x : List Nat} (h : x ∈ l) : bulkD x ≤ (l.map bulkD).sum := by
  induction l with
  | nil => cases h
  | cons y l ih =>
    simp only [List.map_cons, List.sum_cons]
    rcases List.mem_cons.1 h with rfl | h
    · omega
    · have := ih h
      omega
set_option maxHeartbeats 4000000 in
theorem gets_walk (a : Option Addr) (c n : Nat) (l : List (List Nat)) (w : World) (h : IsD w a l) (hn : l.length = n) (hmx : (n : Int) ≤ 9223372036854775807) :
    Calls Try.prog 3 #[.slice a n c] w fun e w' => e = .returned (.bool true) ∧ Below w.heap.size w w' := by
  obtain ⟨i8, hi, hz0, hz1, hz2⟩ := info_parts info8
  obtain ⟨dz, hdz, dz0, dz1, dz2⟩ := info_parts infoD
  have HD := hid9 h
  have HN := hid9 hn
  clear h hn
  go_enter Try.func3, Try.ntmps3
  go_wp2_with fail
  refine (fewer_any w a c n l HN.out hmx HD.out).mono ?_
  rintro e W0 ⟨bb, rfl, hb0, hbk⟩
  cases bb with
  | false =>
    go_wp2_with fail
    go_ret
    exact ⟨rfl, hb0⟩
  | true =>
    have hsum := hbk rfl
    have HSM := hid9 (show ∀ x ∈ l, x.length ≤ 400000 from fun x hx => Nat.le_trans (bulk_le x) (Nat.le_trans (sum_le hx) hsum))
    have hn4 : n ≤ 400000 := by rw [← HN.out]; exact Nat.le_trans (cnt_le l) hsum
    have HD0 := hid9 (HD.out.below hb0)
    have HB0 := hid9 hb0
    clear hbk hsum HD hb0
    go_wp2_with fail
    go_loopw [3, 4] (fun v i wr => ∃ (k : Nat) (aa : Option Addr) (cc : Nat) (T : Nat → Nat), k ≤ n ∧ i = .int .i64 (k : Int) ∧ v = .slice aa k cc ∧ Hid (Kl W0 T wr (.slice aa k cc) (l.take k))) (fun _ i _ => n - (intOf i).toNat)
    case atStart => exact ⟨0, none, 0, _, by omega, rfl, rfl, Kl.start W0⟩
    case round =>
      obtain ⟨k, aa, cc, T, hk, rfl, rfl, HK⟩ := hrel
      by_cases hlt : k < n
      · have q1 : (k : Int) < (n : Int) := by omega
        obtain ⟨rb, roff, ra, rc, r, hsrc, hx, hbl, c0, hi1, hn1, hl1, hm1⟩ := (HD0.out.below HK.out.old.below).at_ (k := k) (by rw [HN.out]; exact hlt)
        subst hsrc
        have hr4 : r.length ≤ 400000 := HSM.out r (List.mem_of_getElem? hx)
        obtain ⟨vs, hv1, hv2, hv3⟩ := HK.out.own
        have hvk : vs.length = k := by rw [hv2, List.length_take]; have := HN.out; omega
        have HKV := hid9 (And.intro HK.out.old (And.intro hv1 (And.intro hv2 (And.intro hv3 hvk))))
        have HI1 := hid9 (And.intro hi1 (And.intro hn1 hx))
        clear hv1 hv2 hv3 hi1 hn1 hx hl1 hvk
        obtain ⟨m, hm⟩ : ∃ m, m = r.length := ⟨_, rfl⟩
        have HM := hid9 hm
        rw [← hm] at c0 hr4
        clear hm
        go_wp2_with (first
          | (at_builtin; go_loud (refine wpList_appB (by rfl) (.const (.slice none 0 0)) (.tmp 30) 24 (by rfl) wr.heap.size 5 i8 Try.underlying24 hi hz0 hz1 hz2 _ [] 0 (by rfl) (World.ownsRow_nil _ _ _ _) ra m rc r (by rfl) HM.out HI1.out.2.1 HI1.out.1 (by omega) (Nat.le_refl _) ?_; intro v9 w9 hown9 hgr9 _; obtain ⟨a9, c9, rfl, hn9⟩ := New.of (l := r) hown9 HI1.out.1.2; have HG9 : Hid (wr.grownBy w9 none) := hgr9; have hb9 := below_of (Below.refl wr.heap.size wr) HG9.out (Nat.le_refl _) (fun j hj => by cases hj); have H9 := hid9 (And.intro hn9 hb9); clear hown9 hgr9 hn9 hb9 HG9; rw [← HM.out]))
          | (at_builtin; go_loud (refine wpList_appK kD _ (by rfl) (.tmp 26) (.tmp 32) 22 (by rfl) dz Try.underlying22 hdz dz0 dz1 dz2 1 T (.slice aa k cc) vs (by rfl) ((HKV.out.2.1.below H9.out.2).below ((Below.refl _ _).alloc (Nat.le_refl _) _)) (some ⟨w9.heap.size, 0, none⟩) 1 1 [(a9, m, c9)] (by rfl) rfl (by simp) (isK_new kD w9 (a9, m, c9) 24) (by have := HKV.out.2.2.2.2; simp; omega) ?_; intro a2 c2 T2 w2 ho2 hg2; have H2 : Hid (Kl W0 T2 w2 (.slice a2 (k + 1) c2) (l.take (k + 1))) := (by have z := Kl.more (v := .slice aa k cc) HKV.out.1 HKV.out.2.2.1 HKV.out.2.2.2.1 H9.out.1 H9.out.2 ((Below.refl _ _).alloc (Nat.le_refl _) _) hg2 (by rw [← HM.out]; exact ho2); rw [List.take_add_one, HI1.out.2.2]; rw [List.length_singleton, HKV.out.2.2.2.2] at z; exact z); clear ho2 hg2; rw [List.length_singleton, HKV.out.2.2.2.2])))
        go_roundw
        case rel => exact ⟨k + 1, a2, c2, T2, by omega, by go_num, rfl, H2⟩
        case measure => simp [intOf]; omega
      · obtain rfl : k = n := by omega
        have HK1 := hid9 (show IsD wr aa l ∧ Below W0.heap.size W0 wr by
          have z := HK.out
          rw [List.take_of_length_le (by rw [HN.out]; omega)] at z
          exact ⟨(Kl.isD (s := (aa, k, cc)) z).1, z.old.below⟩)
        clear HK hlt hk
        rename World => w1
        go_wp2_with fail
        refine (Rqc.chunks_any w1 a c k l HN.out.symm (gz_of (HD0.out.below HK1.out.2)) (by omega) HSM.out).mono ?_
        rintro e w2 ⟨bf, d2, vs2, fs, rfl, hro, hb2, hlo⟩
        have HRO := hid9 (And.intro hro (And.intro hb2 hlo))
        have HKD := hid9 (HK1.out.1.below hb2)
        have HTN := hid9 (Tn.of hro hb2 hlo HD0.out.byte HSM.out)
        have HBW := hid9 (HB0.out.trans (HK1.out.2.mono HB0.out.size))
        clear hro hb2 hlo
        obtain ⟨es, fr, han⟩ := An.ex (gets l noE)
        have HAN := hid9 han
        have HSL := hid9 (an_small han (by rw [HN.out]; exact hn4))
        clear han
        go_wp2_with fail
        refine (rget_any aa k cc l w2 HKD.out HN.out (by omega)).mono ?_
        rintro e w3 hg3
        obtain ⟨⟨sa, sn, sc⟩, rfl, he3, hb3⟩ := gt_an hg3 HAN.out
        unfold svV
        dsimp only
        have hsn : sn = es.length := by obtain ⟨_, _, z, _⟩ := he3; exact z
        have HE3 := hid9 (And.intro he3 hsn)
        have HR3 := hid9 (HRO.out.1.below hb3)
        have HT3 := hid9 (HTN.out.below hb3)
        have HK3 := hid9 (HKD.out.below hb3)
        clear hg3 he3 hb3 hsn HTN HKD HRO
        go_wp2_with fail
        go_loopw [9] (fun i wr => ∃ j : Nat, j ≤ 2 ∧ i = .int .i64 (j : Int) ∧ Hid (Below w3.heap.size w3 wr)) (fun i _ => 2 - (intOf i).toNat)
        case atStart => exact ⟨0, by omega, rfl, Below.refl _ _⟩
        case round =>
          obtain ⟨j, hj, rfl, HBJ⟩ := hrel
          by_cases hlt : j < 2
          · have q1 : (j : Int) < 2 := by omega
            go_wp2_with fail
            refine (get_any (some ⟨bf, 0, none⟩) k (k + 40) l _ (HT3.out.isD.below HBJ.out) HN.out (by omega)).mono ?_
            rintro e w5 hg5
            obtain ⟨⟨ta, tn, tc⟩, rfl, he5, hb5⟩ := gt_an hg5 HAN.out
            unfold svV
            dsimp only
            obtain rfl : sn = tn := HE3.out.2.trans (by obtain ⟨_, _, z, _⟩ := he5; exact z.symm)
            have HE5 := hid9 he5
            have HB5 := hid9 (HBJ.out.trans (hb5.mono HBJ.out.size))
            clear hg5 he5 hb5
            go_wp2_with fail
            refine (sameEdits_true w5 ta sa sn tc sc es HE5.out (HE3.out.1.below HB5.out) HSL.out.1 (by rw [HE3.out.2]; exact HSL.out.2)).mono ?_
            rintro e w6 ⟨rfl, hb6⟩
            have HB6 := hid9 (HB5.out.trans (hb6.mono HB5.out.size))
            clear hb6
            go_wp2_with fail
            exact ⟨⟨j + 1, by omega, by go_num, HB6.out⟩, by simp [intOf]; omega⟩
          · go_wp2_with fail
            refine (sameChunks_true (some ⟨bf, 0, none⟩) aa (k + 40) cc k k l _ (HT3.out.isD.below HBJ.out) (HK3.out.below HBJ.out) HN.out.symm HN.out.symm (by rw [HN.out]; omega)).mono ?_
            rintro e w5 ⟨rfl, q5, rfl⟩
            have hb5 : Below wr.heap.size wr (wr.drewN q5) := below_drewN (Below.refl _ _) _
            generalize wr.drewN q5 = w5 at *
            have HB5 := hid9 (HBJ.out.trans (hb5.mono HBJ.out.size))
            clear hb5
            go_wp2_with fail
            refine (Rqc.hold_any w5 w1.heap.size vs2 fs l (some ⟨bf, 0, none⟩) d2 (HR3.out.below HB5.out) (by rw [HN.out]; exact hn4) HSM.out).mono ?_
            rintro e w6 ⟨rfl, hb6⟩
            have HT6 := hid9 (HT3.out.below (HB5.out.trans (hb6.mono HB5.out.size)))
            clear hb6
            go_wp2_with fail
            go_loopw [12] (fun i wr => ∃ (j : Nat) (G : List (List Nat)), j ≤ k ∧ i = .int .i64 (j : Int) ∧ G.length = k ∧ Hid (Tn w1 wr bf fs G)) (fun i _ => k - (intOf i).toNat)
            case atStart => exact ⟨0, l, by omega, rfl, HN.out, HT6.out⟩
            case round =>
              clear HT6 HB5 HBJ
              obtain ⟨j, G, hj, rfl, hG, HTJ⟩ := hrel
              by_cases hlt : j < k
              · have q1 : (j : Int) < (k : Int) := by omega
                obtain ⟨b, cg, g, v, hg, hv, hvb, c0, hrow, hfz, hcg, hg4, hbf⟩ := HTJ.out.at_ (k := j) (by omega)
                by_cases h1 : 1 < g.length
                · have q2 : (1 : Int) < (g.length : Int) := by omega
                  have c1 := hrow.2 1 _ (List.getElem?_eq_getElem h1)
                  rw [Nat.zero_add] at c1
                  have hyb : g[1] < 256 := HTJ.out.byte g (List.mem_of_getElem? hg) _ (List.getElem_mem h1)
                  have HZ := hid9 (fun y hy => HTJ.out.set hg hv hvb h1 y hy)
                  have HGL := hid9 hG
                  generalize hy : g[1] = y at *
                  clear hy hrow hg hv hvb hG
                  obtain ⟨gn, hgn⟩ : ∃ gn, gn = g.length := ⟨_, rfl⟩
                  have HGN := hid9 hgn
                  rw [← hgn] at c0 q2 hcg hg4
                  clear hgn h1
                  have q3 : (1 : Int) < (cg : Int) := by omega
                  go_wp2_with fail
                  go_region
                  go_wp2_with fail
                  have hxv : bits .xor .u8 (y : Int) 2 = ((y ^^^ 2 : Nat) : Int) := u8_xor_nat y 2 hyb (by omega)
                  rw [hxv]
                  exact ⟨⟨j + 1, G.set j (g.set 1 (y ^^^ 2)), by omega, by go_num, by rw [List.length_set]; exact HGL.out, (HZ.out (y ^^^ 2) (Nat.xor_lt_two_pow (n := 8) (by omega) (by omega))).below (Below.refl _ _).drew⟩, by simp [intOf]; omega⟩
                · have q2 : ¬ (1 : Int) < (g.length : Int) := by omega
                  go_wp2_with fail
                  exact ⟨⟨j + 1, G, by omega, by go_num, hG, HTJ.out⟩, by simp [intOf]; omega⟩
              · have HTG := hid9 (And.intro HTJ.out hG)
                have q1 : ¬ (j : Int) < (k : Int) := by omega
                clear HTJ hG hj hlt
                rename World => w7
                go_wp2_with fail
                go_loopw [13, 14] (fun v i wr => ∃ (k4 : Nat) (aa : Option Addr) (cc : Nat) (T : Nat → Nat), k4 ≤ k ∧ i = .int .i64 (k4 : Int) ∧ v = .slice aa k4 cc ∧ Hid (Kl w7 T wr (.slice aa k4 cc) (G.take k4))) (fun _ i _ => k - (intOf i).toNat)
                case atStart => exact ⟨0, none, 0, _, by omega, rfl, rfl, Kl.start w7⟩
                case round =>
                  obtain ⟨k4, aa, cc, T, hk, rfl, rfl, HK⟩ := hrel
                  by_cases hlt : k4 < k
                  · have q1 : (k4 : Int) < (k : Int) := by omega
                    obtain ⟨rb, roff, ra, rc, r, hsrc, hx, hbl, c0, hi1, hn1, hl1, hm1⟩ := (HTG.out.1.isD.below HK.out.old.below).at_ (k := k4) (by rw [HTG.out.2]; exact hlt)
                    cases hsrc
                    rw [Nat.zero_add] at c0
                    have hr4 : r.length ≤ 400000 := HTG.out.1.small r (List.mem_of_getElem? hx)
                    obtain ⟨vs, hv1, hv2, hv3⟩ := HK.out.own
                    have hvk : vs.length = k4 := by rw [hv2, List.length_take]; have := HTG.out.2; omega
                    have HKV := hid9 (And.intro HK.out.old (And.intro hv1 (And.intro hv2 (And.intro hv3 hvk))))
                    have HI1 := hid9 (And.intro hi1 (And.intro hn1 hx))
                    clear hv1 hv2 hv3 hi1 hn1 hx hl1 hvk
                    obtain ⟨m, hm⟩ : ∃ m, m = r.length := ⟨_, rfl⟩
                    have HM := hid9 hm
                    rw [← hm] at c0 hr4
                    clear hm
                    go_wp2_with (first
                      | (at_builtin; go_loud (refine wpList_appB (by rfl) (.const (.slice none 0 0)) (.tmp 105) 24 (by rfl) wr.heap.size 5 i8 Try.underlying24 hi hz0 hz1 hz2 _ [] 0 (by rfl) (World.ownsRow_nil _ _ _ _) ra m rc r (by rfl) HM.out HI1.out.2.1 HI1.out.1 (by omega) (Nat.le_refl _) ?_; intro v9 w9 hown9 hgr9 _; obtain ⟨a9, c9, rfl, hn9⟩ := New.of (l := r) hown9 HI1.out.1.2; have HG9 : Hid (wr.grownBy w9 none) := hgr9; have hb9 := below_of (Below.refl wr.heap.size wr) HG9.out (Nat.le_refl _) (fun j hj => by cases hj); have H9 := hid9 (And.intro hn9 hb9); clear hown9 hgr9 hn9 hb9 HG9; rw [← HM.out]))
                      | (at_builtin; go_loud (refine wpList_appK kD _ (by rfl) (.tmp 101) (.tmp 107) 22 (by rfl) dz Try.underlying22 hdz dz0 dz1 dz2 1 T (.slice aa k4 cc) vs (by rfl) ((HKV.out.2.1.below H9.out.2).below ((Below.refl _ _).alloc (Nat.le_refl _) _)) (some ⟨w9.heap.size, 0, none⟩) 1 1 [(a9, m, c9)] (by rfl) rfl (by simp) (isK_new kD w9 (a9, m, c9) 24) (by have := HKV.out.2.2.2.2; simp; omega) ?_; intro a2 c2 T2 w2 ho2 hg2; have H2 : Hid (Kl w7 T2 w2 (.slice a2 (k4 + 1) c2) (G.take (k4 + 1))) := (by have z := Kl.more (v := .slice aa k4 cc) HKV.out.1 HKV.out.2.2.1 HKV.out.2.2.2.1 H9.out.1 H9.out.2 ((Below.refl _ _).alloc (Nat.le_refl _) _) hg2 (by rw [← HM.out]; exact ho2); rw [List.take_add_one, HI1.out.2.2]; rw [List.length_singleton, HKV.out.2.2.2.2] at z; exact z); clear ho2 hg2; rw [List.length_singleton, HKV.out.2.2.2.2])))
                    go_roundw
                    case rel => exact ⟨k4 + 1, a2, c2, T2, by omega, by go_num, rfl, H2⟩
                    case measure => simp [intOf]; omega
                  · obtain rfl : k4 = k := by omega
                    have HK1 := hid9 (show IsD wr aa G ∧ Below w7.heap.size w7 wr by
                      have z := HK.out
                      rw [List.take_of_length_le (by rw [HTG.out.2]; omega)] at z
                      exact ⟨(Kl.isD (s := (aa, k4, cc)) z).1, z.old.below⟩)
                    clear HK hlt hk
                    go_wp2_with fail
                    refine (get_any (some ⟨bf, 0, none⟩) k4 (k4 + 40) G _ (HTG.out.1.isD.below HK1.out.2) HTG.out.2 (by omega)).mono ?_
                    rintro e w8 hg8
                    obtain ⟨es2, fr2, han2⟩ := An.ex (gets G noE)
                    have HAN2 := hid9 han2
                    have HSL2 := hid9 (an_small han2 (by rw [HTG.out.2]; exact hn4))
                    obtain ⟨⟨xa, xn, xc⟩, rfl, he8, hb8⟩ := gt_an hg8 han2
                    unfold svV
                    dsimp only
                    have hxn : xn = es2.length := by obtain ⟨_, _, z, _⟩ := he8; exact z
                    have HE8 := hid9 (And.intro he8 hxn)
                    have HB8 := hid9 hb8
                    clear hg8 he8 hb8 hxn han2
                    go_wp2_with fail
                    refine (rget_any aa k4 cc G w8 (HK1.out.1.below HB8.out) HTG.out.2 (by omega)).mono ?_
                    rintro e w9 hg9
                    obtain ⟨⟨ya, yn, yc⟩, rfl, he9, hb9⟩ := gt_an hg9 HAN2.out
                    unfold svV
                    dsimp only
                    obtain rfl : xn = yn := HE8.out.2.trans (by obtain ⟨_, _, z, _⟩ := he9; exact z.symm)
                    have HE9 := hid9 he9
                    have HB9 := hid9 hb9
                    clear hg9 he9 hb9
                    go_wp2_with fail
                    refine (sameEdits_true w9 xa ya xn xc yc es2 (HE8.out.1.below HB9.out) HE9.out HSL2.out.1 (by rw [HE8.out.2]; exact HSL2.out.2)).mono ?_
                    rintro e wA ⟨rfl, hbA⟩
                    have HBA := hid9 (show Below w.heap.size w wA from bl_all HBW.out HTG.out.1.bel HK1.out.2 HB8.out HB9.out hbA)
                    clear hbA
                    go_wp2_with fail
                    go_ret
                    exact ⟨by simp, HBA.out⟩
end Mnf
end Go.Proofs.Ytanpbknjnpmmnaa
