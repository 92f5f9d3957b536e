import Derived.Test.YtecgecolghgjoaaZp
namespace Go.Proofs.Ytecgecolghgjoaa
namespace Vr
open Go.Shelf Go.RowKit Go.Lib Go.Sort Go.Maps Go.ChangeMaps Go.MapKept Laws Irw Crw
set_option linter.unusedVariables false
set_option linter.unusedSimpArgs false
set_option maxRecDepth 20000
theorem over_self {f : ByteArray} {x : Tb} : over f f x = (!ltS x.gr f && !ltS f x.le) := rfl
/-- of tables that don't overlap at most one has a key -/
theorem apart_one {l : List Tb} (hA : Apart l) (f : ByteArray) : (l.filter (over f f)).length ≤ 1 := by
  induction l with
  | nil => simp
  | cons a r ih =>
    obtain ⟨h1, h2⟩ := List.pairwise_cons.1 hA
    rw [List.filter_cons]
    split
    · rename_i ha
      have hr : r.filter (over f f) = [] := List.filter_eq_nil_iff.2 fun b hb hb2 => by
        rw [over_self] at ha hb2
        simp only [Bool.and_eq_true, Bool.not_eq_true'] at ha hb2
        have h3 := ltS_le ha.1 (h1 b hb)
        rw [hb2.2] at h3
        cases h3
      rw [hr]
      simp
    · exact ih h2
theorem cnt_take {l : List Tb} {k : Nat} {t : Tb} (p : Tb → Bool) (h : l[k]? = some t) : ((l.take (k + 1)).filter p).length = ((l.take k).filter p).length + (if p t = true then 1 else 0) := by
  rw [List.take_add_one, h, List.filter_append, List.length_append]
  cases hp : p t <;> simp [hp]
/-- what the inner loop knows -/
structure Sh (w : World) (G : Nat) (l : List Tb) (f t : ByteArray) (k : Nat) (y : Int) (o h : Nat) (wr : World) : Prop where
  bel : RowKit.Below w.heap.size w wr
  ls : Ls kTb wr (some ⟨G, 0, none⟩, l.length, l.length) l
  sum : wsum (l.take k) = y
  ov : ((l.take k).filter (over f t)).length = o
  ho : ((l.take k).filter (over f f)).length = h
set_option maxHeartbeats 8000000 in
theorem shaped_any (vb : Nat) (V : Lv) (f t : ByteArray) (w : World) (hv : VAt w vb V) (hg : Good V) :
    Calls Try.prog 16 #[.pointer (some ⟨vb, 0, none⟩), .string f, .string t] w fun e w' => e = .returned (.bool true) ∧ RowKit.Below w.heap.size w w' := by
  have HV : Hid (VAt w vb V ∧ Good V) := ⟨hv, hg⟩
  have hv5 := hv.1.1
  clear hv hg
  go_enter Try.func16, Try.ntmps16
  go_wp2_with fail
  go_loopw [7] (fun vi wr => ∃ i : Nat, i ≤ V.length ∧ vi = .int .i64 (i : Int) ∧ Hid (RowKit.Below w.heap.size w wr)) (fun vi _ => V.length - (intOf vi).toNat)
  case atStart => exact ⟨0, Nat.zero_le _, rfl, Below.refl _ _⟩
  case round =>
    obtain ⟨i, hi, rfl, HB⟩ := hrel
    rename World => wr
    have HL : Hid (Calls Try.prog 23 #[.pointer (some ⟨vb, 0, none⟩)] wr fun e w' => e = .returned (.int .i64 (V.length : Int)) ∧ w' = wr) := levels_any vb V wr (HV.out.1.below HB.out)
    by_cases hlt : i < V.length
    · have q1 : (i : Int) < (V.length : Int) := by omega
      obtain ⟨l, hl⟩ : ∃ l, V[i]? = some l := ⟨_, List.getElem?_eq_getElem hlt⟩
      have hll : l.length ≤ 3000000 := HV.out.1.1.2 l (List.mem_of_getElem? hl)
      have HT : Hid (Calls Try.prog 30 #[.pointer (some ⟨vb, 0, none⟩), .int .i64 (i : Int)] wr fun e w' => NewIs wr l e w') := by
        have := tables_any vb V (i : Int) wr (HV.out.1.below HB.out)
        rw [lev_in hl] at this
        exact this
      have HE : Hid (lev V (i : Int) = l ∧ Hull l ∧ (1 ≤ i → Apart l)) := ⟨lev_in hl, HV.out.2.hull l (List.mem_of_getElem? hl), fun h1 => HV.out.2.apart i l h1 hl⟩
      clear hl
      go_upto_region 5 with (first
        | (go_at_call 23; go_loud (refine HL.out.mono ?_; rintro e w1 ⟨rfl, hw⟩; have hw := hw.symm; subst hw))
        | (go_at_call 30; go_loud (refine HT.out.mono ?_; rintro e w2 ⟨_, rfl, ⟨G, rfl, hG, hrow⟩, hb2⟩; have HS : Hid (Sh w G l f t 0 0 0 0 w2) := ⟨HB.out.trans (hb2.mono HB.out.size), Ls.row hrow rfl, rfl, rfl, rfl⟩; clear hrow hb2 hG; simp only [svV])))
      clear HL HT HB
      go_wp2_with fail
      go_loopw [9, 10, 11, 12] (fun v9 v10 v11 v12 wr => ∃ (k : Nat) (y : Int) (o h : Nat), k ≤ l.length ∧ o ≤ k ∧ h ≤ k ∧ v9 = .int .i64 y ∧ v10 = .int .i64 (o : Int) ∧ v11 = .int .i64 (h : Int) ∧ v12 = .int .i64 (k : Int) ∧ Hid (Sh w G l f t k y o h wr)) (fun _ _ _ vk _ => l.length - (intOf vk).toNat)
      case atStart => exact ⟨0, 0, 0, 0, Nat.zero_le _, Nat.le_refl _, Nat.le_refl _, rfl, rfl, rfl, rfl, HS.out⟩
      case round =>
        clear HS
        obtain ⟨k, y, o, h, hk, hok, hhk, rfl, rfl, rfl, rfl, HX⟩ := hrel
        rename World => wq
        by_cases hlk : k < l.length
        · have q2 : (k : Int) < (l.length : Int) := by omega
          obtain ⟨b, off, e1, hb, x, hx, y0, y1, y2, y3, y4, y5⟩ := HX.out.ls.tb hlk
          cases e1
          rw [Nat.zero_add] at y0 y1 y2 y3 y4 y5
          have HXk : Hid (l[k]? = some x) := hx
          have hhull : ltS x.gr x.le = false := HE.out.2.1 x (List.mem_of_getElem? hx)
          have hh2 : Op.bytesLess x.gr.toList x.le.toList = false := by rw [lt_ltS]; exact hhull
          have l1 := geqS
          have l2 := leqS
          have l3 := lssS
          have HSUM : Hid (wsum (l.take (k + 1)) = wrap64 (y + x.we)) := by rw [← HX.out.sum]; exact wsum_take hx
          clear hx
          go_upto_region 10 with fail
          go_cut [67] (fun s67 w' => s67 = .bool false ∧ ∃ q, w' = wq.drewN q)
          case first =>
            by_cases hi0 : i = 0
            · have hi1 : decide ((0 : Int) < (i : Int)) = false := by simp; omega
              have hi4 : ¬ 0 < i := by omega
              have hi5 : decide (0 < i) = false := by simp; omega
              clear hi0
              go_quiet (fail)
              go_wp2_with fail
              go_meet
              case rel => exact ⟨by simp [hhull], _, rfl⟩
            · have hi1 : (0 : Int) < (i : Int) := by omega
              have hi3 : decide ((0 : Int) < (i : Int)) = true := decide_eq_true hi1
              have hi6 : 0 < i := by omega
              have hi7 : decide (0 < i) = true := decide_eq_true hi6
              by_cases hk0 : k = 0
              · have hk1 : decide ((0 : Int) < (k : Int)) = false := by simp; omega
                have hk4 : ¬ 0 < k := by omega
                have hk5 : decide (0 < k) = false := by simp; omega
                clear hk0
                go_quiet (fail)
                go_wp2_with fail
                go_meet
                case rel => exact ⟨by simp [hhull], _, rfl⟩
              · have hk1 : (0 : Int) < (k : Int) := by omega
                have hk3 : decide ((0 : Int) < (k : Int)) = true := decide_eq_true hk1
                have hk6 : 0 < k := by omega
                have hk7 : decide (0 < k) = true := decide_eq_true hk6
                obtain ⟨b, off, e1, _, x', hx', _, _, _, _, _, z5⟩ := HX.out.ls.tb (i := k - 1) (by omega)
                cases e1
                rw [Nat.zero_add] at z5
                have hap : ltS x'.gr x.le = true := by
                  obtain ⟨r1, r2⟩ := List.getElem?_eq_some_iff.1 hx'
                  obtain ⟨s1, s2⟩ := List.getElem?_eq_some_iff.1 HXk.out
                  have := List.pairwise_iff_getElem.1 (HE.out.2.2 (by omega)) (k - 1) k r1 s1 (by omega)
                  rw [r2, s2] at this
                  exact this
                have hp2 : Op.bytesLess x.le.toList x'.gr.toList = false := by rw [lt_ltS]; exact ltS_asymm hap
                have hp3 : (x.le.toList == x'.gr.toList) = false := by rw [eq_ltS, hap]; simp
                clear hx'
                go_quiet (fail)
                go_wp2_with fail
                go_meet
                case rel => exact ⟨by simp [hhull, hap], _, rfl⟩
          case rest =>
            obtain ⟨rfl, q, hq⟩ := hcut
            rename World => w7
            have HX7 : Hid (RowKit.Below w.heap.size w w7 ∧ Ls kTb w7 (some ⟨G, 0, none⟩, l.length, l.length) l) := by
              rw [hq]
              exact ⟨bl_dn HX.out.bel q, HX.out.ls.below (bl_dn (Below.refl _ _) q)⟩
            have z4 : w7.cell? ⟨G, k * 6 + 4, none⟩ = some (.string x.le) := by rw [hq]; exact y4
            have z5 : w7.cell? ⟨G, k * 6 + 5, none⟩ = some (.string x.gr) := by rw [hq]; exact y5
            have CO : Hid (∀ b1 b2 b3 : Bool, ltS x.gr f = b1 → ltS t x.le = b2 → ltS f x.le = b3 → Sh w G l f t (k + 1) (wrap64 (y + x.we)) (o + if (!b1 && !b2) = true then 1 else 0) (h + if (!b1 && !b3) = true then 1 else 0) w7) := by
              rintro b1 b2 b3 rfl rfl rfl
              refine ⟨HX7.out.1, HX7.out.2, HSUM.out, ?_, ?_⟩
              · rw [cnt_take _ HXk.out, HX.out.ov]; rfl
              · rw [cnt_take _ HXk.out, HX.out.ho]; rfl
            clear hq y0 y1 y2 y3 y4 y5 hhull hh2
            cases c1 : ltS x.gr f with
            | true =>
              cases c2 : ltS t x.le with
              | true =>
                cases c3 : ltS f x.le with
                | true =>
                  go_wp2_with fail
                  go_roundw
                  case rel => exact ⟨k + 1, _, o, h, by omega, by omega, by omega, rfl, rfl, rfl, by go_num, CO.out true true true c1 c2 c3⟩
                  case measure => simp [intOf]; omega
                | false =>
                  go_wp2_with fail
                  go_roundw
                  case rel => exact ⟨k + 1, _, o, h, by omega, by omega, by omega, rfl, rfl, rfl, by go_num, CO.out true true false c1 c2 c3⟩
                  case measure => simp [intOf]; omega
              | false =>
                cases c3 : ltS f x.le with
                | true =>
                  go_wp2_with fail
                  go_roundw
                  case rel => exact ⟨k + 1, _, o, h, by omega, by omega, by omega, rfl, rfl, rfl, by go_num, CO.out true false true c1 c2 c3⟩
                  case measure => simp [intOf]; omega
                | false =>
                  go_wp2_with fail
                  go_roundw
                  case rel => exact ⟨k + 1, _, o, h, by omega, by omega, by omega, rfl, rfl, rfl, by go_num, CO.out true false false c1 c2 c3⟩
                  case measure => simp [intOf]; omega
            | false =>
              cases c2 : ltS t x.le with
              | true =>
                cases c3 : ltS f x.le with
                | true =>
                  go_wp2_with fail
                  go_roundw
                  case rel => exact ⟨k + 1, _, o, h, by omega, by omega, by omega, rfl, rfl, rfl, by go_num, CO.out false true true c1 c2 c3⟩
                  case measure => simp [intOf]; omega
                | false =>
                  go_wp2_with fail
                  go_roundw
                  case rel => exact ⟨k + 1, _, o, h + 1, by omega, by omega, by omega, rfl, rfl, by go_num, by go_num, CO.out false true false c1 c2 c3⟩
                  case measure => simp [intOf]; omega
              | false =>
                cases c3 : ltS f x.le with
                | true =>
                  go_wp2_with fail
                  go_roundw
                  case rel => exact ⟨k + 1, _, o + 1, h, by omega, by omega, by omega, rfl, by go_num, rfl, by go_num, CO.out false false true c1 c2 c3⟩
                  case measure => simp [intOf]; omega
                | false =>
                  go_wp2_with fail
                  go_roundw
                  case rel => exact ⟨k + 1, _, o + 1, h + 1, by omega, by omega, by omega, rfl, by go_num, by go_num, by go_num, CO.out false false false c1 c2 c3⟩
                  case measure => simp [intOf]; omega
        · have q2 : ¬ (k : Int) < (l.length : Int) := by omega
          have hkl : k = l.length := by omega
          have HF : Hid (wsum l = y ∧ (l.filter (over f t)).length = o ∧ (l.filter (over f f)).length = h) := by
            have e1 := HX.out.sum
            have e2 := HX.out.ov
            have e3 := HX.out.ho
            rw [hkl, List.take_length] at e1 e2 e3
            exact ⟨e1, e2, e3⟩
          have hh1 : 1 ≤ i → h ≤ 1 := fun h1 => by rw [← HF.out.2.2]; exact apart_one (HE.out.2.2 h1) f
          have CW : Hid (∀ W, RowKit.Below w.heap.size w W → Calls Try.prog 31 #[.pointer (some ⟨vb, 0, none⟩), .int .i64 (i : Int)] W fun e w' => e = .returned (.int .i64 y) ∧ RowKit.Below w.heap.size w w') := fun W hW => by
            have := weight2_any vb V (i : Int) W (HV.out.1.below hW)
            rw [HE.out.1, HF.out.1] at this
            exact this.mono fun e w' hp => ⟨hp.1, hW.trans (hp.2.mono hW.size)⟩
          have CV : Hid (∀ W, RowKit.Below w.heap.size w W → Calls Try.prog 32 #[.pointer (some ⟨vb, 0, none⟩), .int .i64 (i : Int), .string f, .string t] W fun e w' => (∃ a c, e = .returned (.slice a o c)) ∧ RowKit.Below w.heap.size w w') := fun W hW => by
            have := overlap_any vb V (i : Int) f t W (HV.out.1.below hW)
            rw [HE.out.1] at this
            refine this.mono ?_
            rintro e w' ⟨⟨s1, s2, s3⟩, T, rfl, ho, hold⟩
            have hs := (OwnK.sk ho).1
            change s2 = _ at hs
            rw [HF.out.2.1] at hs
            subst hs
            exact ⟨⟨s1, s3, rfl⟩, hW.trans (hold.below.mono hW.size)⟩
          have CH : Hid (∀ W, RowKit.Below w.heap.size w W → Calls Try.prog 18 #[.pointer (some ⟨vb, 0, none⟩), .int .i64 (i : Int), .string f] W fun e w' => (∃ a c, e = .returned (.slice a h c)) ∧ RowKit.Below w.heap.size w w') := fun W hW => by
            have := holds_any vb V (i : Int) f W (HV.out.1.below hW)
            refine this.mono ?_
            rintro e w' ⟨⟨s1, s2, s3⟩, T, rfl, ho, hold⟩
            have hs := (OwnK.sk ho).1
            change s2 = _ at hs
            have e1 : (holdsL V (i : Int) f).length = h := by
              unfold holdsL
              rw [HE.out.1]
              split
              · rw [List.length_reverse]; exact HF.out.2.2
              · exact HF.out.2.2
            rw [e1] at hs
            subst hs
            exact ⟨⟨s1, s3, rfl⟩, hW.trans (hold.below.mono hW.size)⟩
          have HBQ : Hid (RowKit.Below w.heap.size w wq) := HX.out.bel
          clear hkl
          by_cases hi0 : i = 0
          · have hi1 : decide ((0 : Int) < (i : Int)) = false := by simp; omega
            have hi4 : ¬ 0 < i := by omega
            have hi5 : decide (0 < i) = false := by simp; omega
            clear hi0 hh1
            go_wp2_with (first
              | (go_at_call 31; go_loud (refine (CW.out _ HBQ.out).mono ?_; rintro e w8 ⟨rfl, hb8⟩; have HB8 : Hid (RowKit.Below w.heap.size w w8) := hb8; clear hb8))
              | (go_at_call 32; go_loud (refine (CV.out _ HB8.out).mono ?_; rintro e w9 ⟨⟨a9, c9, rfl⟩, hb9⟩; have HB9 : Hid (RowKit.Below w.heap.size w w9) := hb9; clear hb9))
              | (go_at_call 18; go_loud (refine (CH.out _ HB9.out).mono ?_; rintro e w10 ⟨⟨a10, c10, rfl⟩, hb10⟩; have HB10 : Hid (RowKit.Below w.heap.size w w10) := hb10; clear hb10)))
            go_roundw
            case rel => exact ⟨i + 1, by omega, by go_num, HB10.out⟩
            case measure => simp [intOf]; omega
          · have hi1 : (0 : Int) < (i : Int) := by omega
            have hi3 : decide ((0 : Int) < (i : Int)) = true := decide_eq_true hi1
            have hi6 : 0 < i := by omega
            have hi7 : decide (0 < i) = true := decide_eq_true hi6
            have hh2 : h ≤ 1 := hh1 (by omega)
            have hh3 : ¬ (1 : Int) < (h : Int) := by omega
            have hh4 : ¬ 1 < h := by omega
            have hh5 : decide (1 < h) = false := decide_eq_false hh4
            have hh6 : decide ((1 : Int) < (h : Int)) = false := decide_eq_false hh3
            clear hh1
            go_wp2_with (first
              | (go_at_call 31; go_loud (refine (CW.out _ HBQ.out).mono ?_; rintro e w8 ⟨rfl, hb8⟩; have HB8 : Hid (RowKit.Below w.heap.size w w8) := hb8; clear hb8))
              | (go_at_call 32; go_loud (refine (CV.out _ HB8.out).mono ?_; rintro e w9 ⟨⟨a9, c9, rfl⟩, hb9⟩; have HB9 : Hid (RowKit.Below w.heap.size w w9) := hb9; clear hb9))
              | (go_at_call 18; go_loud (refine (CH.out _ HB9.out).mono ?_; rintro e w10 ⟨⟨a10, c10, rfl⟩, hb10⟩; have HB10 : Hid (RowKit.Below w.heap.size w w10) := hb10; clear hb10)))
            go_roundw
            case rel => exact ⟨i + 1, by omega, by go_num, HB10.out⟩
            case measure => simp [intOf]; omega
    · have q1 : ¬ (i : Int) < (V.length : Int) := by omega
      go_wp2_with (go_at_call 23; go_loud (refine HL.out.mono ?_; rintro e w1 ⟨rfl, hw⟩; have hw := hw.symm; subst hw))
      go_ret
      exact ⟨rfl, HB.out⟩
end Vr
end Go.Proofs.Ytecgecolghgjoaa
