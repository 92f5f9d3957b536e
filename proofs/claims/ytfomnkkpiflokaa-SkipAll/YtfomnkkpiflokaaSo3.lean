import Derived.Test.YtfomnkkpiflokaaSo2
import Derived.Deep.RegionHeld3
namespace Go.Proofs.Ytfomnkkpiflokaa
namespace SkipOrder
open Go.RowKit Laws Irw Erw KMath Skm Byt Sk
set_option linter.unusedVariables false
set_option maxRecDepth 100000
set_option linter.unusedSimpArgs false

theorem rd {w : World} {a : Option Addr} {l : List En} (h : IsE w a l) {k : Nat} (hk : k < l.length) : ∃ b off, a = some ⟨b, off, none⟩ ∧ b < w.heap.size ∧ w.cell? ⟨b, off + k * 4, none⟩ = some (.string (l.getD k ez).1) ∧ w.cell? ⟨b, off + k * 4 + 1, none⟩ = some (.int .u64 (l.getD k ez).2.1) ∧ w.cell? ⟨b, off + k * 4 + 2, none⟩ = some (.bool (l.getD k ez).2.2.1) ∧ w.cell? ⟨b, off + k * 4 + 3, none⟩ = some (.string (l.getD k ez).2.2.2) := by
  obtain ⟨b, off, e, hr⟩ := h.at_ (by omega)
  exact ⟨b, off, e, hr.1, hr.2 k (l.getD k ez) (by simp [hk])⟩

theorem neq4 {xk yk : ByteArray} {xs ys : Int} {xd yd : Bool} {xv yv : ByteArray} (h : ¬ (yk, ys, yd, yv) = (xk, xs, xd, xv)) : (yk.toList == xk.toList) = false ∨ (yk = xk ∧ (ys == xs) = false) ∨ (yk = xk ∧ ys = xs ∧ (yd == xd) = false) ∨ (yk = xk ∧ ys = xs ∧ yd = xd ∧ (yv.toList == xv.toList) = false) := by
  have ne : ∀ {a b : ByteArray}, ¬ a = b → (a.toList == b.toList) = false := fun h => by
    rw [beq_eq_false_iff_ne]
    exact fun e => h (toList_inj e)
  by_cases h1 : yk = xk
  · by_cases h2 : ys = xs
    · by_cases h3 : yd = xd
      · by_cases h4 : yv = xv
        · exact absurd (by rw [h1, h2, h3, h4]) h
        · exact .inr (.inr (.inr ⟨h1, h2, h3, ne h4⟩))
      · exact .inr (.inr (.inl ⟨h1, h2, by simpa using h3⟩))
    · exact .inr (.inl ⟨h1, by simpa using h2⟩)
  · exact .inl (ne h1)
set_option maxHeartbeats 4000000 in
theorem walk (w : World) (ad : Option Addr) (cd : Nat) (ds : List Nat) (hd : IsB w ad ds) (hdn : ad = none → cd = 0) (hd47 : ds.length ≤ 140737488355328) (a : Option Addr) (c : Nat) (l : List En) (hl : IsE w a l) (hlen : l.length ≤ 2932031007402) (hm : ∀ e ∈ l, e.2.1 ≤ 18446744073709551615) :
    Calls Try.prog 4 #[.slice ad ds.length cd, .slice a l.length c] w fun e w' => e = .returned (.bool true) ∧ Below w.heap.size w w' := by
  have HD : Hid (IsB w ad ds ∧ (ad = none → cd = 0)) := ⟨hd, hdn⟩
  have HL : Hid (IsE w a l) := hl
  have HM : Hid (∀ e ∈ l, e.2.1 ≤ 18446744073709551615) := hm
  obtain ⟨N, hN⟩ : ∃ N, l.length = N := ⟨_, rfl⟩
  have HN : Hid (l.length = N) := hN
  have HMD : Hid (∀ W, IsB W ad ds → IsE W a l → Calls Try.prog 17 #[.slice ad ds.length cd, .slice a N c] W fun e w' => ∃ L v, e = .returned (.tuple #[.pointer (some ⟨L, 0, none⟩), v]) ∧ MadeAns W ds l L v w') := fun W h1 h2 => by
    have := made_any W ad cd ds h1 hdn hd47 a c l h2 hlen
    rw [hN] at this
    exact this
  rw [hN] at hlen ⊢
  clear hd hdn hl hm hN
  go_enter Try.func4, Try.ntmps4
  go_wp2_with fail
  refine (known_any w).mono ?_
  rintro e w1 ⟨rfl, hb1⟩
  have HB1 : Hid (Below w.heap.size w w1) := hb1
  clear hb1
  go_wp2_with fail
  refine (HMD.out w1 (HD.out.1.below HB1.out) (HL.out.below HB1.out)).mono ?_
  rintro e w2 ⟨L, v, rfl, T, ns, ins, hmk, hmi⟩
  obtain ⟨ai, ci, rfl, hii, hci, hni⟩ := hmk.own.form
  have hlin : ns.length = ins.length := by have := hmi.perm.length_eq; rw [List.length_map] at this; exact this
  have hinN : ins.length ≤ N := by have := hmi.len; rw [HN.out] at this; exact this
  obtain ⟨NI, hNI⟩ : ∃ NI, ins.length = NI := ⟨_, rfl⟩
  rw [hNI] at hlin hinN ⊢
  have HB2 : Hid (Below w.heap.size w w2) := HB1.out.trans (hmk.old.below.mono HB1.out.size)
  have HSL : Hid (Sl 1 T w2 L ds ns) := hmk.sl
  have HMI : Hid (MadeIs ds l ns ins ∧ ns.length = NI ∧ ins.length = NI) := ⟨hmi, hlin, hNI⟩
  have HII : Hid (IsE w2 ai ins) := hii
  have hNIb : (NI : Int) ≤ 2932031007402 := by omega
  have hNb : (N : Int) ≤ 2932031007402 := by omega
  clear hmk hmi hii hci hni hlin hNI HMD
  go_wp2_with fail
  refine (from_any L ⟨#[]⟩ 18446744073709551615 w2).mono ?_
  rintro e w3 ⟨rfl, hw3⟩
  have hb3 : Below w2.heap.size w2 w3 := by rw [hw3]; exact (((Below.refl _ _).alloc (Nat.le_refl _) _).alloc (by simp) _).alloc (by simp; omega) _
  have k1 : w3.cell? ⟨w2.heap.size, 0, none⟩ = some (.pointer (some ⟨L, 0, none⟩)) := by
    rw [hw3, World.cell?_of_block (Below.heap_alloc _ _ _ (by simp <;> omega)), World.cell?_of_block (Below.heap_alloc _ _ _ (by simp <;> omega)), World.cell?_alloc_at _ _ _ _ rfl]; rfl
  have k2 : w3.cell? ⟨w2.heap.size + 1, 0, none⟩ = some (.string ⟨#[]⟩) := by
    rw [hw3, World.cell?_of_block (Below.heap_alloc _ _ _ (by simp <;> omega)), World.cell?_alloc_at _ _ _ _ (by simp)]; rfl
  have k3 : w3.cell? ⟨w2.heap.size + 2, 0, none⟩ = some (.int .u64 18446744073709551615) := by
    rw [hw3, World.cell?_alloc_at _ _ _ _ (by simp)]; rfl
  clear hw3
  obtain ⟨pre, post, hwk⟩ := Wk.of (HSL.out.below hb3) ⟨#[]⟩ 18446744073709551615
  have hpn : post = ns := post_all hwk fun nd hnd => HM.out _ (HMI.out.1.sub _ (HMI.out.1.perm.mem_iff.1 (List.mem_map.2 ⟨nd, hnd, rfl⟩)))
  have HTA : Hid _ := taken_all w2.heap.size (w2.heap.size + 1) (w2.heap.size + 2) L ⟨#[]⟩ 18446744073709551615 ns pre post w3 hwk k1 k2 k3 (by have := HMI.out.2.1; omega)
  rw [hpn] at HTA
  rw [HMI.out.2.1] at HTA
  clear hwk k1 k2 k3 hpn
  go_wp2_with fail
  refine Calls.mono HTA.out ?_
  rintro e w4 ⟨a4, c4, rfl, hi4, hn4, hb4⟩
  have HB4 : Hid (Below w.heap.size w w4) := (HB2.out.trans (hb3.mono HB2.out.size)).trans (hb4.mono (Nat.le_trans HB2.out.size hb3.size))
  obtain ⟨al, hal⟩ : ∃ al, ns.map Nd.e = al := ⟨_, rfl⟩
  rw [hal] at hi4
  have HA4 : Hid (IsE w4 a4 al) := hi4
  have HAL : Hid (al.length = NI ∧ al.Pairwise ltE ∧ ∀ x ∈ al, cnt (eqB x) ins NI = 1) := by
    refine ⟨by rw [← hal, List.length_map]; exact HMI.out.2.1, by rw [← hal]; exact List.pairwise_map.2 HSL.out.sorted, fun x hx => ?_⟩
    have := HMI.out.1.one_eq HSL.out.sorted (x := x) (by rw [hal]; exact hx)
    rw [HMI.out.2.2] at this
    exact this
  have HAT : Hid (∀ x ∈ l, cnt (atB x) ins NI = 1) := fun x hx => by
    have := HMI.out.1.one_at HSL.out.sorted hx
    rw [HMI.out.2.2] at this
    exact this
  have HI4 : Hid (IsE w4 ai ins) := (HII.out.below hb3).below hb4
  have HL4 : Hid (IsE w4 a l) := HL.out.below HB4.out
  have HLEN : Hid (Calls Try.prog 19 #[.pointer (some ⟨L, 0, none⟩)] w4 fun e w' => e = .returned (.int .i64 (NI : Int)) ∧ w' = w4) := by
    have h2 := len_any 1 T w4 L _ ns ((HSL.out.below hb3).below hb4)
    rw [HMI.out.2.1] at h2
    exact h2
  have HSO : Hid (ns.Pairwise (fun a b => ltE a.e b.e)) := HSL.out.sorted
  clear hi4 hn4 hb4 hb3 HTA HII HSL HB2 HB1
  go_wp2_with (go_at_call 19; refine HLEN.out.mono ?_; rintro e w9 ⟨rfl, hw9⟩; have hw8 := hw9.symm; clear hw9; subst hw8)
  go_loopw [9] (fun i wr => ∃ k : Nat, k ≤ NI ∧ i = .int .i64 (k : Int) ∧ Hid (Below w4.heap.size w4 wr)) (fun i _ => NI - (intOf i).toNat)
  case atStart => exact ⟨0, Nat.zero_le _, rfl, Below.refl _ _⟩
  case round =>
    obtain ⟨k, hk, rfl, HBR⟩ := hrel
    by_cases hlt : k < NI
    · have hkl : k < al.length := by rw [HAL.out.1]; exact hlt
      obtain ⟨b4, o4, rfl, hb4l, x0, x1, x2, x3⟩ := rd (HA4.out.below HBR.out) hkl
      have hxk : al.getD k ez = al[k] := by simp [hkl]
      have HXM : Hid (al.getD k ez ∈ al) := by
        show al.getD k ez ∈ al
        rw [hxk]; exact List.getElem_mem hkl
      have q1 : (k : Int) < (NI : Int) := by omega
      have HX4 : Hid (∀ W, Below w4.heap.size w4 W → W.cell? ⟨b4, o4 + k * 4, none⟩ = some (.string (al.getD k ez).1) ∧ W.cell? ⟨b4, o4 + k * 4 + 1, none⟩ = some (.int .u64 (al.getD k ez).2.1) ∧ W.cell? ⟨b4, o4 + k * 4 + 2, none⟩ = some (.bool (al.getD k ez).2.2.1) ∧ W.cell? ⟨b4, o4 + k * 4 + 3, none⟩ = some (.string (al.getD k ez).2.2.2)) := fun W hW => by
        obtain ⟨b5, o5, e5, _, h5⟩ := rd (HA4.out.below hW) hkl
        simp only [Option.some.injEq, Addr.mk.injEq] at e5
        obtain ⟨rfl, rfl, _⟩ := e5
        exact h5
      cases k with
      | zero =>
        have e00 : ((0 : Nat) : Int) = 0 := rfl
        rw [e00]
        clear e00
        simp only [Nat.zero_mul, Nat.add_zero] at HX4
        clear x0 x1 x2 x3
        generalize al.getD 0 ez = x at *
        go_wp2
        go_quiet (fail)
        have HBR2 : Hid (Below w4.heap.size w4 (wr.drewN nq)) := below_drewN HBR.out nq
        generalize wr.drewN nq = wA at *
        clear HBR
        go_wp2
        go_loopw [10, 11] (fun n j wr => ∃ m : Nat, m ≤ NI ∧ j = .int .i64 (m : Int) ∧ n = .int .i64 ((cnt (eqB x) ins m : Nat) : Int) ∧ Hid (Below w4.heap.size w4 wr)) (fun _ j _ => NI - (intOf j).toNat)
        case atStart => exact ⟨0, Nat.zero_le _, rfl, rfl, HBR2⟩
        case round =>
          clear HBR2
          obtain ⟨m, hm, rfl, rfl, HBR3⟩ := hrel
          rename World => wq
          obtain ⟨x0, x1, x2, x3⟩ := HX4.out wq HBR3.out
          by_cases hlm : m < NI
          · have hml : m < ins.length := by rw [HMI.out.2.2]; exact hlm
            obtain ⟨bi, oi, rfl, _, y0, y1, y2, y3⟩ := rd (HI4.out.below HBR3.out) hml
            have q2 : (m : Int) < (NI : Int) := by omega
            have hcl := cnt_le (eqB x) ins m
            have hst := cnt_step (p := eqB x) hml
            generalize ins.getD m ez = y at *
            obtain ⟨xk, xs, xd, xv⟩ := x
            obtain ⟨yk, ys, yd, yv⟩ := y
            dsimp only at x0 x1 x2 x3 y0 y1 y2 y3
            have hcB : ((cnt (eqB (xk, xs, xd, xv)) ins m : Nat) : Int) ≤ 2932031007402 := by omega
            have hc0 : 0 ≤ ((cnt (eqB (xk, xs, xd, xv)) ins m : Nat) : Int) := by omega
            by_cases heq : (yk, ys, yd, yv) = (xk, xs, xd, xv)
            · simp only [Prod.mk.injEq] at heq
              obtain ⟨rfl, rfl, rfl, rfl⟩ := heq
              have HST : Hid (((cnt (eqB (yk, ys, yd, yv)) ins (m + 1) : Nat) : Int) = ((cnt (eqB (yk, ys, yd, yv)) ins m : Nat) : Int) + 1) := by
                rw [if_pos (by simp [eqB])] at hst
                show ((cnt (eqB (yk, ys, yd, yv)) ins (m + 1) : Nat) : Int) = _
                omega
              clear hst hcl
              generalize ((cnt (eqB (yk, ys, yd, yv)) ins m : Nat) : Int) = cc at *
              go_wp2
              go_quiet (fail)
              go_wp2
              go_roundw
              case rel => exact ⟨m + 1, by omega, by go_num, by rw [HST.out], below_drewN HBR3.out _⟩
              case measure => simp [intOf]; omega
            · have HST : Hid (((cnt (eqB (xk, xs, xd, xv)) ins (m + 1) : Nat) : Int) = ((cnt (eqB (xk, xs, xd, xv)) ins m : Nat) : Int)) := by
                rw [if_neg (by simpa [eqB] using heq)] at hst
                show ((cnt (eqB (xk, xs, xd, xv)) ins (m + 1) : Nat) : Int) = _
                omega
              have hor : (yk.toList == xk.toList) = false ∨ (yk = xk ∧ (ys == xs) = false) ∨ (yk = xk ∧ ys = xs ∧ (yd == xd) = false) ∨ (yk = xk ∧ ys = xs ∧ yd = xd ∧ (yv.toList == xv.toList) = false) := neq4 heq
              clear hst hcl heq
              generalize ((cnt (eqB (xk, xs, xd, xv)) ins m : Nat) : Int) = cc at *
              rcases hor with h1 | ⟨rfl, h1⟩ | ⟨rfl, rfl, h1⟩ | ⟨rfl, rfl, rfl, h1⟩
              all_goals (
                go_wp2
                go_quiet (fail)
                go_wp2
                go_roundw
                case rel => exact ⟨m + 1, by omega, by go_num, by rw [HST.out], below_drewN HBR3.out _⟩
                case measure => simp [intOf]; omega)
          · obtain rfl : m = NI := by omega
            have hone : ((cnt (eqB x) ins m : Nat) : Int) = 1 := by rw [HAL.out.2.2 x HXM.out]; rfl
            rw [hone]
            clear hone
            go_wp2
            go_roundw
            case rel => exact ⟨0 + 1, by omega, by go_num, HBR3⟩
            case measure => simp [intOf]; omega
      | succ p =>
        have hpl : p < al.length := by omega
        have HLT : Hid (ahB (al.getD p ez) (al.getD (p + 1) ez) = true) := by
          show decide _ = true
          have h1 := List.pairwise_iff_getElem.1 HAL.out.2.1 p (p + 1) hpl hkl (by omega)
          have e1 : al.getD p ez = al[p] := by simp [hpl]
          rw [e1, hxk]
          simpa [ltE] using h1
        have HP4 : Hid (∀ W, Below w4.heap.size w4 W → W.cell? ⟨b4, o4 + p * 4, none⟩ = some (.string (al.getD p ez).1) ∧ W.cell? ⟨b4, o4 + p * 4 + 1, none⟩ = some (.int .u64 (al.getD p ez).2.1) ∧ W.cell? ⟨b4, o4 + p * 4 + 2, none⟩ = some (.bool (al.getD p ez).2.2.1) ∧ W.cell? ⟨b4, o4 + p * 4 + 3, none⟩ = some (.string (al.getD p ez).2.2.2)) := fun W hW => by
          obtain ⟨b5, o5, e5, _, h5⟩ := rd (HA4.out.below hW) hpl
          simp only [Option.some.injEq, Addr.mk.injEq] at e5
          obtain ⟨rfl, rfl, _⟩ := e5
          exact h5
        clear x0 x1 x2 x3 hxk
        have HAHD : Hid (∀ W, Calls Try.prog 20 #[.agg #[.string (al.getD p ez).1, .int .u64 (al.getD p ez).2.1, .bool (al.getD p ez).2.2.1, .string (al.getD p ez).2.2.2], .agg #[.string (al.getD (p + 1) ez).1, .int .u64 (al.getD (p + 1) ez).2.1, .bool (al.getD (p + 1) ez).2.2.1, .string (al.getD (p + 1) ez).2.2.2]] W fun e w' => e = .returned (.bool true) ∧ Below W.heap.size W w') := fun W => by
          have := ahead_law (al.getD p ez) (al.getD (p + 1) ez) W
          rw [HLT.out] at this
          exact this
        clear HLT
        generalize al.getD p ez = z at *
        generalize al.getD (p + 1) ez = x at *
        have HP8 : Hid (∀ w', Below wr.heap.size wr w' → w'.cell? ⟨b4, o4 + p * 4, none⟩ = some (.string z.1) ∧ w'.cell? ⟨b4, o4 + p * 4 + 1, none⟩ = some (.int .u64 z.2.1) ∧ w'.cell? ⟨b4, o4 + p * 4 + 2, none⟩ = some (.bool z.2.2.1) ∧ w'.cell? ⟨b4, o4 + p * 4 + 3, none⟩ = some (.string z.2.2.2) ∧ w'.cell? ⟨b4, o4 + (p + 1) * 4, none⟩ = some (.string x.1) ∧ w'.cell? ⟨b4, o4 + (p + 1) * 4 + 1, none⟩ = some (.int .u64 x.2.1) ∧ w'.cell? ⟨b4, o4 + (p + 1) * 4 + 2, none⟩ = some (.bool x.2.2.1) ∧ w'.cell? ⟨b4, o4 + (p + 1) * 4 + 3, none⟩ = some (.string x.2.2.2)) := fun V hV => by
          obtain ⟨u0, u1, u2, u3⟩ := HP4.out V (keepB hV HBR.out)
          obtain ⟨v0, v1, v2, v3⟩ := HX4.out V (keepB hV HBR.out)
          exact ⟨u0, u1, u2, u3, v0, v1, v2, v3⟩
        have q3 : (p : Int) + 1 ≤ 2932031007402 := by omega
        have q6 : (0 : Int) ≤ (p : Int) := by omega
        have q8 : (0 : Int) < (p : Int) + 1 := by omega
        have q9 : decide ((0 : Int) < (p : Int) + 1) = true := decide_eq_true q8
        have q10 : (0 : Int) ≤ (p : Int) + 1 := by omega
        have q11 : (p : Int) + 1 - 1 = (p : Int) := by omega
        have e11 : ((p + 1 : Nat) : Int) = (p : Int) + 1 := by omega
        rw [e11]
        clear e11
        have q12 : IntKind.i64.wrap (p : Int) = (p : Int) := IntWalk.i64_in _ (by omega)
        have q7 : IntKind.i64.wrap ((p : Int) + 1 - 1) = (p : Int) := by rw [IntWalk.i64_in _ (by omega)]; omega
        have q4 : (p : Int) < (NI : Int) := by omega
        have q5 : (p : Int) + 1 < (NI : Int) := by omega
        go_wp2
        go_region_held3 (fun w' => Below wr.heap.size wr w' ∧ w'.cell? ⟨b4, o4 + p * 4, none⟩ = some (.string z.1) ∧ w'.cell? ⟨b4, o4 + p * 4 + 1, none⟩ = some (.int .u64 z.2.1) ∧ w'.cell? ⟨b4, o4 + p * 4 + 2, none⟩ = some (.bool z.2.2.1) ∧ w'.cell? ⟨b4, o4 + p * 4 + 3, none⟩ = some (.string z.2.2.2) ∧ w'.cell? ⟨b4, o4 + (p + 1) * 4, none⟩ = some (.string x.1) ∧ w'.cell? ⟨b4, o4 + (p + 1) * 4 + 1, none⟩ = some (.int .u64 x.2.1) ∧ w'.cell? ⟨b4, o4 + (p + 1) * 4 + 2, none⟩ = some (.bool x.2.2.1) ∧ w'.cell? ⟨b4, o4 + (p + 1) * 4 + 3, none⟩ = some (.string x.2.2.2)) (first | assumption | exact ⟨(Below.refl _ _).drew, HP8.out _ ((Below.refl _ _).drew)⟩ | exact keep8 HP8.out (by assumption) (by assumption))
          (first
            | (go_at_call 20; refine (HAHD.out _).mono ?_; rintro e wA ⟨rfl, hb9⟩))
        have HBR2 : Hid (Below w4.heap.size w4 wA) := by rename_i hz; exact keepB hz.1 HBR.out
        clear HBR HP8 HP4 HAHD q7 q12 q9 q11
        go_wp2
        go_loopw [10, 11] (fun n j wr => ∃ m : Nat, m ≤ NI ∧ j = .int .i64 (m : Int) ∧ n = .int .i64 ((cnt (eqB x) ins m : Nat) : Int) ∧ Hid (Below w4.heap.size w4 wr)) (fun _ j _ => NI - (intOf j).toNat)
        case atStart => exact ⟨0, Nat.zero_le _, rfl, rfl, HBR2⟩
        case round =>
          clear HBR2
          obtain ⟨m, hm, rfl, rfl, HBR3⟩ := hrel
          rename World => wq
          obtain ⟨x0, x1, x2, x3⟩ := HX4.out wq HBR3.out
          by_cases hlm : m < NI
          · have hml : m < ins.length := by rw [HMI.out.2.2]; exact hlm
            obtain ⟨bi, oi, rfl, _, y0, y1, y2, y3⟩ := rd (HI4.out.below HBR3.out) hml
            have q2 : (m : Int) < (NI : Int) := by omega
            have hcl := cnt_le (eqB x) ins m
            have hst := cnt_step (p := eqB x) hml
            generalize ins.getD m ez = y at *
            obtain ⟨xk, xs, xd, xv⟩ := x
            obtain ⟨yk, ys, yd, yv⟩ := y
            dsimp only at x0 x1 x2 x3 y0 y1 y2 y3
            have hcB : ((cnt (eqB (xk, xs, xd, xv)) ins m : Nat) : Int) ≤ 2932031007402 := by omega
            have hc0 : 0 ≤ ((cnt (eqB (xk, xs, xd, xv)) ins m : Nat) : Int) := by omega
            by_cases heq : (yk, ys, yd, yv) = (xk, xs, xd, xv)
            · simp only [Prod.mk.injEq] at heq
              obtain ⟨rfl, rfl, rfl, rfl⟩ := heq
              have HST : Hid (((cnt (eqB (yk, ys, yd, yv)) ins (m + 1) : Nat) : Int) = ((cnt (eqB (yk, ys, yd, yv)) ins m : Nat) : Int) + 1) := by
                rw [if_pos (by simp [eqB])] at hst
                show ((cnt (eqB (yk, ys, yd, yv)) ins (m + 1) : Nat) : Int) = _
                omega
              clear hst hcl
              generalize ((cnt (eqB (yk, ys, yd, yv)) ins m : Nat) : Int) = cc at *
              go_wp2
              go_quiet (fail)
              go_wp2
              go_roundw
              case rel => exact ⟨m + 1, by omega, by go_num, by rw [HST.out], below_drewN HBR3.out _⟩
              case measure => simp [intOf]; omega
            · have HST : Hid (((cnt (eqB (xk, xs, xd, xv)) ins (m + 1) : Nat) : Int) = ((cnt (eqB (xk, xs, xd, xv)) ins m : Nat) : Int)) := by
                rw [if_neg (by simpa [eqB] using heq)] at hst
                show ((cnt (eqB (xk, xs, xd, xv)) ins (m + 1) : Nat) : Int) = _
                omega
              have hor : (yk.toList == xk.toList) = false ∨ (yk = xk ∧ (ys == xs) = false) ∨ (yk = xk ∧ ys = xs ∧ (yd == xd) = false) ∨ (yk = xk ∧ ys = xs ∧ yd = xd ∧ (yv.toList == xv.toList) = false) := neq4 heq
              clear hst hcl heq
              generalize ((cnt (eqB (xk, xs, xd, xv)) ins m : Nat) : Int) = cc at *
              rcases hor with h1 | ⟨rfl, h1⟩ | ⟨rfl, rfl, h1⟩ | ⟨rfl, rfl, rfl, h1⟩
              all_goals (
                go_wp2
                go_quiet (fail)
                go_wp2
                go_roundw
                case rel => exact ⟨m + 1, by omega, by go_num, by rw [HST.out], below_drewN HBR3.out _⟩
                case measure => simp [intOf]; omega)
          · obtain rfl : m = NI := by omega
            have hone : ((cnt (eqB x) ins m : Nat) : Int) = 1 := by rw [HAL.out.2.2 x HXM.out]; rfl
            rw [hone]
            clear hone
            go_wp2
            go_roundw
            case rel => exact ⟨p + 1 + 1, by omega, by go_num, HBR3⟩
            case measure => simp [intOf]; omega
    · obtain rfl : k = NI := by omega
      clear HAL HA4 HLEN HSO
      go_wp2
      go_loopw [12] (fun i wr => ∃ q : Nat, q ≤ N ∧ i = .int .i64 (q : Int) ∧ Hid (Below w4.heap.size w4 wr)) (fun i _ => N - (intOf i).toNat)
      case atStart => exact ⟨0, Nat.zero_le _, rfl, HBR⟩
      case round =>
        clear HBR
        obtain ⟨q, hq, rfl, HBR⟩ := hrel
        rename World => wB
        by_cases hlq : q < N
        · have hql : q < l.length := by rw [HN.out]; exact hlq
          obtain ⟨b5, o5, rfl, hb5l, _⟩ := rd (HL4.out.below HBR.out) hql
          have HONE : Hid (cnt (atB (l.getD q ez)) ins k = 1) := by
            have hx : l.getD q ez = l[q] := by simp [hql]
            show cnt (atB (l.getD q ez)) ins k = 1
            rw [hx]; exact HAT.out _ (List.getElem_mem hql)
          have HX5 : Hid (∀ W, Below w4.heap.size w4 W → W.cell? ⟨b5, o5 + q * 4, none⟩ = some (.string (l.getD q ez).1) ∧ W.cell? ⟨b5, o5 + q * 4 + 1, none⟩ = some (.int .u64 (l.getD q ez).2.1)) := fun W hW => by
            obtain ⟨b6, o6, e6, _, h6⟩ := rd (HL4.out.below hW) hql
            simp only [Option.some.injEq, Addr.mk.injEq] at e6
            obtain ⟨rfl, rfl, _⟩ := e6
            exact ⟨h6.1, h6.2.1⟩
          have q1 : (q : Int) < (N : Int) := by omega
          generalize l.getD q ez = x at *
          go_wp2
          go_loopw [13, 14] (fun n j wr => ∃ m : Nat, m ≤ k ∧ j = .int .i64 (m : Int) ∧ n = .int .i64 ((cnt (atB x) ins m : Nat) : Int) ∧ Hid (Below w4.heap.size w4 wr)) (fun _ j _ => k - (intOf j).toNat)
          case atStart => exact ⟨0, Nat.zero_le _, rfl, rfl, HBR⟩
          case round =>
            clear HBR
            obtain ⟨m, hm, rfl, rfl, HBR3⟩ := hrel
            rename World => wq
            obtain ⟨x0, x1⟩ := HX5.out wq HBR3.out
            by_cases hlm : m < k
            · have hml : m < ins.length := by rw [HMI.out.2.2]; exact hlm
              obtain ⟨bi, oi, rfl, _, y0, y1, y2, y3⟩ := rd (HI4.out.below HBR3.out) hml
              have q2 : (m : Int) < (k : Int) := by omega
              have hcl := cnt_le (atB x) ins m
              have hst := cnt_step (p := atB x) hml
              generalize ins.getD m ez = y at *
              obtain ⟨xk, xs, xd, xv⟩ := x
              obtain ⟨yk, ys, yd, yv⟩ := y
              dsimp only at x0 x1 y0 y1 y2 y3
              have hcB : ((cnt (atB (xk, xs, xd, xv)) ins m : Nat) : Int) ≤ 2932031007402 := by omega
              have hc0 : 0 ≤ ((cnt (atB (xk, xs, xd, xv)) ins m : Nat) : Int) := by omega
              clear y2 y3
              by_cases hkk : yk = xk
              · subst hkk
                have h2' : (yk.toList == yk.toList) = true := by simp
                by_cases hss : ys = xs
                · subst hss
                  have HST : Hid (((cnt (atB (yk, ys, xd, xv)) ins (m + 1) : Nat) : Int) = ((cnt (atB (yk, ys, xd, xv)) ins m : Nat) : Int) + 1) := by
                    rw [if_pos (by simp [atB])] at hst
                    show ((cnt (atB (yk, ys, xd, xv)) ins (m + 1) : Nat) : Int) = _
                    omega
                  clear hst hcl
                  generalize ((cnt (atB (yk, ys, xd, xv)) ins m : Nat) : Int) = cc at *
                  go_wp2
                  go_quiet (fail)
                  go_wp2
                  go_roundw
                  case rel => exact ⟨m + 1, by omega, by go_num, by rw [HST.out], below_drewN HBR3.out _⟩
                  case measure => simp [intOf]; omega
                · have hs2 : (ys == xs) = false := by simpa using hss
                  have HST : Hid (((cnt (atB (yk, xs, xd, xv)) ins (m + 1) : Nat) : Int) = ((cnt (atB (yk, xs, xd, xv)) ins m : Nat) : Int)) := by
                    rw [if_neg (by simpa [atB] using hss)] at hst
                    show ((cnt (atB (yk, xs, xd, xv)) ins (m + 1) : Nat) : Int) = _
                    omega
                  clear hst hcl hss
                  generalize ((cnt (atB (yk, xs, xd, xv)) ins m : Nat) : Int) = cc at *
                  go_wp2
                  go_quiet (fail)
                  go_wp2
                  go_roundw
                  case rel => exact ⟨m + 1, by omega, by go_num, by rw [HST.out], below_drewN HBR3.out _⟩
                  case measure => simp [intOf]; omega
              · have hs2 : (yk.toList == xk.toList) = false := by
                  rw [beq_eq_false_iff_ne]
                  exact fun e => hkk (toList_inj e)
                have HST : Hid (((cnt (atB (xk, xs, xd, xv)) ins (m + 1) : Nat) : Int) = ((cnt (atB (xk, xs, xd, xv)) ins m : Nat) : Int)) := by
                  rw [if_neg (by simp [atB, hkk])] at hst
                  show ((cnt (atB (xk, xs, xd, xv)) ins (m + 1) : Nat) : Int) = _
                  omega
                clear hst hcl hkk
                generalize ((cnt (atB (xk, xs, xd, xv)) ins m : Nat) : Int) = cc at *
                go_wp2
                go_quiet (fail)
                go_wp2
                go_roundw
                case rel => exact ⟨m + 1, by omega, by go_num, by rw [HST.out], below_drewN HBR3.out _⟩
                case measure => simp [intOf]; omega
            · obtain rfl : m = k := by omega
              have hone : ((cnt (atB x) ins m : Nat) : Int) = 1 := by rw [HONE.out]; rfl
              rw [hone]
              clear hone
              go_wp2
              go_roundw
              case rel => exact ⟨q + 1, by omega, by go_num, HBR3⟩
              case measure => simp [intOf]; omega
        · go_wp2
          go_ret
          exact ⟨rfl, HB4.out.trans (HBR.out.mono HB4.out.size)⟩
end SkipOrder
end Go.Proofs.Ytfomnkkpiflokaa
