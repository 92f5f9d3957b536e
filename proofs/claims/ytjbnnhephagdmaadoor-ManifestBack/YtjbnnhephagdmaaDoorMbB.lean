import Derived.Test.YtjbnnhephagdmaaDoorMbA
import Derived.Deep.RegionHeld3
import Derived.Deep.RegionWith
import Derived.Deep.Cut
import Derived.Deep.DeepCutAuto
import Derived.BigRegion
namespace Go.Proofs.YtjbnnhephagdmaaDoor
namespace Mnf
open Go.RowKit CMath Byt Cod Crw Irw Laws
set_option linter.unusedVariables false
set_option linter.unusedSimpArgs false
set_option maxRecDepth 20000
theorem hidm {p : Prop} (h : p) : Hid p := h
theorem cut_eq (s : ByteArray) : s.extract 0 (min (s.size : Int) 64).toNat = cut64 s := by
  unfold cut64
  congr 1
  omega
theorem ed_inn (e : Ed) (f : Pd → Pd) : ({ e with inn := mp f 0 e.inn } : Ed) = e := by rw [mp_zero]
theorem ed_out (e : Ed) (f : Pl → Pl) : ({ e with out := mp f 0 e.out } : Ed) = e := by rw [mp_zero]
theorem ed_ptr (e : Ed) (f : ByteArray → ByteArray) : ({ e with ptr := mp f 0 e.ptr } : Ed) = e := by rw [mp_zero]
set_option maxHeartbeats 40000000 in
theorem right_any (w : World) (a : Option Addr) (n cap : Nat) (es : List Ed) (hw : EdsAw w (a, n, cap) es) (hn : n ≤ 1000000) (hl : ∀ e ∈ es, Rng e) :
    Calls Tryd.prog 7 #[.slice a n cap] w fun e w' => ∃ T s vs, e = .returned (svV s) ∧ Rs w T w' (es.map rE) s vs := by
  have hne : n = es.length := by obtain ⟨vs, _, h2, _⟩ := hw; exact h2
  have HCP : Hid (Calls Tryd.prog 19 #[.slice a n cap] w fun e w' => ∃ T sa sc vs, e = .returned (.slice sa n sc) ∧ Rs w T w' es (sa, n, sc) vs) := by
    refine (copied_any w a n cap es hw hn (fun e he => (hl e he).1)).mono ?_
    rintro e w' ⟨T, ⟨sa, sn, sc⟩, he, hcs⟩
    obtain ⟨vs, hrs⟩ := hcs.rs
    have : sn = n := by rw [hne, ← hrs.len]; exact (OwnK.sk hrs.own).1
    subst this
    exact ⟨T, sa, sc, vs, he, hrs⟩
  have HW : Hid ((∀ e ∈ es, Rng e) ∧ n = es.length) := ⟨hl, hne⟩
  clear hw hl hne
  go_enter Tryd.func7, Tryd.ntmps7
  go_upto_region 2 with (go_at_call 19; refine HCP.out.mono ?_; rintro e w1 ⟨T, sa, sc, vs0, rfl, hrs⟩)
  have HR0 : Hid (Rs w T w1 (mp rE 0 es) (sa, n, sc) vs0) := by rw [mp_zero]; exact hrs
  clear hrs HCP
  go_wp2
  go_loopw [4] (fun i wr => ∃ (k : Nat) (vs : List Ev), k ≤ n ∧ i = .int .i64 (k : Int) ∧ Hid (Rs w T wr (mp rE k es) (sa, n, sc) vs)) (fun i _ => n - (intOf i).toNat)
  case atStart => exact ⟨0, vs0, Nat.zero_le _, rfl, HR0.out⟩
  case round =>
    clear HR0
    obtain ⟨k, vs, hk, rfl, HK⟩ := hrel
    rename World => wr
    by_cases hlt : k < n
    · have q1 : (k : Int) < (n : Int) := by omega
      have w4 : IntKind.i64.wrap ((k : Int) + 1) = (k : Int) + 1 := IntWalk.i64_in _ (by omega)
      have hkl : k < es.length := by rw [← HW.out.2]; exact hlt
      obtain ⟨ed, hed0⟩ : ∃ e, es[k]? = some e := ⟨_, List.getElem?_eq_getElem hkl⟩
      have hrng := HW.out.1 ed (List.mem_of_getElem? hed0)
      have hvk : k < vs.length := by rw [HK.out.len, mp_len]; exact hkl
      obtain ⟨v, hv0⟩ : ∃ v, vs[k]? = some v := ⟨_, List.getElem?_eq_getElem hvk⟩
      obtain ⟨v1, v2, v3, ⟨oa, ol, oc⟩, ⟨ia, il, ic⟩, ⟨pa, pl, pc⟩⟩ := v
      obtain ⟨gE, hsa, _⟩ := HK.out.cell hv0
      subst hsa
      obtain ⟨M, hM⟩ : ∃ M, mp rE k es = M := ⟨_, rfl⟩
      have HQ : Hid (es[k]? = some ed ∧ vs[k]? = some (v1, v2, v3, (oa, ol, oc), (ia, il, ic), (pa, pl, pc)) ∧ M[k]? = some ed ∧ mp rE k es = M ∧ Rng ed ∧ k < M.length) := ⟨hed0, hv0, by rw [← hM]; exact mp_get rE hed0, hM, hrng, by rw [← hM, mp_len]; exact hkl⟩
      rw [hM] at HK
      have HK0 : Hid (Rs w T wr (M.set k { ed with out := mp rPl 0 ed.out }) (some ⟨gE, 0, none⟩, n, sc) vs) := by
        rw [ed_out, set_same HQ.out.2.2.1]
        exact HK.out
      have hed := HK.out.eds k _ _ hv0 HQ.out.2.2.1
      have HOL : Hid (ol = ed.out.length ∧ il = ed.inn.length ∧ pl = ed.ptr.length) := ⟨(OwnK.sk hed.2.1).1, (OwnK.sk hed.2.2.1).1, (OwnK.sk hed.2.2.2).1⟩
      have hol2 : ol ≤ 1000000 ∧ il ≤ 1000000 ∧ pl ≤ 1000000 := by have h1 := HOL.out; have h2 := hrng.1; omega
      have HPA : Hid ((pa = none ∧ pl = 0 ∧ pc = 0) ∨ ∃ gp, pa = some ⟨gp, 0, none⟩) := by
        rcases hed.2.2.2.1.2 with ⟨h1, h2⟩ | ⟨g, cap, cur, hv2, _⟩
        · unfold svV at h1
          cases h1
          exact .inl ⟨rfl, rfl, rfl⟩
        · unfold svV at hv2
          cases hv2
          exact .inr ⟨g, rfl⟩
      have hcap : pl ≤ pc := by have h1 : ed.ptr.length ≤ pc := (OwnK.sk hed.2.2.2).2.2.1; have h2 := HOL.out.2.2; omega
      clear HK hkl hed0 hrng hvk hv0 hM hed
      go_wp2
      go_loopw [5] (fun j wr => ∃ m : Nat, m ≤ ol ∧ j = .int .i64 (m : Int) ∧ Hid (Rs w T wr (M.set k { ed with out := mp rPl m ed.out }) (some ⟨gE, 0, none⟩, n, sc) vs)) (fun j _ => ol - (intOf j).toNat)
      case atStart => exact ⟨0, Nat.zero_le _, rfl, HK0.out⟩
      case round =>
        clear HK0
        obtain ⟨m, hm, rfl, HK⟩ := hrel
        rename World => wr
        obtain ⟨_, e1, cE⟩ := HK.out.cell HQ.out.2.1
        cases e1
        have c3 : wr.cell? ⟨gE, k * 6 + 3, none⟩ = some (.slice oa ol oc) := (cE 3 _ rfl).1
        have w5 : IntKind.i64.wrap ((m : Int) + 1) = (m : Int) + 1 := IntWalk.i64_in _ (by omega)
        by_cases hml : m < ol
        · clear cE
          have q2 : (m : Int) < (ol : Int) := by omega
          have hmo : m < ed.out.length := by rw [← HOL.out.1]; exact hml
          obtain ⟨p, hp⟩ : ∃ p, ed.out[m]? = some p := ⟨_, List.getElem?_eq_getElem hmo⟩
          obtain ⟨g, hoa, hcl⟩ := own_cell (HK.out.at_ HQ.out.2.2.2.2.2 HQ.out.2.1).2.1 (mp_get rPl hp)
          subst hoa
          have c61 : wr.cell? ⟨g, m * 2, none⟩ = some (.int .i64 p.1) := (hcl 0 _ rfl).1
          have c62 : wr.frozen? ⟨g, m * 2, none⟩ = false := (hcl 0 _ rfl).2
          have hi64 := HQ.out.2.2.2.2.1.2.1 p (List.mem_of_getElem? hp)
          have HPL : Hid (∀ W, Calls Tryd.prog 9 #[.int .i64 p.1, .int .i64 5] W fun e w' => e = .returned (.int .i64 (plc p.1 5)) ∧ w' = W) := fun W => place_any p.1 5 W hi64 (by decide) (by decide)
          have HNX : Hid (Rs w T (wr.setCell ⟨g, m * 2, none⟩ (.int .i64 (plc p.1 5))) (M.set k { ed with out := mp rPl (m + 1) ed.out }) (some ⟨gE, 0, none⟩, n, sc) vs) := by
            have h := HK.out.out' (y := plc p.1 5) HQ.out.2.2.2.2.2 HQ.out.2.1 (mp_get rPl hp)
            rw [show (mp rPl m ed.out).set m (plc p.1 5, p.2) = mp rPl (m + 1) ed.out from mp_set rPl hp] at h
            exact h
          clear hp hmo hi64 hcl
          obtain ⟨p1, hp1⟩ : ∃ x, p.1 = x := ⟨_, rfl⟩
          rw [hp1] at c61 HPL HNX
          clear hp1
          go_wp2
          go_region_with (go_at_call 9; refine (HPL.out _).mono ?_; rintro e w5 ⟨rfl, hw5⟩; rw [hw5]; clear hw5)
          all_goals (go_wp2; go_roundw)
          all_goals first
            | exact ⟨m + 1, by omega, by go_num, HNX.out.below (Below.refl _ _).drew⟩
            | (simp [intOf]; omega)
        obtain rfl : m = ol := by omega
        have q2 : ¬ (m : Int) < (m : Int) := by omega
        obtain ⟨e2, he2⟩ : ∃ e2 : Ed, e2 = { ed with out := ed.out.map rPl } := ⟨_, rfl⟩
        have HE2 : Hid (e2 = { ed with out := ed.out.map rPl } ∧ e2.inn = ed.inn ∧ e2.ptr = ed.ptr) := by rw [he2]; exact ⟨rfl, rfl, rfl⟩
        have HK2 : Hid (Rs w T wr (M.set k { e2 with inn := mp rPd 0 e2.inn }) (some ⟨gE, 0, none⟩, n, sc) vs) := by
          have := HK.out
          rw [mp_all rPl (by rw [HOL.out.1]; exact Nat.le_refl _), ← he2] at this
          rw [ed_inn]
          exact this
        clear cE HK he2
        go_wp2
        go_loopw [6] (fun j wr => ∃ m : Nat, m ≤ il ∧ j = .int .i64 (m : Int) ∧ Hid (Rs w T wr (M.set k { e2 with inn := mp rPd m e2.inn }) (some ⟨gE, 0, none⟩, n, sc) vs)) (fun j _ => il - (intOf j).toNat)
        case atStart => exact ⟨0, Nat.zero_le _, rfl, HK2.out⟩
        case round =>
          as_aux_lemma =>
            clear HK2 c3
            obtain ⟨j, hj, rfl, HK⟩ := hrel
            rename World => wr
            obtain ⟨_, e1, cE⟩ := HK.out.cell HQ.out.2.1
            cases e1
            have c4 : wr.cell? ⟨gE, k * 6 + 4, none⟩ = some (.slice ia il ic) := (cE 4 _ rfl).1
            have w6 : IntKind.i64.wrap ((j : Int) + 1) = (j : Int) + 1 := IntWalk.i64_in _ (by omega)
            by_cases hjl : j < il
            · clear cE
              have q3 : (j : Int) < (il : Int) := by omega
              have hjo : j < e2.inn.length := by rw [HE2.out.2.1, ← HOL.out.2.1]; exact hjl
              obtain ⟨y, hy⟩ : ∃ p, e2.inn[j]? = some p := ⟨_, List.getElem?_eq_getElem hjo⟩
              obtain ⟨lv, no, we, by1, en, le, gr⟩ := y
              obtain ⟨g, hia, hcl⟩ := own_cell (HK.out.at_ HQ.out.2.2.2.2.2 HQ.out.2.1).2.2.1 (mp_get rPd hy)
              subst hia
              have hry := HQ.out.2.2.2.2.1.2.2.1 ⟨lv, no, we, by1, en, le, gr⟩ (by rw [← HE2.out.2.1]; exact List.mem_of_getElem? hy)
              have HPL : Hid (∀ W, Calls Tryd.prog 9 #[.int .i64 lv, .int .i64 5] W fun e w' => e = .returned (.int .i64 (plc lv 5)) ∧ w' = W) := fun W => place_any lv 5 W hry.1 (by decide) (by decide)
              have d0 : wr.cell? ⟨g, j * 7, none⟩ = some (.int .i64 lv) := (hcl 0 _ rfl).1
              have f0 : wr.frozen? ⟨g, j * 7, none⟩ = false := (hcl 0 _ rfl).2
              have HYR := hidm (And.intro hy hry)
              obtain ⟨l1, hl1⟩ : ∃ l, (mp rPd j e2.inn).set j ⟨plc lv 5, no, we, by1, en, le, gr⟩ = l := ⟨_, rfl⟩
              have HK1 : Hid (Rs w T (wr.setCell ⟨g, j * 7, none⟩ (.int .i64 (plc lv 5))) (M.set k { e2 with inn := l1 }) (some ⟨gE, 0, none⟩, n, sc) vs) := by
                rw [← hl1]
                exact HK.out.inn' (j := 0) HQ.out.2.2.2.2.2 HQ.out.2.1 (mp_get rPd hy) (by omega) rfl
              have HL1 : Hid (l1[j]? = some ⟨plc lv 5, no, we, by1, en, le, gr⟩ ∧ l1.set j (rPd ⟨lv, no, we, by1, en, le, gr⟩) = mp rPd (j + 1) e2.inn ∧ j < l1.length) := by
                rw [← hl1]
                exact ⟨List.getElem?_set_self (by rw [mp_len]; exact hjo), by rw [List.set_set]; exact mp_set rPd hy, by rw [List.length_set, mp_len]; exact hjo⟩
              clear hcl hy hry hjo hl1 HK
              obtain ⟨lv', hlv'⟩ : ∃ x, plc lv 5 = x := ⟨_, rfl⟩
              rw [hlv'] at HPL HK1 HL1
              have HLV := hidm hlv'
              have HFN : Hid (l1.set j ⟨lv', no, max we 0, max by1 0, max en 0, cut64 le, cut64 gr⟩ = mp rPd (j + 1) e2.inn) := by
                show _ = _
                rw [← HL1.out.2.1]
                unfold rPd
                dsimp only
                rw [hlv']
              clear hlv'
              go_upto_region 14 with (go_at_call 9; refine (HPL.out _).mono ?_; rintro e w5 ⟨rfl, hw5⟩; rw [hw5]; clear hw5)
              obtain ⟨W1, hW1⟩ : ∃ W, wr.setCell ⟨g, j * 7, none⟩ (.int .i64 lv') = W := ⟨_, rfl⟩
              rw [hW1] at HK1 ⊢
              clear hW1 d0 f0 HPL c4
              obtain ⟨g1, hg1, hcl⟩ := own_cell (HK1.out.at_ HQ.out.2.2.2.2.2 HQ.out.2.1).2.2.1 HL1.out.1
              cases hg1
              have d2 : W1.cell? ⟨g, j * 7 + 2, none⟩ = some (.int .i64 we) := (hcl 2 _ rfl).1
              have d3 : W1.cell? ⟨g, j * 7 + 3, none⟩ = some (.int .i64 by1) := (hcl 3 _ rfl).1
              have d4 : W1.cell? ⟨g, j * 7 + 4, none⟩ = some (.int .i64 en) := (hcl 4 _ rfl).1
              have f2 : W1.frozen? ⟨g, j * 7 + 2, none⟩ = false := (hcl 2 _ rfl).2
              have f3 : W1.frozen? ⟨g, j * 7 + 3, none⟩ = false := (hcl 3 _ rfl).2
              have f4 : W1.frozen? ⟨g, j * 7 + 4, none⟩ = false := (hcl 4 _ rfl).2
              clear hcl
              go_big_region
              have HK2 : Hid (Rs w T ((((W1.setCell ⟨g, j * 7 + 1 + 1, none⟩ (.int .i64 (max we 0))).setCell ⟨g, j * 7 + 1 + 2, none⟩ (.int .i64 (max by1 0))).setCell ⟨g, j * 7 + 1 + 3, none⟩ (.int .i64 (max en 0))).drew) (M.set k { e2 with inn := l1.set j ⟨lv', no, max we 0, max by1 0, max en 0, le, gr⟩ }) (some ⟨gE, 0, none⟩, n, sc) vs) := by
                have h1 := HK1.out.inn' (j := 2) (x := ⟨lv', no, max we 0, by1, en, le, gr⟩) (u := .int .i64 (max we 0)) HQ.out.2.2.2.2.2 HQ.out.2.1 HL1.out.1 (by omega) rfl
                have h2 := h1.inn' (j := 3) (x := ⟨lv', no, max we 0, max by1 0, en, le, gr⟩) (u := .int .i64 (max by1 0)) HQ.out.2.2.2.2.2 HQ.out.2.1 (List.getElem?_set_self HL1.out.2.2) (by omega) rfl
                rw [List.set_set] at h2
                have h3 := h2.inn' (j := 4) (x := ⟨lv', no, max we 0, max by1 0, max en 0, le, gr⟩) (u := .int .i64 (max en 0)) HQ.out.2.2.2.2.2 HQ.out.2.1 (List.getElem?_set_self HL1.out.2.2) (by omega) rfl
                rw [List.set_set] at h3
                exact h3.below (Below.refl _ _).drew
              obtain ⟨W2, hW2⟩ : ∃ W, (((W1.setCell ⟨g, j * 7 + 1 + 1, none⟩ (.int .i64 (max we 0))).setCell ⟨g, j * 7 + 1 + 2, none⟩ (.int .i64 (max by1 0))).setCell ⟨g, j * 7 + 1 + 3, none⟩ (.int .i64 (max en 0))).drew = W := ⟨_, rfl⟩
              rw [hW2] at HK2 ⊢
              clear hW2 d2 d3 d4 f2 f3 f4 HK1
              obtain ⟨g1, hg1, hcl⟩ := own_cell (HK2.out.at_ HQ.out.2.2.2.2.2 HQ.out.2.1).2.2.1 (List.getElem?_set_self HL1.out.2.2)
              cases hg1
              have d5 : W2.cell? ⟨g, j * 7 + 5, none⟩ = some (.string le) := (hcl 5 _ rfl).1
              have f5 : W2.frozen? ⟨g, j * 7 + 5, none⟩ = false := (hcl 5 _ rfl).2
              have hsz : le.size ≤ 9223372036854775807 := HYR.out.2.2.2.2.2.1
              clear hcl
              go_wp2
              have HK3 : Hid (Rs w T ((W2.setCell ⟨g, j * 7 + 1 + 4, none⟩ (.string (cut64 le))).drew) (M.set k { e2 with inn := l1.set j ⟨lv', no, max we 0, max by1 0, max en 0, cut64 le, gr⟩ }) (some ⟨gE, 0, none⟩, n, sc) vs) := by
                have h1 := HK2.out.inn' (j := 5) (x := ⟨lv', no, max we 0, max by1 0, max en 0, cut64 le, gr⟩) (u := .string (cut64 le)) HQ.out.2.2.2.2.2 HQ.out.2.1 (List.getElem?_set_self HL1.out.2.2) (by omega) rfl
                rw [List.set_set] at h1
                exact h1.below (Below.refl _ _).drew
              go_cut [6, 7] (fun v p w' => v = .int .i64 (j : Int) ∧ p = .pointer (some ⟨g, j * 7, none⟩) ∧ Hid (Rs w T w' (M.set k { e2 with inn := l1.set j ⟨lv', no, max we 0, max by1 0, max en 0, cut64 le, gr⟩ }) (some ⟨gE, 0, none⟩, n, sc) vs))
              case first =>
                go_big_region
                rw [cut_eq]
                go_wp2
                go_meet
                case rel => exact ⟨rfl, rfl, HK3.out⟩
              case rest =>
              obtain ⟨rfl, rfl, HK3'⟩ := hcut
              rename World => W3
              clear HK3 d5 f5 HK2 hsz
              have HK3 := HK3'
              clear HK3'
              obtain ⟨g1, hg1, hcl⟩ := own_cell (HK3.out.at_ HQ.out.2.2.2.2.2 HQ.out.2.1).2.2.1 (List.getElem?_set_self HL1.out.2.2)
              cases hg1
              have d6 : W3.cell? ⟨g, j * 7 + 6, none⟩ = some (.string gr) := (hcl 6 _ rfl).1
              have f6 : W3.frozen? ⟨g, j * 7 + 6, none⟩ = false := (hcl 6 _ rfl).2
              have hsg : gr.size ≤ 9223372036854775807 := HYR.out.2.2.2.2.2.2
              clear hcl
              go_wp2
              have HK4 : Hid (Rs w T ((W3.setCell ⟨g, j * 7 + 1 + 5, none⟩ (.string (cut64 gr))).drew) (M.set k { e2 with inn := mp rPd (j + 1) e2.inn }) (some ⟨gE, 0, none⟩, n, sc) vs) := by
                have h1 := HK3.out.inn' (j := 6) (x := ⟨lv', no, max we 0, max by1 0, max en 0, cut64 le, cut64 gr⟩) (u := .string (cut64 gr)) HQ.out.2.2.2.2.2 HQ.out.2.1 (List.getElem?_set_self HL1.out.2.2) (by omega) rfl
                rw [List.set_set] at h1
                rw [HFN.out] at h1
                exact h1.below (Below.refl _ _).drew
              clear HK3 HL1 HYR HLV HFN
              go_big_region
              rw [cut_eq]
              go_wp2
              go_roundw
              case rel => exact ⟨j + 1, by omega, by go_num, HK4.out⟩
              case measure => simp [intOf]; omega
            obtain rfl : j = il := by omega
            have q3 : ¬ (j : Int) < (j : Int) := by omega
            obtain ⟨e3, he3⟩ : ∃ e3 : Ed, e3 = { e2 with inn := e2.inn.map rPd } := ⟨_, rfl⟩
            have HE3 : Hid (e3 = { e2 with inn := e2.inn.map rPd } ∧ e3.ptr = ed.ptr) := by rw [he3]; exact ⟨rfl, HE2.out.2.2⟩
            have HK3 : Hid (Rs w T wr (M.set k e3) (some ⟨gE, 0, none⟩, n, sc) vs) := by
              have := HK.out
              rw [mp_all rPd (by rw [HE2.out.2.1, HOL.out.2.1]; exact Nat.le_refl _), ← he3] at this
              exact this
            have c5 : wr.cell? ⟨gE, k * 6 + 5, none⟩ = some (.slice pa pl pc) := (cE 5 _ rfl).1
            have f5 : wr.frozen? ⟨gE, k * 6 + 5, none⟩ = false := (cE 5 _ rfl).2
            clear cE HK he3
            go_upto_region 17 with fail
            clear c4
            go_cut [5] (fun v w' => v = .int .i64 (m : Int) ∧ ∃ p5 : Nat, p5 = min pl 5 ∧ Hid (Rs w T w' (M.set k { e3 with ptr := e3.ptr.take p5 }) (some ⟨gE, 0, none⟩, n, sc) (vs.set k (v1, v2, v3, (oa, m, oc), (ia, j, ic), (pa, p5, pc)))))
            case first =>
              have HC0 : Hid (∀ p5 : Nat, p5 = min pl 5 → Rs w T ((wr.setCell ⟨gE, k * 6 + 5, none⟩ (.slice pa p5 pc)).drew) (M.set k { e3 with ptr := e3.ptr.take p5 }) (some ⟨gE, 0, none⟩, n, sc) (vs.set k (v1, v2, v3, (oa, m, oc), (ia, j, ic), (pa, p5, pc)))) := fun p5 h5 => by
                have h := Rs.cutp' (e := e3) (l := e3.ptr) (m := p5) HK3.out HQ.out.2.2.2.2.2 HQ.out.2.1 (by rw [HE3.out.2]; have := HOL.out.2.2; omega)
                exact h.below (Below.refl _ _).drew
              clear HK3
              rcases HPA.out with ⟨rfl, rfl, rfl⟩ | ⟨gp, rfl⟩
              · go_big_region
                go_wp2
                go_meet
                case rel => exact ⟨rfl, 0, rfl, HC0.out 0 rfl⟩
              · go_big_region
                have e5 : (min (pl : Int) 5).toNat = min pl 5 := by omega
                rw [e5]
                go_wp2
                go_meet
                case rel => exact ⟨rfl, min pl 5, rfl, HC0.out _ rfl⟩
            case rest =>
              obtain ⟨rfl, p5, hp5, HK4⟩ := hcut
              rename World => wr
              clear c5 f5
              obtain ⟨vs', hvs'⟩ : ∃ x, vs.set k (v1, v2, v3, (oa, m, oc), (ia, j, ic), (pa, p5, pc)) = x := ⟨_, rfl⟩
              have HV : Hid (vs'[k]? = some (v1, v2, v3, (oa, m, oc), (ia, j, ic), (pa, p5, pc))) := by
                rw [← hvs']
                exact List.getElem?_set_self (List.getElem?_eq_some_iff.1 HQ.out.2.1).1
              rw [hvs'] at HK4
              obtain ⟨lt, hlt⟩ : ∃ x, e3.ptr.take p5 = x := ⟨_, rfl⟩
              have HLT : Hid (e3.ptr.take p5 = lt ∧ lt.length = p5) := ⟨hlt, by rw [← hlt, List.length_take, HE3.out.2]; have := HOL.out.2.2; omega⟩
              have HK5 : Hid (Rs w T wr (M.set k { e3 with ptr := mp cut64 0 lt }) (some ⟨gE, 0, none⟩, n, sc) vs') := by
                rw [mp_zero, ← hlt]
                exact HK4.out
              clear hvs' hlt HK4
              have hp5b : p5 ≤ 5 := by omega
              go_wp2
              go_loopw [8] (fun q wr => ∃ x : Nat, x ≤ p5 ∧ q = .int .i64 (x : Int) ∧ Hid (Rs w T wr (M.set k { e3 with ptr := mp cut64 x lt }) (some ⟨gE, 0, none⟩, n, sc) vs')) (fun q _ => p5 - (intOf q).toNat)
              case atStart => exact ⟨0, Nat.zero_le _, rfl, HK5.out⟩
              case round =>
                clear HK5
                obtain ⟨x, hx, rfl, HK⟩ := hrel
                rename World => wr
                obtain ⟨_, e1, cE⟩ := HK.out.cell HV.out
                cases e1
                have c5 : wr.cell? ⟨gE, k * 6 + 5, none⟩ = some (.slice pa p5 pc) := (cE 5 _ rfl).1
                clear cE
                have w7 : IntKind.i64.wrap ((x : Int) + 1) = (x : Int) + 1 := IntWalk.i64_in _ (by omega)
                by_cases hxl : x < p5
                · have q4 : (x : Int) < (p5 : Int) := by omega
                  have hxo : x < lt.length := by rw [HLT.out.2]; exact hxl
                  obtain ⟨s, hs⟩ : ∃ p, lt[x]? = some p := ⟨_, List.getElem?_eq_getElem hxo⟩
                  obtain ⟨gp, hgp, hcl⟩ := own_cell (HK.out.at_ HQ.out.2.2.2.2.2 HV.out).2.2.2 (mp_get cut64 hs)
                  subst hgp
                  have d0 : wr.cell? ⟨gp, x, none⟩ = some (.string s) := by have := (hcl 0 _ rfl).1; rwa [show x * kT.size + 0 = x from by show x * 1 + 0 = x; omega] at this
                  have f0 : wr.frozen? ⟨gp, x, none⟩ = false := by have := (hcl 0 _ rfl).2; rwa [show x * kT.size + 0 = x from by show x * 1 + 0 = x; omega] at this
                  have hsz : s.size ≤ 9223372036854775807 := HQ.out.2.2.2.2.1.2.2.2 s (by have h1 := List.mem_of_getElem? hs; rw [← HLT.out.1, HE3.out.2] at h1; exact List.mem_of_mem_take h1)
                  have HNX : Hid (Rs w T ((wr.setCell ⟨gp, x, none⟩ (.string (cut64 s))).drew) (M.set k { e3 with ptr := mp cut64 (x + 1) lt }) (some ⟨gE, 0, none⟩, n, sc) vs') := by
                    have h := HK.out.ptr' (x := cut64 s) (m := x) HQ.out.2.2.2.2.2 HV.out (by rw [mp_len]; exact hxo)
                    rw [mp_set cut64 hs] at h
                    exact h.below (Below.refl _ _).drew
                  clear hcl hs hxo HK
                  go_wp2
                  go_big_region
                  rw [cut_eq]
                  go_wp2
                  go_roundw
                  case rel => exact ⟨x + 1, by omega, by go_num, HNX.out⟩
                  case measure => simp [intOf]; omega
                obtain rfl : x = p5 := by omega
                have q4 : ¬ (x : Int) < (x : Int) := by omega
                have HK6 : Hid (Rs w T wr (mp rE (k + 1) es) (some ⟨gE, 0, none⟩, n, sc) vs') := by
                  have h := HK.out
                  rw [mp_all cut64 (by rw [HLT.out.2]; exact Nat.le_refl _)] at h
                  have e9 : ({ e3 with ptr := lt.map cut64 } : Ed) = rE ed := by
                    rw [HE3.out.1, HE2.out.1, ← HLT.out.1, HE3.out.2]
                    have e8 : ed.ptr.take x = ed.ptr.take 5 := by
                      rw [hp5]
                      have h8 := HOL.out.2.2
                      rcases Nat.le_total pl 5 with h9 | h9
                      · rw [Nat.min_eq_left h9, List.take_of_length_le (by omega), List.take_of_length_le (by omega)]
                      · rw [Nat.min_eq_right h9]
                    rw [e8]
                    rfl
                  rw [e9, ← HQ.out.2.2.2.1, mp_set rE HQ.out.1] at h
                  exact h
                clear HK
                go_wp2
                go_roundw
                case rel => exact ⟨k + 1, vs', by omega, by go_num, HK6.out⟩
                case measure => simp [intOf]; omega
    · obtain rfl : k = n := by omega
      have q1 : ¬ (k : Int) < (k : Int) := by omega
      go_wp2
      go_ret
      have := HK.out
      rw [mp_all rE (by rw [HW.out.2]; exact Nat.le_refl _)] at this
      exact ⟨T, sa, k, sc, rfl, vs, this⟩
end Mnf
end Go.Proofs.YtjbnnhephagdmaaDoor
