import Derived.Test.YtpappjcbeibhiaaEs1
namespace Go.Proofs.Ytpappjcbeibhiaa
namespace PileSorts
open Go.RowKit Laws Irw Erw Ehp
open Hp (Ord Heapy goes_drew)
set_option linter.unusedVariables false
set_option maxRecDepth 100000
set_option linter.unusedSimpArgs false

theorem sr_first {w : World} {T : Nat → Nat} {wr : World} {h B : Nat} {b : Bool} {l' l : List En} {k : Nat} (hk : KE w T wr h B b l' l) (hl : l.length = k) {T5 : Nat → Nat} {w5 : World} {v : Value} (ho : OwnE 7 T5 w5 v l) (hg : Goes (· = 7) T wr T5 w5) : SR w T5 (w5.alloc zcells) h B b v l l' w5.heap.size ez k k := by
  have hb : Below w5.heap.size w5 (w5.alloc zcells) := (Below.refl _ _).alloc (Nat.le_refl _) _
  have h1 := hk.old.goes hg (by omega)
  have hlen := hk.perm.length_eq
  refine ⟨(hk.heap.goes hg (by omega) (by omega) (by omega)).below hb, hk.heapy, ho.below hb, hk.perm.symm, h1.goes (Goes.below (t := fun _ => False) hb) (fun z => z), by simp, h1.below.size, h1.zero _ (.inr (Nat.le_refl _)), ⟨by simp [ez], by simp [ez], by simp [ez], by simp [ez]⟩, fun j => by simp, by omega, fun hh => absurd hh (Nat.lt_irrefl _)⟩
set_option maxHeartbeats 4000000 in
theorem walk (w : World) (a : Option Addr) (cap : Nat) (l : List En) (ha : IsE w a l) (hn : a = none → cap = 0) (b : Bool) :
    Calls Try.prog 3 #[.slice a l.length cap, .bool b] w fun e w' => e = .returned (.bool true) ∧ Below w.heap.size w w' := by
  by_cases hbig : 600 < l.length
  · have hB : (600 : Int) < (l.length : Int) := by omega
    go_enter Try.func3, Try.ntmps3
    go_wp2
    go_ret
    exact ⟨rfl, (Below.refl _ _).alloc (Nat.le_refl _) _⟩
  obtain ⟨i0, hi0, hz0, hz1, hz2⟩ := info_parts infoE
  have HA : Hid (IsE w a l) := ha
  have HNA : Hid (a = none → cap = 0) := hn
  obtain ⟨N, hN⟩ : ∃ N, l.length = N := ⟨_, rfl⟩
  have HN : Hid (l.length = N) := hN
  rw [hN] at hbig ⊢
  have hle : (N : Int) ≤ 600 := by omega
  clear ha hn hN hbig
  have HB1 : Hid (Below w.heap.size w (w.alloc (.cells #[.bool b] 4))) := (Below.refl _ _).alloc (Nat.le_refl _) _
  have b0 : (w.alloc (.cells #[.bool b] 4)).cell? ⟨w.heap.size, 0, none⟩ = some (.bool b) := by simp
  have hs1 : (w.alloc (.cells #[.bool b] 4)).heap.size = w.heap.size + 1 := by simp
  have hmf : ∀ (fn : Fn) (first cap : Array Value) (w : World), (Instr.makeFunc fn first cap).run Try.prog w = .ok (.func fn first cap) w := fun _ _ _ _ => rfl
  go_enter Try.func3, Try.ntmps3
  generalize hW1 : w.alloc (.cells #[.bool b] 4) = W1 at *
  go_wp2_with fail
  try rw [hW1]
  clear hW1
  refine (Hp.known_any W1).mono ?_
  rintro e W2 ⟨rfl, hb2⟩
  have hs2 := hb2.size
  have HB2 : Hid (Below w.heap.size w W2) := HB1.out.trans (hb2.mono (by omega))
  have HNEW : Hid (Calls Try.prog 5 #[.func (.func 6) #[] #[.pointer (some ⟨w.heap.size, 0, none⟩)]] W2 fun e w' => e = .returned (.pointer (some ⟨W2.heap.size, 0, none⟩)) ∧ KE w (upd (upd (fun _ => 0) w.heap.size 3) W2.heap.size 1) w' W2.heap.size w.heap.size b [] []) := by
    refine (newE_any (upd (fun _ => 0) w.heap.size 3) W2 w.heap.size b 1 (by omega) (by rw [upd_same]) ((hb2.cell (p := ⟨w.heap.size, 0, none⟩) (show w.heap.size < W1.heap.size by omega)).trans b0)).mono ?_
    rintro e w' ⟨rfl, hh, hb⟩
    refine ⟨rfl, hh, ⟨HB2.out.trans (hb.mono (by omega)), fun q hq => ?_⟩, List.Perm.refl _, fun i _ hi => by simp at hi⟩
    have h1 := hh.dirs.dir.lth
    rw [upd_other _ _ (by omega), upd_other _ _ (by omega)]
  clear hb2 HB2 HB1 b0
  go_wp2_with fail
  refine HNEW.out.mono ?_
  rintro e w3 ⟨rfl, hK0⟩
  have HK0 : Hid _ := hK0
  clear hK0 HNEW
  generalize upd (upd (fun _ => 0) w.heap.size 3) W2.heap.size 1 = T0 at *
  generalize W2.heap.size = h at *
  go_wp2
  go_loopw [6] (fun i wr => ∃ (k : Nat) (T : Nat → Nat) (l' : List En), k ≤ N ∧ i = .int .i64 (k : Int) ∧ Hid (KE w T wr h w.heap.size b l' (l.take k))) (fun i _ => N - (intOf i).toNat)
  case atStart => exact ⟨0, T0, [], Nat.zero_le _, rfl, HK0⟩
  case round =>
    clear HK0
    obtain ⟨k, T, l', hk, rfl, HK⟩ := hrel
    have HIW : Hid (IsE wr a l) := by
      intro hne
      obtain ⟨bb, off, e, hr⟩ := HA.out hne
      exact ⟨bb, off, e, hr.below HK.out.old.below hr.1⟩
    by_cases hlt : k < N
    · have hlt' : k < l.length := by rw [HN.out]; exact hlt
      obtain ⟨bl, off, rfl, hr⟩ := HIW.out.at_ (by omega)
      obtain ⟨c0, c1, c2, c3⟩ := hr.2 k (l.getD k ez) (by simp [hlt'])
      have d1 : (k : Int) < (N : Int) := by omega
      have HPU : Hid (Calls Try.prog 7 #[.pointer (some ⟨h, 0, none⟩), entV (l.getD k ez)] wr fun e w' => e = .returned (.tuple #[]) ∧ PushIs (lessE b) 1 T wr h w.heap.size b l' (l.getD k ez) w') := pushE_any 1 T wr h w.heap.size b l' (l.getD k ez) HK.out.heap (by have := HK.out.perm.length_eq; simp at this; omega)
      have e9 : l.take k ++ [l.getD k ez] = l.take (k + 1) := by
        rw [List.take_succ_eq_append_getElem hlt']
        simp [hlt']
      have HTK : Hid (l.take k ++ [l.getD k ez] = l.take (k + 1)) := e9
      clear e9
      unfold entV at HPU
      clear hr hlt' HIW
      generalize l.getD k ez = x at *
      obtain ⟨xk, xs, xd, xv⟩ := x
      dsimp only at c0 c1 c2 c3 HPU
      go_wp2_with fail
      refine HPU.out.mono ?_
      rintro e w4 ⟨rfl, T4, l4, k1, k2, k3, k4⟩
      have HK' : Hid (KE w T4 w4 h w.heap.size b l4 (l.take (k + 1))) := ⟨k1, HK.out.old.goes k2 (by omega), by rw [← HTK.out]; exact k3.trans (HK.out.perm.append_right _), k4 (ord_lessE b) HK.out.heapy⟩
      clear k1 k2 k3 k4 HPU HTK HK c0 c1 c2 c3
      go_wp2
      go_roundw
      case rel => exact ⟨k + 1, T4, l4, by omega, by go_num, HK'⟩
      case measure => simp [intOf]; omega
    · obtain rfl : k = N := by omega
      have HK1 : Hid (KE w T wr h w.heap.size b l' l) := by
        have := HK.out
        rw [List.take_of_length_le (by rw [HN.out]; exact Nat.le_refl _)] at this
        exact this
      clear HK
      go_wp2_with (at_builtin; go_loud (refine wpList_appE _ (by rfl) (.const (.slice none 0 0)) (.tmp 34) 22 (by rfl) i0 undE hi0 hz0 hz1 hz2 7 T (.slice none 0 0) [] (by rfl) (OwnE.empty _ _ _) a k cap l (by rfl) HN.out.symm HNA.out HIW.out (by have := HN.out; simp; omega) ?_; intro a5 c5 T5 w5 hown5 hgo5 hat5; simp only [List.length_nil, Nat.zero_add, List.nil_append] at hown5 ⊢; rw [HN.out] at hown5 ⊢; have HSR : Hid (SR w T5 (w5.alloc zcells) h w.heap.size b (.slice a5 k c5) l l' w5.heap.size ez k k) := sr_first HK1.out HN.out hown5 hgo5; clear hown5 hgo5 hat5 HIW HK1))
      generalize w5.heap.size = L at *
      generalize hW6 : w5.alloc zcells = W6 at *
      try rw [hW6]
      clear hW6
      go_loopw [7, 9] (fun v n wr => ∃ (q : Nat) (T : Nat → Nat) (lf l' : List En) (le : En) (a7 : Option Addr) (c7 : Nat), q ≤ k ∧ n = .int .i64 (q : Int) ∧ v = .slice a7 q c7 ∧ Hid (SR w T wr h w.heap.size b (.slice a7 q c7) lf l' L le k q)) (fun _ n _ => (intOf n).toNat)
      case atStart => exact ⟨k, T5, l, l', ez, a5, c5, Nat.le_refl _, rfl, rfl, HSR⟩
      case round =>
        clear HSR
        obtain ⟨q, T, lf, l', le, a7, c7, hq, rfl, rfl, HS⟩ := hrel
        rename World => wq
        cases q with
        | zero =>
          obtain rfl : l' = [] := List.eq_nil_of_length_eq_zero HS.out.len
          have HPN : Hid (Calls Try.prog 8 #[.pointer (some ⟨h, 0, none⟩)] wq fun e w' => e = .returned (.tuple #[.agg #[.string ⟨#[]⟩, .int .u64 0, .bool false, .string ⟨#[]⟩], .bool false]) ∧ Below wq.heap.size wq w') := popE_none 1 T wq h w.heap.size b HS.out.heap
          go_wp2_with fail
          refine HPN.out.mono ?_
          rintro e w8 ⟨rfl, hb8⟩
          have HS8 : Hid _ := HS.out.below hb8
          have hb9 : Below w8.heap.size w8 (w8.alloc zcells) := (Below.refl _ _).alloc (Nat.le_refl _) _
          have HLEN : Hid (Calls Try.prog 10 #[.pointer (some ⟨h, 0, none⟩)] (w8.alloc zcells) fun e w' => e = .returned (.int .i64 0) ∧ w' = w8.alloc zcells) := lenE_any 1 T (w8.alloc zcells) h w.heap.size b [] (HS8.out.below hb9).heap
          have HFB : Hid (Below w.heap.size w (w8.alloc zcells)) := (HS8.out.below hb9).old.below
          clear HS HS8 HPN hb8 hb9
          go_wp2_with (go_at_call 10; refine HLEN.out.mono ?_; rintro e w9 ⟨rfl, hw9⟩; have hw8 := hw9.symm; clear hw9; subst hw8)
          go_ret
          exact ⟨rfl, HFB.out⟩
        | succ q =>
          have hlq : l'.length = q + 1 := HS.out.len
          have HPO : Hid (Calls Try.prog 8 #[.pointer (some ⟨h, 0, none⟩)] wq fun e w' => e = .returned (.tuple #[.agg #[.string (l'.getD 0 ez).1, .int .u64 (l'.getD 0 ez).2.1, .bool (l'.getD 0 ez).2.2.1, .string (l'.getD 0 ez).2.2.2], .bool true]) ∧ PopIs (lessE b) 1 T wq h w.heap.size b l' w') := popE_some 1 T wq h w.heap.size b l' HS.out.heap (by omega) (by omega) (by omega) (fun p hp => HS.out.old.zero p (.inr hp))
          clear hlq
          have HPP : Hid (∀ w', PopIs (lessE b) 1 T wq h w.heap.size b l' w' → ∃ l9, SP w T w' h w.heap.size b l9 L le (l'.getD 0 ez) k q ∧ OwnE 7 T w' (.slice a7 (q + 1) c7) lf ∧ lf.Perm (l'.getD 0 ez :: l9)) := fun w' hp => HS.out.pop hp
          generalize l'.getD 0 ez = x at *
          obtain ⟨xk, xs, xd, xv⟩ := x
          dsimp only at HPO
          go_wp2_with fail
          refine HPO.out.mono ?_
          rintro e w8 ⟨rfl, hpo⟩
          obtain ⟨l9, hsp, hol, hpe⟩ := HPP.out w8 hpo
          have hb9 : Below w8.heap.size w8 (w8.alloc (.cells #[.string xk, .int .u64 xs, .bool xd, .string xv] 28)) := (Below.refl _ _).alloc (Nat.le_refl _) _
          have e0 : (w8.alloc (.cells #[.string xk, .int .u64 xs, .bool xd, .string xv] 28)).cell? ⟨w8.heap.size, 0, none⟩ = some (.string xk) := by simp
          have e1 : (w8.alloc (.cells #[.string xk, .int .u64 xs, .bool xd, .string xv] 28)).cell? ⟨w8.heap.size, 1, none⟩ = some (.int .u64 xs) := by simp
          have e2 : (w8.alloc (.cells #[.string xk, .int .u64 xs, .bool xd, .string xv] 28)).cell? ⟨w8.heap.size, 2, none⟩ = some (.bool xd) := by simp
          have e3 : (w8.alloc (.cells #[.string xk, .int .u64 xs, .bool xd, .string xv] 28)).cell? ⟨w8.heap.size, 3, none⟩ = some (.string xv) := by simp
          have hE : w8.heap.size < (w8.alloc (.cells #[.string xk, .int .u64 xs, .bool xd, .string xv] 28)).heap.size := by simp
          have HTE : Hid (T w8.heap.size = 0) := hsp.old.zero _ (.inr (Nat.le_refl _))
          have HSP : Hid (SP w T (w8.alloc (.cells #[.string xk, .int .u64 xs, .bool xd, .string xv] 28)) h w.heap.size b l9 L le (xk, xs, xd, xv) k q) := hsp.below hb9
          have HOL : Hid (OwnE 7 T (w8.alloc (.cells #[.string xk, .int .u64 xs, .bool xd, .string xv] 28)) (.slice a7 (q + 1) c7) lf) := hol.below hb9
          have HPE : Hid (lf.Perm ((xk, xs, xd, xv) :: l9)) := hpe
          have hLE : L < w8.heap.size := hsp.ltL
          generalize hW9 : w8.alloc (.cells #[.string xk, .int .u64 xs, .bool xd, .string xv] 28) = W9 at *
          obtain ⟨hi9, hl9, _, hc9⟩ := HOL.out.isE
          obtain ⟨j, hj, hwj, hxj⟩ := whr_mem (l := lf) (e := (xk, xs, xd, xv)) (HPE.out.mem_iff.2 List.mem_cons_self)
          have HXJ : Hid (j < lf.length ∧ lf.getD j ez = (xk, xs, xd, xv)) := ⟨hj, hxj⟩
          have HWH : Hid (Calls Try.prog 9 #[.slice a7 (q + 1) c7, .agg #[.string xk, .int .u64 xs, .bool xd, .string xv]] W9 fun x w' => x = .returned (.int .i64 (j : Int)) ∧ Below W9.heap.size W9 w') := by
            have := where_any a7 (q + 1) c7 lf (xk, xs, xd, xv) W9 hi9 hl9 (by omega)
            rw [hwj] at this
            exact this
          have HL9 : Hid (q + 1 = lf.length) := hl9
          have HLQ : Hid ((lf.take j).length + (lf.drop (j + 1)).length = q) := by
            have := HL9.out
            have h9 : (lf.take j).length + (lf.drop (j + 1)).length = q := by simp; omega
            exact h9
          have hjq : (j : Int) < (q : Int) + 1 := by omega
          have hjc : (j : Int) + 1 ≤ (c7 : Int) := by omega
          have hqc : (q : Int) + 1 ≤ (c7 : Int) := by omega
          have hj6 : (j : Int) ≤ 600 := by omega
          have hj0 : (j : Int) ≤ (c7 : Int) := by omega
          have hj1 : (j : Int) + 1 ≤ (q : Int) + 1 := by omega
          have hj2 : (j : Int) ≤ (q : Int) := by omega
          have hq6 : (q : Int) + 1 ≤ 600 := by omega
          obtain ⟨g7, rfl⟩ := OwnE.blk HOL.out (by omega)
          have HPD : Hid ((lf.take j ++ lf.drop (j + 1)).Perm l9) := perm_erase HXJ.out.1 HXJ.out.2 HPE.out
          clear hpo hsp hol hpe HPO HPP HS hb9 hwj hxj hl9 hj hc9 hi9
          go_wp2_with fail
          refine HWH.out.mono ?_
          rintro e w10 ⟨rfl, hb10⟩
          have f0 := (hb10.cell (p := ⟨w8.heap.size, 0, none⟩) hE).trans e0
          have f1 := (hb10.cell (p := ⟨w8.heap.size, 1, none⟩) hE).trans e1
          have f2 := (hb10.cell (p := ⟨w8.heap.size, 2, none⟩) hE).trans e2
          have f3 := (hb10.cell (p := ⟨w8.heap.size, 3, none⟩) hE).trans e3
          have hE10 : w8.heap.size < w10.heap.size := Nat.lt_of_lt_of_le hE hb10.size
          have HSP10 : Hid _ := HSP.out.below hb10
          have HOL10 : Hid (OwnE 7 T w10 (.slice (some ⟨g7, 0, none⟩) (q + 1) c7) lf) := HOL.out.below hb10
          clear HWH hb10 HSP HOL e0 e1 e2 e3 hE hW9
          have q5 : IntKind.i64.wrap ((j : Int) + 1) = (j : Int) + 1 := IntWalk.i64_in _ (by omega)
          have q6 : (0 : Int) ≤ (j : Int) := by omega
          have q7 : (0 : Int) ≤ (j : Int) + 1 := by omega
          go_wp2
          go_region_law (first
            | (go_loud (refine step_appE _ (by rfl) (.tmp 58) (.tmp 62) 22 (by rfl) i0 undE hi0 hz0 hz1 hz2 7 T (.slice (some ⟨g7, 0, none⟩) j c7) (lf.take j) (by simp [Act.eval, Act.put]) (HOL10.out.cut (by have := HXJ.out; omega)) (if c7 = j + 1 then some ⟨g7, 0, none⟩ else some ⟨g7, (j + 1) * 4, none⟩) (q - j) (c7 - (j + 1)) (lf.drop (j + 1)) (by simp [Act.eval, Act.put]; try (split <;> simp_all)) (by have := HL9.out; simp; omega) (by split <;> simp) (isE_drop HOL10.out) (by have := HLQ.out; omega) ?_; intro a11 c11 T11 w11 ho hg hat; rw [HLQ.out] at ho ⊢; have HLAW : Hid (OwnE 7 T11 w11 (.slice a11 q c11) (lf.take j ++ lf.drop (j + 1)) ∧ Goes (· = 7) T w10 T11 w11) := ⟨ho, hg.os, hg.tape, hg.output, hg.size, hg.block, hg.tag, hg.high⟩; clear ho hg hat)))
          clear q5
          generalize (if c7 = j + 1 then some (⟨g7, 0, none⟩ : Addr) else some ⟨g7, (j + 1) * 4, none⟩) = zz1
          have hTE : ¬ (T w8.heap.size = 7) := by rw [HTE.out]; omega
          have g0 := (HLAW.out.2.cell hE10 hTE).trans f0
          have g1 := (HLAW.out.2.cell hE10 hTE).trans f1
          have g2 := (HLAW.out.2.cell hE10 hTE).trans f2
          have g3 := (HLAW.out.2.cell hE10 hTE).trans f3
          have HSP11 : Hid _ := HSP10.out.goes HLAW.out.2 (by omega) (by omega) (by omega) (by omega)
          have hcap := HSP11.out.heap.dirs.dir.cap
          obtain ⟨m0, m1, m2, m3⟩ := HSP11.out.cel
          have mf := HSP11.out.fro
          have HFIN : Hid (SR w T11 ((((w11.setCell ⟨L, 0, none⟩ (.string xk)).setCell ⟨L, 1, none⟩ (.int .u64 xs)).setCell ⟨L, 2, none⟩ (.bool xd)).setCell ⟨L, 3, none⟩ (.string xv)) h w.heap.size b (.slice a11 q c11) (lf.take j ++ lf.drop (j + 1)) l9 L (xk, xs, xd, xv) k q) := HSP11.out.done HPD.out HLAW.out.1
          have hLE' : ¬ L = w8.heap.size := by omega
          have hLE2 : ¬ w8.heap.size = L := by omega
          clear HLAW HSP10 HOL10 f0 f1 f2 f3 HPD HPE HXJ HLQ HL9 HTE hTE
          by_cases hqk : q + 1 < k
          · have hqk' : (q : Int) + 1 < (k : Int) := by omega
            have hless := HSP11.out.ord hqk
            obtain ⟨lk, ls, ld, lv⟩ := le
            dsimp only at m0 m1 m2 m3
            cases b with
            | true =>
              have hl1 : ¬ (xk.size : Int) < (lk.size : Int) := by simp [lessE] at hless; omega
              clear hless
              go_wp2
              go_roundw
              case rel => exact ⟨q, T11, _, l9, (xk, xs, xd, xv), a11, c11, by omega, by go_num, rfl, HFIN⟩
              case measure => simp [intOf]
            | false =>
              have hl1 : ¬ ls < xs := by simp [lessE] at hless; omega
              clear hless
              go_wp2
              go_roundw
              case rel => exact ⟨q, T11, _, l9, (xk, xs, xd, xv), a11, c11, by omega, by go_num, rfl, HFIN⟩
              case measure => simp [intOf]
          · have hqk' : ¬ (q : Int) + 1 < (k : Int) := by omega
            obtain ⟨lk, ls, ld, lv⟩ := le
            dsimp only at m0 m1 m2 m3
            go_wp2
            go_roundw
            case rel => exact ⟨q, T11, _, l9, (xk, xs, xd, xv), a11, c11, by omega, by go_num, rfl, HFIN⟩
            case measure => simp [intOf]
end PileSorts
end Go.Proofs.Ytpappjcbeibhiaa
