import Derived.Test.YtfomnkkpiflokaaSt1
import Derived.Deep.DeepCutAuto
namespace Go.Proofs.Ytfomnkkpiflokaa
namespace SkipSet
open Go.RowKit Laws Irw Erw KMath Skm Byt Sk SkipOrder
set_option linter.unusedVariables false
set_option maxRecDepth 100000
set_option linter.unusedSimpArgs false

/-- From at the empty key and the greatest number, gone through -/
theorem boxes (L : Nat) (w : World) {w' : World} (hw3 : w' = ((w.alloc (.cells #[.pointer (some ⟨L, 0, none⟩)] 43)).alloc (.cells #[.string ⟨#[]⟩] 9)).alloc (.cells #[.int .u64 18446744073709551615] 51)) :
    Below w.heap.size w w' ∧ w'.cell? ⟨w.heap.size, 0, none⟩ = some (.pointer (some ⟨L, 0, none⟩)) ∧ w'.cell? ⟨w.heap.size + 1, 0, none⟩ = some (.string ⟨#[]⟩) ∧ w'.cell? ⟨w.heap.size + 2, 0, none⟩ = some (.int .u64 18446744073709551615) := by
  refine ⟨?_, ?_, ?_, ?_⟩
  · rw [hw3]; exact (((Below.refl _ _).alloc (Nat.le_refl _) _).alloc (by simp) _).alloc (by simp; omega) _
  · rw [hw3, World.cell?_of_block (Below.heap_alloc _ _ _ (by simp <;> omega)), World.cell?_of_block (Below.heap_alloc _ _ _ (by simp <;> omega)), World.cell?_alloc_at _ _ _ _ rfl]; rfl
  · rw [hw3, World.cell?_of_block (Below.heap_alloc _ _ _ (by simp <;> omega)), World.cell?_alloc_at _ _ _ _ (by simp)]; rfl
  · rw [hw3, World.cell?_alloc_at _ _ _ _ (by simp)]; rfl
/-- .. and what taken then answers -/
theorem taken_whole {t : Nat} {T : Nat → Nat} {w w' : World} {L : Nat} {ds : List Nat} {ns : List Nd} (h : Sl t T w L ds ns) (hm : ∀ n ∈ ns, n.e.2.1 ≤ 18446744073709551615) {al : List En} {n : Nat} (hal : ns.map Nd.e = al) (hn : al.length = n) (hl : n ≤ 2932031007402)
    (hw3 : w' = ((w.alloc (.cells #[.pointer (some ⟨L, 0, none⟩)] 43)).alloc (.cells #[.string ⟨#[]⟩] 9)).alloc (.cells #[.int .u64 18446744073709551615] 51)) :
    Below w.heap.size w w' ∧ Calls Try.prog 18 #[.func (.func 46) #[] #[.pointer (some ⟨w.heap.size, 0, none⟩), .pointer (some ⟨w.heap.size + 1, 0, none⟩), .pointer (some ⟨w.heap.size + 2, 0, none⟩)], .int .i64 (-1)] w' fun e w'' => ∃ a c, e = .returned (.tuple #[.slice a n c, .bool true]) ∧ IsE w'' a al ∧ Below w'.heap.size w' w'' := by
  obtain ⟨hb, k1, k2, k3⟩ := boxes L w hw3
  refine ⟨hb, ?_⟩
  obtain ⟨pre, post, hwk⟩ := Wk.of (h.below hb) ⟨#[]⟩ 18446744073709551615
  have hpn : post = ns := post_all hwk hm
  have hnl : ns.length = n := by rw [← hn, ← hal, List.length_map]
  have := taken_all w.heap.size (w.heap.size + 1) (w.heap.size + 2) L ⟨#[]⟩ 18446744073709551615 ns pre post w' hwk k1 k2 k3 (by omega)
  rw [hpn, hal, hnl] at this
  exact this.mono fun e w'' ⟨a, c, h1, h2, _, h4⟩ => ⟨a, c, h1, h2, h4⟩

set_option maxHeartbeats 8000000 in
theorem walk (w : World) (ad : Option Addr) (cd : Nat) (ds : List Nat) (hd : IsB w ad ds) (hdn : ad = none → cd = 0) (hd47 : ds.length ≤ 140737488355328) (ao : Option Addr) (co : Nat) (os : List Nat) (ho : IsB w ao os) (hon : ao = none → co = 0) (ho47 : os.length ≤ 140737488355328) (a : Option Addr) (c : Nat) (l : List En) (hl : IsE w a l) (hlen : l.length ≤ 2932031007402) (hm : ∀ e ∈ l, e.2.1 ≤ 18446744073709551615) :
    Calls Try.prog 5 #[.slice ad ds.length cd, .slice ao os.length co, .slice a l.length c] w fun e w' => e = .returned (.bool true) ∧ Below w.heap.size w w' := by
  have HD : Hid (IsB w ad ds ∧ (ad = none → cd = 0)) := ⟨hd, hdn⟩
  have HO : Hid (IsB w ao os ∧ (ao = none → co = 0)) := ⟨ho, hon⟩
  have HL : Hid (IsE w a l) := hl
  have HM : Hid (∀ e ∈ l, e.2.1 ≤ 18446744073709551615) := hm
  obtain ⟨N, hN⟩ : ∃ N, l.length = N := ⟨_, rfl⟩
  obtain ⟨ND, hND⟩ : ∃ ND, ds.length = ND := ⟨_, rfl⟩
  obtain ⟨NO, hNO⟩ : ∃ NO, os.length = NO := ⟨_, rfl⟩
  have HN : Hid (l.length = N ∧ ds.length = ND ∧ os.length = NO) := ⟨hN, hND, hNO⟩
  have HMD : Hid (∀ W, IsB W ad ds → IsE W a l → Calls Try.prog 17 #[.slice ad ND cd, .slice a N c] W fun e w' => ∃ L v, e = .returned (.tuple #[.pointer (some ⟨L, 0, none⟩), v]) ∧ MadeAns W ds l L v w') := fun W h1 h2 => by
    have := made_any W ad cd ds h1 hdn hd47 a c l h2 hlen
    rw [hN, hND] at this
    exact this
  have HNEW : Hid (∀ T W, IsB W ao os → Calls Try.prog 8 #[.slice ao NO co] W fun e w' => ∃ L T', e = .returned (.pointer (some ⟨L, 0, none⟩)) ∧ W.heap.size ≤ L ∧ Sl 3 T' w' L os [] ∧ Goes (fun _ => False) T W T' w') := fun T W h1 => new_any 3 T W ao NO co os h1 hNO.symm hon ho47
  rw [hN] at hlen ⊢
  rw [hND] at hd47 ⊢
  rw [hNO] at ho47 ⊢
  have hD9 : (ND : Int) ≤ 140737488355328 := by omega
  have hO9 : (NO : Int) ≤ 140737488355328 := by omega
  clear hd hdn hl hm hN hND hNO ho hon hd47 ho47
  go_enter Try.func5, Try.ntmps5
  go_wp2_with fail
  refine (known_any w).mono ?_
  rintro e w1 ⟨rfl, hb1⟩
  have HB1 : Hid (Below w.heap.size w w1) := hb1
  clear hb1
  go_wp2_with fail
  refine (HMD.out w1 (HD.out.1.below HB1.out) (HL.out.below HB1.out)).mono ?_
  rintro e w2 ⟨L, v, rfl, T, ns, ins, hmk, hmi⟩
  obtain ⟨ai, ci, rfl, hii, hci, hni⟩ := hmk.own.form
  have hlin : ns.length = ins.length := by have := hmi.perm.length_eq; rw [List.length_map] at this; exact this
  have hinN : ins.length ≤ N := by have := hmi.len; rw [HN.out.1] at this; exact this
  obtain ⟨NI, hNI⟩ : ∃ NI, ins.length = NI := ⟨_, rfl⟩
  have HB2 : Hid (Below w.heap.size w w2) := HB1.out.trans (hmk.old.below.mono HB1.out.size)
  have HMK : Hid (Mk w1 T w2 L ds ns (.slice ai ins.length ci) ins) := hmk
  rw [hNI] at hlin hinN ⊢
  have HMI : Hid (MadeIs ds l ns ins ∧ ns.length = NI ∧ ins.length = NI) := ⟨hmi, hlin, hNI⟩
  have hNIb : (NI : Int) ≤ 2932031007402 := by omega
  clear hmk hmi hii hci hni hlin hNI HMD hinN hlen
  go_wp2_with fail
  refine (HNEW.out T w2 (HO.out.1.below HB2.out)).mono ?_
  rintro e w3 ⟨L2, T3, rfl, hL2, hsl2, hgo⟩
  have HTW : Hid (Tw w1 T3 w3 L L2 ds os ns [] (.slice ai ins.length ci) ins 0) := ⟨⟨HMK.out.sl.goes hgo (fun z => z) (fun z => z), HMK.out.own.goes hgo (fun z => z), HMK.out.old.goes hgo (fun z => z)⟩, hsl2, by rw [List.take_zero]; exact MadeIs.nil _⟩
  have HAP : Hid (ins.Pairwise (fun a b => cmpE a.1 b.1 a.2.1 b.2.1 ≠ 0)) := HMI.out.1.apart HMK.out.sl.sorted
  clear hL2 hsl2 hgo HMK HB2 HNEW
  go_wp2
  go_loopw [10] (fun i wr => ∃ (k : Nat) (T : Nat → Nat) (ns2 : List Nd), k ≤ NI ∧ i = .int .i64 ((NI : Int) - 1 - (k : Int)) ∧ Hid (Tw w1 T wr L L2 ds os ns ns2 (.slice ai ins.length ci) ins k)) (fun i _ => (intOf i + 1).toNat)
  case atStart => exact ⟨0, T3, [], Nat.zero_le _, by go_num, HTW⟩
  case round =>
    clear HTW
    obtain ⟨k, T4, ns2, hk, rfl, HTW⟩ := hrel
    rename World => wq
    by_cases hlt : k < NI
    · have hkl : k < ins.length := by rw [HMI.out.2.2]; exact hlt
      have hkj : NI - 1 - k < ins.length := by rw [HMI.out.2.2]; omega
      obtain ⟨ai', ci', he', hii, _⟩ := HTW.out.m1.own.form
      have hai : ai' = ai := by simp at he'; exact he'.1.symm
      rw [hai] at hii
      obtain ⟨bi, oi, rfl, _, x0, x1, x2, x3⟩ := rd hii hkj
      have ej : (NI : Int) - 1 - (k : Int) = ((NI - 1 - k : Nat) : Int) := by omega
      have HPU : Hid (Calls Try.prog 21 #[.pointer (some ⟨L2, 0, none⟩), .agg #[.string (ins.getD (NI - 1 - k) ez).1, .int .u64 (ins.getD (NI - 1 - k) ez).2.1, .bool (ins.getD (NI - 1 - k) ez).2.2.1, .string (ins.getD (NI - 1 - k) ez).2.2.2]] wq fun r w' => ∃ ok, r = .returned (.bool ok) ∧ PutAns 3 T4 wq L2 os ns2 (ins.getD (NI - 1 - k) ez) ok w') := put_any 3 T4 wq L2 os ns2 (ins.getD (NI - 1 - k) ez) HTW.out.sl2 (by omega) (by have := HN.out.2.2; omega) (by have h1 := HTW.out.mi2.perm.length_eq; rw [List.length_map, List.length_take] at h1; omega)
      have HPT : Hid (∀ ok w', PutAns 3 T4 wq L2 os ns2 (ins.getD (NI - 1 - k) ez) ok w' → ok = true ∧ ∃ T' ns2', Tw w1 T' w' L L2 ds os ns ns2' (.slice (some ⟨bi, oi, none⟩) ins.length ci) ins (k + 1)) := fun ok w' hp => HTW.out.put HAP.out hkl (by rw [HMI.out.2.2]; exact hp)
      clear hkl hkj hii he' hai HTW
      rw [ej]
      have q1 : ((NI - 1 - k : Nat) : Int) < (NI : Int) := by omega
      have q2 : (0 : Int) ≤ ((NI - 1 - k : Nat) : Int) := by omega
      have hk2 : (NI : Int) - 1 - ((k + 1 : Nat) : Int) = ((NI - 1 - k : Nat) : Int) - 1 := by omega
      have HK2 : Hid ((NI : Int) - 1 - ((k + 1 : Nat) : Int) = ((NI - 1 - k : Nat) : Int) - 1 ∧ NI - 1 - k < 2932031007402) := ⟨hk2, by omega⟩
      clear ej hk2
      generalize NI - 1 - k = j at *
      generalize ins.getD j ez = x at *
      have q3 : (j : Int) < 2932031007402 := by have := HK2.out.2; omega
      go_wp2_with fail
      refine HPU.out.mono ?_
      rintro e w5 ⟨ok, rfl, hpa⟩
      obtain ⟨rfl, T5, ns5, h5⟩ := HPT.out ok w5 hpa
      have HT5 : Hid _ := h5
      clear hpa h5 HPU HPT x0 x1 x2 x3
      go_wp2
      go_roundw
      case rel => exact ⟨k + 1, T5, ns5, by omega, by rw [HK2.out.1], HT5⟩
      case measure => simp [intOf]
    · obtain rfl : k = NI := by omega
      have HMI2 : Hid (MadeIs os ins.reverse ns2 ins.reverse) := by
        have := HTW.out.mi2
        rw [List.take_of_length_le (by rw [List.length_reverse, HMI.out.2.2]; exact Nat.le_refl _)] at this
        exact this
      obtain ⟨al, hal⟩ : ∃ al, ns.map Nd.e = al := ⟨_, rfl⟩
      have HS1 : Hid (Sl 1 T4 wq L ds ns) := HTW.out.m1.sl
      have HS2 : Hid (Sl 3 T4 wq L2 os ns2) := HTW.out.sl2
      have HAL : Hid (ns.map Nd.e = al ∧ ns2.map Nd.e = al ∧ al.length = k) := ⟨hal, (same_list HMI.out.1 HS1.out.sorted HMI2.out HS2.out.sorted).trans hal, by rw [← hal, List.length_map]; exact HMI.out.2.1⟩
      have HM1 : Hid (∀ n ∈ ns, n.e.2.1 ≤ 18446744073709551615) := fun nd hnd => HM.out _ (HMI.out.1.sub _ (HMI.out.1.perm.mem_iff.1 (List.mem_map.2 ⟨nd, hnd, rfl⟩)))
      have HM2 : Hid (∀ n ∈ ns2, n.e.2.1 ≤ 18446744073709551615) := fun nd hnd => HM.out _ (HMI.out.1.sub _ (by
        have h1 := HMI2.out.perm.mem_iff.1 (List.mem_map.2 ⟨nd, hnd, rfl⟩)
        exact List.mem_reverse.1 h1))
      have HIQ : Hid (IsE wq ai ins) := by
        obtain ⟨ai', ci', he', hii, _⟩ := HTW.out.m1.own.form
        have hai : ai' = ai := by simp at he'; exact he'.1.symm
        rw [hai] at hii
        exact hii
      have HBQ : Hid (Below w.heap.size w wq) := HB1.out.trans (HTW.out.m1.old.below.mono HB1.out.size)
      have HPF : Hid (∀ i j : Nat, i < k → j < k → al.getD j ez = ins.getD i ez → (ns.map fun n => (n.h : Int)).getD j 0 = (hgt ds i : Int) ∧ (ns2.map fun n => (n.h : Int)).getD j 0 = (hgt os (k - 1 - i) : Int)) := fun i j hi hj he => by
        have h1 := HMI.out.1.height HS1.out.sorted (i := i) (j := j) (by rw [HMI.out.2.1]; exact hj) (by rw [HMI.out.2.2]; exact hi) (by rw [HAL.out.1]; exact he)
        have hn2 : ns2.length = k := by have := HAL.out.2.1; rw [← HAL.out.2.2, ← this, List.length_map]
        have hir : i < ins.length := by rw [HMI.out.2.2]; exact hi
        have h2 := HMI2.out.height HS2.out.sorted (i := k - 1 - i) (j := j) (by rw [hn2]; exact hj) (by rw [List.length_reverse, HMI.out.2.2]; omega) (by
          rw [HAL.out.2.1, he]
          have e1 : k - 1 - i < ins.reverse.length := by rw [List.length_reverse, HMI.out.2.2]; omega
          have e2 : ins.reverse.getD (k - 1 - i) ez = ins.reverse[k - 1 - i] := by rw [List.getD_eq_getElem?_getD, List.getElem?_eq_getElem e1]; rfl
          rw [e2, List.getElem_reverse]
          have e3 : ins.length - 1 - (k - 1 - i) = i := by rw [HMI.out.2.2]; omega
          have e4 : ins.getD i ez = ins[i] := by simp [hir]
          rw [e4]
          congr 1
          exact e3.symm)
        exact ⟨h1, h2⟩
      have e1 : (k : Int) - 1 - (k : Int) = -1 := by omega
      rw [e1]
      clear e1 hal HTW
      go_wp2_with fail
      refine (from_any L ⟨#[]⟩ 18446744073709551615 wq).mono ?_
      rintro e w6 ⟨rfl, hw6⟩
      obtain ⟨hb6, hta⟩ := taken_whole HS1.out HM1.out HAL.out.1 HAL.out.2.2 (by omega) hw6
      have HTA : Hid _ := hta
      clear hta hw6
      go_wp2_with fail
      refine Calls.mono HTA.out ?_
      rintro e w7 ⟨a7, c7, rfl, hi7, hb7⟩
      have HI7 : Hid (IsE w7 a7 al) := hi7
      have HBQ7 : Hid (Below wq.heap.size wq w7) := keepB hb7 hb6
      clear hi7 hb7 hb6 HTA
      go_wp2_with fail
      refine (from_any L2 ⟨#[]⟩ 18446744073709551615 w7).mono ?_
      rintro e w8 ⟨rfl, hw8⟩
      obtain ⟨hb8, hta⟩ := taken_whole (HS2.out.below HBQ7.out) HM2.out HAL.out.2.1 HAL.out.2.2 (by omega) hw8
      have HTA : Hid _ := hta
      clear hta hw8
      go_wp2_with fail
      refine Calls.mono HTA.out ?_
      rintro e w9 ⟨a9, c9, rfl, hi9, hb9⟩
      have HI9 : Hid (IsE w9 a9 al) := hi9
      have HB79 : Hid (Below w7.heap.size w7 w9) := keepB hb9 hb8
      clear hi9 hb9 hb8 HTA
      go_wp2_with fail
      refine (towers_any ((HS1.out.below HBQ7.out).below HB79.out) HMI.out.2.1 (by omega)).mono ?_
      rintro e w10 ⟨g, rfl, hb10, hg⟩
      have HG : Hid (IRow w10 g 0 (ns.map fun n => (n.h : Int))) := hg
      have HB10 : Hid (Below w9.heap.size w9 w10) := hb10
      clear hg hb10
      go_wp2_with fail
      refine (towers_any (((HS2.out.below HBQ7.out).below HB79.out).below HB10.out) (n := k) (by have := HAL.out.2.1; rw [← HAL.out.2.2, ← this, List.length_map]) (by omega)).mono ?_
      rintro e w11 ⟨g2, rfl, hb11, hg2⟩
      have HG2 : Hid (IRow w11 g2 0 (ns2.map fun n => (n.h : Int))) := hg2
      have HG1 : Hid (IRow w11 g 0 (ns.map fun n => (n.h : Int))) := HG.out.below hb11 HG.out.1
      have HB911 : Hid (Below w9.heap.size w9 w11) := keepB hb11 HB10.out
      have HA11 : Hid (IsE w11 a7 al) := (HI7.out.below HB79.out).below HB911.out
      have HB11' : Hid (IsE w11 a9 al) := HI9.out.below HB911.out
      have HI11 : Hid (IsE w11 ai ins) := ((HIQ.out.below HBQ7.out).below HB79.out).below HB911.out
      have HB11 : Hid (Below w.heap.size w w11) := HBQ.out.trans ((keepB HB911.out (keepB HB79.out HBQ7.out)).mono HBQ.out.size)
      have HSAME : Hid (Calls Try.prog 23 #[.slice a7 k c7, .slice a9 k c9] w11 fun e w' => e = .returned (.bool true) ∧ ∃ n, w' = w11.drewN n) := sameEntries_true a7 a9 c7 c9 k al w11 HA11.out HB11'.out HAL.out.2.2 (by omega)
      clear hg2 hb11 HG HB911 HB10 HB79 HI7 HI9 HBQ7 HBQ HS1 HS2 HM1 HM2 HMI2 HIQ HB1 HAP HM HL
      go_wp2_with fail
      refine HSAME.out.mono ?_
      rintro e w12 ⟨rfl, n12, hw12⟩
      have HB12 : Hid (Below w11.heap.size w11 w12) := by rw [hw12]; exact below_drewN (Below.refl _ _) _
      clear hw12 HSAME
      have HDD : Hid (IsB w ad ds) := HD.out.1
      have HOO : Hid (IsB w ao os) := HO.out.1
      clear HD HO
      go_wp2
      go_loopw [17] (fun i wr => ∃ m : Nat, m ≤ k ∧ i = .int .i64 (m : Int) ∧ Hid (Below w11.heap.size w11 wr)) (fun i _ => k - (intOf i).toNat)
      case atStart => exact ⟨0, Nat.zero_le _, rfl, HB12⟩
      case round =>
        clear HB12
        obtain ⟨m, hm, rfl, HBR⟩ := hrel
        rename World => wa
        by_cases hlm : m < k
        · have q0 : (m : Int) < (k : Int) := by omega
          go_upto_if 108 with (fail)
          go_cut [18] (fun n w' => n = .int .i64 (hgt ds m : Int) ∧ Hid (Below w11.heap.size w11 w'))
          case first =>
            by_cases h0 : ds = []
            · have HH : Hid (hgt ds m = 1) := by show hgt ds m = 1; unfold hgt; rw [if_pos h0]
              have z0 : (ND : Int) = 0 := by have := HN.out.2.1; rw [h0] at this; rw [← this]; rfl
              clear h0
              go_wp2
              go_meet
              case rel => exact ⟨by rw [HH.out]; rfl, HBR⟩
            · obtain ⟨b, off, rfl, hr⟩ := (HDD.out.below (Below.trans HB11.out (HBR.out.mono HB11.out.size))).1 h0
              have hp : 0 < ds.length := List.length_pos_iff.2 h0
              have hm := Nat.mod_lt m hp
              have c0 : wa.cell? ⟨b, off + m % ds.length, none⟩ = some (.int .u8 ((ds.getD (m % ds.length) 0 : Nat) : Int)) := hr.2 _ _ (by simp [hm])
              have hb : ds.getD (m % ds.length) 0 < 256 := by
                have : ds.getD (m % ds.length) 0 ∈ ds := by simp [hm]
                exact HDD.out.2 _ this
              have HH : Hid (hgt ds m = 1 + ds.getD (m % ds.length) 0 % 12) := by
                show hgt ds m = _
                unfold hgt; rw [if_neg h0]
              have hle := HN.out.2.1
              rw [hle] at c0 HH hb hp
              have hm2 : m % ND < ND := Nat.mod_lt _ hp
              clear hm hle hr h0
              generalize ds.getD (m % ND) 0 = x at *
              have t2 : Int.tmod (x : Int) 12 = ((x % 12 : Nat) : Int) := by rw [Int.tmod_eq_emod_of_nonneg (by omega)]; omega
              have t3 : (x : Int) % 12 = ((x % 12 : Nat) : Int) := by omega
              have q7 : ¬ ND = 0 := by omega
              have q9 : x % 12 < 12 := Nat.mod_lt _ (by omega)
              generalize x % 12 = y at *
              have t1 : Int.tmod (m : Int) (ND : Int) = ((m % ND : Nat) : Int) := by rw [Int.tmod_eq_emod_of_nonneg (by omega)]; omega
              generalize m % ND = z at *
              have r3 : (z : Int) < (ND : Int) := by omega
              have r4 : (x : Int) < 256 := by omega
              have r8 : (y : Int) < 12 := by omega
              have r9 : (0 : Int) < (ND : Int) := by omega
              clear hm2 hp
              go_wp2
              go_meet
              case rel => exact ⟨by rw [HH.out]; go_num, HBR⟩
          case rest =>
            obtain ⟨rfl, HBR2⟩ := hcut
            clear HBR
            have HBR := HBR2
            clear HBR2
            rename World => wb
            obtain ⟨J, hJ⟩ : ∃ J, k - 1 - m = J := ⟨_, rfl⟩
            have HJN : Hid (k - 1 - m = J) := hJ
            have HJ : Hid ((k : Int) - 1 - (m : Int) = (J : Int)) := by show (k : Int) - 1 - (m : Int) = (J : Int); omega
            have HJB : Hid (J < 2932031007402) := by show J < 2932031007402; omega
            clear hJ
            go_upto_if 121 with (fail)
            go_cut [19] (fun n w' => n = .int .i64 (hgt os J : Int) ∧ Hid (Below w11.heap.size w11 w'))
            case first =>
              by_cases h0 : os = []
              · have HH : Hid (hgt os J = 1) := by show hgt os J = 1; unfold hgt; rw [if_pos h0]
                have z0 : (NO : Int) = 0 := by have := HN.out.2.2; rw [h0] at this; rw [← this]; rfl
                clear h0
                go_wp2
                go_meet
                case rel => exact ⟨by rw [HH.out]; rfl, HBR⟩
              · obtain ⟨b, off, rfl, hr⟩ := (HOO.out.below (Below.trans HB11.out (HBR.out.mono HB11.out.size))).1 h0
                have hp : 0 < os.length := List.length_pos_iff.2 h0
                have hm := Nat.mod_lt J hp
                have c0 : wb.cell? ⟨b, off + J % os.length, none⟩ = some (.int .u8 ((os.getD (J % os.length) 0 : Nat) : Int)) := hr.2 _ _ (by simp [hm])
                have hb : os.getD (J % os.length) 0 < 256 := by
                  have : os.getD (J % os.length) 0 ∈ os := by simp [hm]
                  exact HOO.out.2 _ this
                have HH : Hid (hgt os J = 1 + os.getD (J % os.length) 0 % 12) := by
                  show hgt os J = _
                  unfold hgt; rw [if_neg h0]
                have hle := HN.out.2.2
                rw [hle] at c0 HH hb hp
                have hm2 : J % NO < NO := Nat.mod_lt _ hp
                clear hm hle hr h0
                generalize os.getD (J % NO) 0 = x at *
                have t2 : Int.tmod (x : Int) 12 = ((x % 12 : Nat) : Int) := by rw [Int.tmod_eq_emod_of_nonneg (by omega)]; omega
                have t3 : (x : Int) % 12 = ((x % 12 : Nat) : Int) := by omega
                have q7 : ¬ NO = 0 := by omega
                have q9 : x % 12 < 12 := Nat.mod_lt _ (by omega)
                generalize x % 12 = y at *
                have t1 : Int.tmod ((k : Int) - 1 - (m : Int)) (NO : Int) = ((J % NO : Nat) : Int) := by rw [HJ.out, Int.tmod_eq_emod_of_nonneg (by omega)]; omega
                generalize J % NO = z at *
                have r3 : (z : Int) < (NO : Int) := by omega
                have r4 : (x : Int) < 256 := by omega
                have r8 : (y : Int) < 12 := by omega
                have r9 : (0 : Int) < (NO : Int) := by omega
                clear hm2 hp
                go_wp2
                go_meet
                case rel => exact ⟨by rw [HH.out]; go_num, HBR⟩
            case rest =>
              obtain ⟨rfl, HBR2⟩ := hcut
              clear HBR
              have HBR := HBR2
              clear HBR2
              rename World => wd
              go_wp2
              go_loopw [20] (fun j wr => ∃ q : Nat, q ≤ k ∧ j = .int .i64 (q : Int) ∧ Hid (Below w11.heap.size w11 wr)) (fun j _ => k - (intOf j).toNat)
              case atStart => exact ⟨0, Nat.zero_le _, rfl, HBR⟩
              case round =>
                clear HBR
                obtain ⟨q, hq, rfl, HBR⟩ := hrel
                rename World => we
                by_cases hlq : q < k
                · have hql : q < al.length := by rw [HAL.out.2.2]; exact hlq
                  have hml : m < ins.length := by rw [HMI.out.2.2]; exact hlm
                  obtain ⟨b7, o7, rfl, _, x0, x1, x2, x3⟩ := rd (HA11.out.below HBR.out) hql
                  obtain ⟨bi, oi, rfl, _, y0, y1, y2, y3⟩ := rd (HI11.out.below HBR.out) hml
                  have c1 := (HG1.out.below HBR.out HG1.out.1).cell (i := q) (by rw [List.length_map, HMI.out.2.1]; exact hlq)
                  have c2 := (HG2.out.below HBR.out HG2.out.1).cell (i := q) (by
                    have h1 := HAL.out.2.1
                    have h2 := congrArg List.length h1
                    rw [List.length_map, HAL.out.2.2] at h2
                    rw [List.length_map, h2]; exact hlq)
                  have hpf := HPF.out m q hlm hlq
                  rw [HJN.out] at hpf
                  have q1 : (q : Int) < (k : Int) := by omega
                  clear hql hml
                  generalize (ns.map fun n => (n.h : Int)).getD q 0 = h1 at *
                  generalize (ns2.map fun n => (n.h : Int)).getD q 0 = h2 at *
                  generalize ins.getD m ez = y at *
                  generalize al.getD q ez = x at *
                  obtain ⟨xk, xs, xd, xv⟩ := x
                  obtain ⟨yk, ys, yd, yv⟩ := y
                  dsimp only at x0 x1 x2 x3 y0 y1 y2 y3
                  simp only [Nat.zero_add] at c1 c2
                  by_cases heq : (xk, xs, xd, xv) = (yk, ys, yd, yv)
                  · obtain ⟨rfl, rfl⟩ := hpf heq
                    simp only [Prod.mk.injEq] at heq
                    obtain ⟨rfl, rfl, rfl, rfl⟩ := heq
                    clear hpf
                    generalize (hgt ds m : Int) = h1 at *
                    generalize (hgt os J : Int) = h2 at *
                    go_wp2
                    go_quiet (fail)
                    go_wp2
                    go_roundw
                    case rel => exact ⟨q + 1, by omega, by go_num, below_drewN HBR.out _⟩
                    case measure => simp [intOf]; omega
                  · have hor := neq4 heq
                    clear heq hpf
                    rcases hor with g1 | ⟨rfl, g1⟩ | ⟨rfl, rfl, g1⟩ | ⟨rfl, rfl, rfl, g1⟩
                    all_goals (
                      go_wp2
                      go_quiet (fail)
                      go_wp2
                      go_roundw
                      case rel => exact ⟨q + 1, by omega, by go_num, below_drewN HBR.out _⟩
                      case measure => simp [intOf]; omega)
                · go_wp2
                  go_roundw
                  case rel => exact ⟨m + 1, by omega, by go_num, HBR⟩
                  case measure => simp [intOf]; omega
        · go_wp2
          go_ret
          exact ⟨rfl, HB11.out.trans (HBR.out.mono HB11.out.size)⟩
end SkipSet
end Go.Proofs.Ytfomnkkpiflokaa
