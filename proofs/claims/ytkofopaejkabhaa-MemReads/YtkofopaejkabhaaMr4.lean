import Derived.Test.YtkofopaejkabhaaMr3
import Derived.Deep.RegionHeld3
import Derived.Deep.DeepCutAuto
namespace Go.Proofs.Ytkofopaejkabhaa
namespace MemReads
open Go.RowKit Laws Irw Erw KMath Skm Byt Sk Grp Mem Crw
set_option linter.unusedVariables false
set_option maxRecDepth 100000
set_option linter.unusedSimpArgs false
set_option maxHeartbeats 4000000 in
theorem walk (w : World) (ad : Option Addr) (cd : Nat) (ds : List Nat) (hd : IsB w ad ds) (hdn : ad = none → cd = 0) (hd47 : ds.length ≤ 140737488355328)
    (a : Option Addr) (c n0 : Nat) (gs0 : List (List Chk.Wr)) (hn : gs0.length = n0) (hmx : (n0 : Int) ≤ 9223372036854775807) (hg : IsG w a gs0) (key : ByteArray) (A : Nat) :
    Calls Try.prog 4 #[.slice ad ds.length cd, .slice a n0 c, .string key, .int .u64 (A : Int)] w fun e w' => e = .returned (.bool true) ∧ Below w.heap.size w w' := by
  have HD : Hid (IsB w ad ds ∧ (ad = none → cd = 0) ∧ ds.length ≤ 140737488355328) := ⟨hd, hdn, hd47⟩
  have HG0 : Hid (IsG w a gs0 ∧ gs0.length = n0) := ⟨hg, hn⟩
  obtain ⟨D, hD⟩ : ∃ D, ds.length = D := ⟨_, rfl⟩
  have HDO : Hid (ds.length = D) := hD
  obtain ⟨s, hs⟩ : ∃ s : Int, (A : Int) = s := ⟨_, rfl⟩
  rw [hD, hs]
  clear hd hdn hd47 hg hn hD hs
  go_enter Try.func4, Try.ntmps4
  go_wp2_with (first
    | (go_at_call 18; refine (known_any w).mono ?_; rintro e w1 ⟨rfl, hb1⟩; have HB1 : Hid (Below w.heap.size w w1) := hb1; clear hb1)
    | fail)
  refine (groups_any w1 a c n0 gs0 HG0.out.2 hmx (HG0.out.1.below HB1.out)).mono ?_
  rintro e w2 ⟨few, rfl, hb2⟩
  have HB2 : Hid (Below w.heap.size w w2) := HB1.out.trans (hb2.mono HB1.out.size)
  clear hb2 HB1
  cases few with
  | false =>
    go_wp2
    go_ret
    exact ⟨rfl, HB2.out⟩
  | true =>
    go_wp2_with fail
    refine (batches_any w2 a c n0 gs0 HG0.out.2 hmx (HG0.out.1.below HB2.out)).mono ?_
    rintro e w3 ⟨ag, cg, rfl, hg3, _, hb3⟩
    obtain ⟨gs, hgs⟩ : ∃ gs, (gs0.take 60).map rightL = gs := ⟨_, rfl⟩
    have HBS : Hid (Bs gs) := by rw [← hgs]; exact Bs.of gs0
    rw [hgs] at hg3 ⊢
    obtain ⟨N, hN⟩ : ∃ N, gs.length = N := ⟨_, rfl⟩
    rw [hN]
    have HG3 : Hid (IsG w3 ag gs ∧ gs.length = N) := ⟨hg3, hN⟩
    have HB3 : Hid (Below w.heap.size w w3) := HB2.out.trans (hb3.mono HB2.out.size)
    have hN60 : N ≤ 60 := by rw [← hN]; exact HBS.out.len
    have hNi : (N : Int) ≤ 60 := by omega
    clear hg3 hN hgs hb3 HB2 HG0 hmx
    go_wp2_with fail
    refine (new_mem 10 (fun _ => 0) w3 ad D cd ds (HD.out.1.below HB3.out) HDO.out.symm HD.out.2.1 HD.out.2.2 (fun _ _ => rfl)).mono ?_
    rintro e w5 ⟨M, L, T5, rfl, hmt4, hgo4⟩
    have HM5 : Hid (Mt 10 T5 w5 M L ds [] false ∧ Old w3 T5 w5) := ⟨hmt4, (Old.first w3).goes hgo4 (fun z => z)⟩
    clear hmt4 hgo4
    go_wp2_with fail
    refine (numbered_any w5 5 (by omega) ag cg N gs HG3.out.2 hN60 HBS.out.l16 (HG3.out.1.below HM5.out.2.below)).mono ?_
    rintro e w6 ⟨af, cf, rfl, hnu, hfr, hb6⟩
    have HLP0 : Hid (L1 5 w3 w6 T5 T5 w6 M L ds gs [] 0) := ⟨HM5.out.1.below hb6, Goes.refl _ _ _, HM5.out.2.goes (Goes.below (t := fun _ => False) hb6) (fun z => z), by simp only [fwd, List.range_zero, List.map_nil, List.flatten_nil]; exact .nil⟩
    have HNU : Hid (IsK kU w6 af (nums 5 gs N) ∧ ∀ b off, af = some ⟨b, off, none⟩ → T5 b = 0) := ⟨hnu, fun b off e => HM5.out.2.zero b (.inr (hfr b off e))⟩
    clear hnu hfr hb6 HM5
    go_wp2
    go_loopw [11] (fun i wr => ∃ (k : Nat) (T : Nat → Nat) (n1 : List Nd), k ≤ N ∧ i = .int .i64 (k : Int) ∧ Hid (L1 5 w3 w6 T5 T wr M L ds gs n1 k)) (fun i _ => N - (intOf i).toNat)
    case atStart => exact ⟨0, T5, [], Nat.zero_le _, rfl, HLP0⟩
    case round =>
      clear HLP0
      obtain ⟨k, T, n1, hk, rfl, HK⟩ := hrel
      rename World => wr
      by_cases hlt : k < N
      · have hkl : k < gs.length := by rw [HG3.out.2]; exact hlt
        obtain ⟨bg, og, ad1, c1, rfl, hbg, g1, hw1⟩ := HG3.out.1.rd hkl
        obtain ⟨bf, of, rfl, hbf, f1⟩ := rdU HNU.out.1 hlt
        obtain ⟨m1, hm1⟩ : ∃ m, (gs.getD k []).length = m := ⟨_, rfl⟩
        obtain ⟨F1, hF1⟩ : ∃ F, ((5 + Grp.off gs k : Nat) : Int) = F := ⟨_, rfl⟩
        rw [hm1] at g1
        rw [hF1] at f1
        have hT5 := HNU.out.2 bf of rfl
        have HAT : Hid (∀ W, L1 5 w3 w6 T5 T W M L ds gs n1 k → Calls Try.prog 22 #[.pointer (some ⟨M, 0, none⟩), .int .u64 F1, .slice ad1 m1 c1] W fun r w' => r = .returned (.int .i64 0) ∧ ∃ T' n1', L1 5 w3 w6 T5 T' w' M L ds gs n1' (k + 1)) := fun W hW => hW.add HBS.out HD.out.2.2 hkl hw1 hm1 hF1
        have HSC : Hid (∀ W T n1 k1, L1 5 w3 w6 T5 T W M L ds gs n1 k1 → W.cell? ⟨bf, of + k, none⟩ = some (.int .u64 F1) ∧ W.cell? ⟨bg, og + k, none⟩ = some (.slice ad1 m1 c1)) := fun W T n1 k1 hW => ⟨hW.num hbf hT5 f1, hW.grp hbg g1⟩
        have q1 : (k : Int) < (N : Int) := by omega
        clear hw1 hm1 hF1 f1 g1 hbg hbf hT5 hkl
        go_wp2
        go_region_held3 (fun W => W.cell? ⟨bf, of + k, none⟩ = some (.int .u64 F1) ∧ W.cell? ⟨bg, og + k, none⟩ = some (.slice ad1 m1 c1)) (first | assumption | exact HSC.out _ _ _ _ (HK.out.below (Below.refl _ _).drew))
          (first
            | (go_at_call 22; refine (HAT.out _ ?_).mono ?_; exact HK.out.below (Below.refl _ _).drew; rintro r w7 ⟨rfl, T7, n7, hl7⟩; have HL7 : Hid (L1 5 w3 w6 T5 T7 w7 M L ds gs n7 (k + 1)) := hl7; have hS7 := HSC.out _ _ _ _ hl7; clear hl7))
        clear HK HSC HAT hS7
        go_wp2
        go_roundw
        case rel => exact ⟨k + 1, T7, n7, by omega, by go_num, HL7⟩
        case measure => simp [intOf]; omega
      · obtain rfl : k = N := by omega
        have hp1 := adds_all (f := 5) HBS.out (by omega) HK.out.a1 (by rw [HG3.out.2])
        have hl1 := HK.out.len HBS.out (by rw [HG3.out.2]; exact Nat.le_refl _)
        obtain ⟨es, hes⟩ : ∃ es, n1.map Nd.e = es := ⟨_, rfl⟩
        have HES : Hid (n1.map Nd.e = es ∧ es.Pairwise ltE ∧ (∀ e ∈ es, 0 < e.1.size) ∧ es.Perm (fwd 5 gs gs.length) ∧ es.length ≤ 960 ∧ n1.length ≤ 960) := ⟨hes, by rw [← hes]; exact List.pairwise_map.2 HK.out.t.sl.sorted, by
          rw [← hes]
          intro e he
          obtain ⟨nd, hnd, rfl⟩ := List.mem_map.1 he
          exact (HK.out.t.ok nd hnd).1, by rw [← hes]; exact hp1, by rw [← hes, List.length_map]; exact hl1, hl1⟩
        clear hp1 hl1 hes HNU
        go_wp2_with fail
        refine (keys_any wr 5 (by omega) ag cg k gs HG3.out.2 HBS.out (HG3.out.1.below HK.out.old.below) key).mono ?_
        rintro e w8 ⟨ak, ck, rfl, hk8, _, hb8⟩
        obtain ⟨KS, hKS⟩ : ∃ KS, ksOf key (fwd 5 gs k) = KS := ⟨_, rfl⟩
        rw [hKS] at hk8 ⊢
        obtain ⟨Z, hZ⟩ : ∃ Z, KS.length = Z := ⟨_, rfl⟩
        rw [hZ]
        have HKS : Hid (ksOf key (fwd 5 gs gs.length) = KS ∧ KS.length = Z ∧ Z ≤ 961) := ⟨by rw [HG3.out.2]; exact hKS, hZ, by
          rw [← hZ, ← hKS]
          unfold ksOf
          have h1 := HES.out.2.2.2.1.length_eq
          have h2 := HES.out.2.2.2.2.1
          rw [HG3.out.2] at h1
          simp
          omega⟩
        have HL8 : Hid (L1 5 w3 w6 T5 T w8 M L ds gs n1 k ∧ IsK kT w8 ak KS) := ⟨HK.out.below hb8, hk8⟩
        have hZi : (Z : Int) ≤ 961 := by have := HKS.out.2.2; omega
        clear hk8 hb8 hKS hZ HK
        have HGK : Hid (∀ k', gk k' s es = lastE k' s (fwd 5 gs k)) := fun k' => by have := gk_last HBS.out (f := 5) (by omega) HES.out.2.2.2.1 HES.out.2.1 k' s; rw [HG3.out.2] at this; exact this
        go_wp2
        go_loopw [13, 14, 15, 16, 17, 18] (fun i _ _ _ _ _ wq => ∃ (m : Nat), m ≤ Z ∧ i = .int .i64 (m : Int) ∧ Hid (Below w8.heap.size w8 wq)) (fun i _ _ _ _ _ _ => Z - (intOf i).toNat)
        case atStart => exact ⟨0, Nat.zero_le _, rfl, Below.refl _ _⟩
        case round =>
          obtain ⟨m, hm, rfl, HBQ⟩ := hrel
          rename World => wq
          by_cases hlm : m < Z
          · have hml : m < KS.length := by rw [HKS.out.2.1]; exact hlm
            obtain ⟨bk, ok_, rfl, hbk, c0⟩ := rdT HL8.out.2 hml
            have HKC : Hid (∀ W, Below w8.heap.size w8 W → W.cell? ⟨bk, ok_ + m, none⟩ = some (.string (KS.getD m ⟨#[]⟩))) := fun W hW => (hW.cell (p := ⟨bk, ok_ + m, none⟩) hbk).trans c0
            have d0 := HKC.out wq HBQ.out
            have p1 : (m : Int) < (Z : Int) := by omega
            clear c0 hbk hml
            generalize KS.getD m ⟨#[]⟩ = kk at *
            obtain ⟨o, ho⟩ : ∃ o, gk kk s es = o := ⟨_, rfl⟩
            have HO : Hid (gk kk s es = o ∧ lastE kk s (fwd 5 gs k) = o) := ⟨ho, by rw [← HGK.out kk]; exact ho⟩
            obtain ⟨x, hx⟩ : ∃ x, o.getD ez = x := ⟨_, rfl⟩
            obtain ⟨bo, hbo⟩ : ∃ bo, o.isSome = bo := ⟨_, rfl⟩
            have HXB : Hid (o.getD ez = x ∧ o.isSome = bo) := ⟨hx, hbo⟩
            have hcase : (bo = false ∧ x = ez) ∨ (bo = true ∧ x.1 = kk) := by
              cases o with
              | none => exact .inl ⟨hbo.symm, hx.symm⟩
              | some y =>
                right
                refine ⟨hbo.symm, ?_⟩
                have hm9 : y ∈ es.filter (fun e => decide (e.1 = kk) && decide (e.2.1 ≤ s)) := List.mem_of_head? ho
                rw [List.mem_filter] at hm9
                simp only [Bool.and_eq_true, decide_eq_true_eq] at hm9
                rw [← hx]
                exact hm9.2.1
            have HCS : Hid ((bo = false ∧ x = ez) ∨ (bo = true ∧ x.1 = kk)) := hcase
            have HLA : Hid (Calls Try.prog 24 #[.slice ag k cg, .int .u64 5, .string kk, .int .u64 s] wq fun r w' => r = .returned (.tuple #[.agg #[.string x.1, .bool x.2.2.1, .string x.2.2.2], .int .u64 x.2.1, .bool bo]) ∧ Below wq.heap.size wq w') := by
              have h1 := last_any wq 5 (by omega) ag cg k gs HG3.out.2 HBS.out ((HG3.out.1.below HL8.out.1.old.below).below HBQ.out) kk s
              rw [HO.out.2] at h1
              unfold Mem.lastV at h1
              rw [HXB.out.1, HXB.out.2] at h1
              exact h1
            clear ho hx hbo hcase
            go_wp2_with (first
              | (go_at_call 24; refine HLA.out.mono ?_; rintro e wA ⟨rfl, hbA⟩; have HBA : Hid (Below w8.heap.size w8 wA) := HBQ.out.trans (hbA.mono HBQ.out.size); have HBA1 : Hid (Below wA.heap.size wA (wA.alloc (.cells #[.string x.1, .bool x.2.2.1, .string x.2.2.2] 73))) := (Below.refl _ _).alloc (Nat.le_refl _) _; have e0 := HKC.out _ (HBA.out.trans (HBA1.out.mono HBA.out.size)); clear hbA)
              | (go_at_call 25; refine (get_mem ((HL8.out.1.t.below HBA.out).below HBA1.out) _ _).mono ?_; rintro e wB ⟨rfl, hbB⟩; rw [HES.out.1, HO.out.1, getV_eq, HXB.out.1, HXB.out.2]; have HBB : Hid (Below wA.heap.size wA wB) := HBA1.out.trans (hbB.mono HBA1.out.size); have HZ1 : Hid (wB.heap[wA.heap.size]? = some (.cells #[.string x.1, .bool x.2.2.1, .string x.2.2.2] 73)) := (hbB.block _ (by simp)).trans (World.alloc_heap_new _ _); clear hbB))
            have hb9 : Below wB.heap.size wB (wB.alloc (.cells #[.string x.1, .int .u64 x.2.1, .bool x.2.2.1, .string x.2.2.2] 77)) := (Below.refl _ _).alloc (Nat.le_refl _) _
            have z2 : (wB.alloc (.cells #[.string x.1, .int .u64 x.2.1, .bool x.2.2.1, .string x.2.2.2] 77)).heap[wB.heap.size]? = some (.cells #[.string x.1, .int .u64 x.2.1, .bool x.2.2.1, .string x.2.2.2] 77) := World.alloc_heap_new _ _
            have z1 := (hb9.block _ (Array.getElem?_eq_some_iff.1 HZ1.out).1).trans HZ1.out
            have hbW : Below w8.heap.size w8 (wB.alloc (.cells #[.string x.1, .int .u64 x.2.1, .bool x.2.2.1, .string x.2.2.2] 77)) := (HBA.out.trans (HBB.out.mono HBA.out.size)).trans (hb9.mono (Nat.le_trans HBA.out.size HBB.out.size))
            have z3 := HKC.out _ hbW
            generalize wB.alloc (.cells #[.string x.1, .int .u64 x.2.1, .bool x.2.2.1, .string x.2.2.2] 77) = W2 at *
            have HBW : Hid (Below w8.heap.size w8 W2) := hbW
            clear hb9 hbW HLA HBA HBA1 HBB HZ1 HKC d0 e0
            obtain ⟨xk, xs, xd, xv⟩ := x
            dsimp only at z1 z2 HCS
            have a0 : W2.cell? ⟨wA.heap.size, 0, none⟩ = some (.string xk) := by rw [cell_of_obj z1]; rfl
            have a1 : W2.cell? ⟨wA.heap.size, 1, none⟩ = some (.bool xd) := by rw [cell_of_obj z1]; rfl
            have a2 : W2.cell? ⟨wA.heap.size, 2, none⟩ = some (.string xv) := by rw [cell_of_obj z1]; rfl
            have b0 : W2.cell? ⟨wB.heap.size, 0, none⟩ = some (.string xk) := by rw [cell_of_obj z2]; rfl
            have b1 : W2.cell? ⟨wB.heap.size, 1, none⟩ = some (.int .u64 xs) := by rw [cell_of_obj z2]; rfl
            have b2 : W2.cell? ⟨wB.heap.size, 2, none⟩ = some (.bool xd) := by rw [cell_of_obj z2]; rfl
            have b3 : W2.cell? ⟨wB.heap.size, 3, none⟩ = some (.string xv) := by rw [cell_of_obj z2]; rfl
            clear z1 z2
            rcases HCS.out with ⟨rfl, hez⟩ | ⟨rfl, rfl⟩
            · unfold ez at hez
              simp only [Prod.mk.injEq] at hez
              obtain ⟨rfl, rfl, rfl, rfl⟩ := hez
              go_quiet (fail)
              go_wp2
              go_roundw
              case rel => exact ⟨m + 1, by omega, by go_num, below_drewN HBW.out _⟩
              case measure => simp [intOf]; omega
            · go_quiet (fail)
              go_wp2
              go_roundw
              case rel => exact ⟨m + 1, by omega, by go_num, below_drewN HBW.out _⟩
              case measure => simp [intOf]; omega
          · obtain rfl : m = Z := by omega
            clear HGK
            have HLQ : Hid (L1 5 w3 w6 T5 T wq M L ds gs n1 k ∧ IsK kT wq ak KS) := ⟨HL8.out.1.below HBQ.out, HL8.out.2.below HBQ.out⟩
            have HBQW : Hid (Below w.heap.size w wq) := (HB3.out.trans (HL8.out.1.old.below.mono HB3.out.size)).trans (HBQ.out.mono (Nat.le_trans HB3.out.size HL8.out.1.old.below.size))
            clear HBQ HL8
            go_wp2_with fail
            refine (from_mem M key s wq (B := wq.heap.size) rfl).mono ?_
            rintro e wB ⟨rfl, hbB, k1, k2, k3⟩
            have HLB : Hid (L1 5 w3 w6 T5 T wB M L ds gs n1 k ∧ IsK kT wB ak KS ∧ Below w.heap.size w wB) := ⟨HLQ.out.1.below hbB, HLQ.out.2.below hbB, HBQW.out.trans (hbB.mono HBQW.out.size)⟩
            obtain ⟨FL, hFL⟩ : ∃ FL, frm key s es = FL := ⟨_, rfl⟩
            obtain ⟨nF, hnF⟩ : ∃ nF, FL.length = nF := ⟨_, rfl⟩
            have HFL : Hid (frm key s es = FL ∧ FL.length = nF) := ⟨hFL, hnF⟩
            have HTA : Hid _ := mtaken_mem HLB.out.1.t (B := wq.heap.size) (n := nF) (by have := HES.out.2.2.2.2.2; omega) (fun e => absurd ((HLQ.out.1.old.zero (wq.heap.size + 2) (.inr (Nat.le_add_right _ 2))).symm.trans e) (by decide)) (by rw [HES.out.1, hFL]; exact hnF) k1 k2 k3
            clear k1 k2 k3 hbB hFL hnF
            go_wp2_with fail
            refine Calls.mono HTA.out ?_
            rintro e wC ⟨aF, cF, rfl, iF, fF, hbC⟩
            rw [HES.out.1, HFL.out.1] at iF
            have HLC : Hid (L1 5 w3 w6 T5 T wC M L ds gs n1 k ∧ IsK kT wC ak KS ∧ Below w.heap.size w wC ∧ IsE wC aF FL) := ⟨HLB.out.1.below hbC, HLB.out.2.1.below hbC, HLB.out.2.2.trans (hbC.mono HLB.out.2.2.size), iF⟩
            have HFI := frm_is (k := key) (s := s) HES.out.2.1 HES.out.2.2.1
            rw [HFL.out.1] at HFI
            have HFS : Hid (FL.Pairwise (fun a b => klt a.1 b.1) ∧ (∀ x ∈ FL, kle key x.1 ∧ gk x.1 s es = some x) ∧ ∀ j, kle key j → (gk j s es).isSome = true → ∃ x ∈ FL, x.1 = j) := HFI
            have hnFi : (nF : Int) ≤ 960 := by
              have h1 := HFL.out
              have h2 := stt_len s (es.filter fun e => !decide (cmpE e.1 key e.2.1 s < 0))
              have h3 := List.length_filter_le (fun e : En => !decide (cmpE e.1 key e.2.1 s < 0)) es
              have h4 := HES.out.2.2.2.2.1
              rw [← h1.2, ← h1.1]
              unfold frm
              omega
            clear iF fF hbC HTA HLB HFI HLQ HBQW
            go_wp2
            go_loopw [22, 23, 24] (fun i _ _ wr2 => ∃ (p : Nat), p ≤ nF ∧ i = .int .i64 (p : Int) ∧ Hid (Below wC.heap.size wC wr2)) (fun i _ _ _ => nF - (intOf i).toNat)
            case atStart => exact ⟨0, Nat.zero_le _, rfl, Below.refl _ _⟩
            case round =>
              obtain ⟨p, hp, rfl, HBR⟩ := hrel
              rename World => wr2
              by_cases hlp : p < nF
              · have hpl : p < FL.length := by rw [HFL.out.2]; exact hlp
                obtain ⟨bF, oF, rfl, hbFl, y0, y1, y2, y3⟩ := SkipOrder.rd HLC.out.2.2.2 hpl
                have hmem : FL.getD p ez ∈ FL := by
                  have : FL.getD p ez = FL[p] := by simp [hpl]
                  rw [this]; exact List.getElem_mem hpl
                obtain ⟨hge, hgk⟩ := HFS.out.2.1 _ hmem
                have HFC : Hid (∀ W, Below wC.heap.size wC W → W.cell? ⟨bF, oF + p * 4, none⟩ = some (.string (FL.getD p ez).1) ∧ W.cell? ⟨bF, oF + p * 4 + 1, none⟩ = some (.int .u64 (FL.getD p ez).2.1) ∧ W.cell? ⟨bF, oF + p * 4 + 2, none⟩ = some (.bool (FL.getD p ez).2.2.1) ∧ W.cell? ⟨bF, oF + p * 4 + 3, none⟩ = some (.string (FL.getD p ez).2.2.2)) := fun W hW => ⟨(hW.cell (p := ⟨bF, _, none⟩) hbFl).trans y0, (hW.cell (p := ⟨bF, _, none⟩) hbFl).trans y1, (hW.cell (p := ⟨bF, _, none⟩) hbFl).trans y2, (hW.cell (p := ⟨bF, _, none⟩) hbFl).trans y3⟩
                have HPV : Hid (∀ q, p = q + 1 → (∀ W, Below wC.heap.size wC W → W.cell? ⟨bF, oF + q * 4, none⟩ = some (.string (FL.getD q ez).1)) ∧ Op.bytesLess (FL.getD q ez).1.toList (FL.getD p ez).1.toList = true) := fun q hq => by
                  have hql : q < FL.length := by omega
                  obtain ⟨bF', oF', e', _, u0, _⟩ := SkipOrder.rd HLC.out.2.2.2 hql
                  cases e'
                  refine ⟨fun W hW => (hW.cell (p := ⟨bF, _, none⟩) hbFl).trans u0, ?_⟩
                  have h1 := List.pairwise_iff_getElem.1 HFS.out.1 q p hql hpl (by omega)
                  have e1 : FL.getD q ez = FL[q] := by simp [hql]
                  have e2 : FL.getD p ez = FL[p] := by simp [hpl]
                  rw [e1, e2]
                  exact h1
                have HMQ : Hid (Mt 10 T wr2 M L ds n1 false) := HLC.out.1.t.below HBR.out
                have p1 : (p : Int) < (nF : Int) := by omega
                obtain ⟨c0, c1, c2, c3⟩ := HFC.out wr2 HBR.out
                clear y0 y1 y2 y3 hmem hbFl hpl
                generalize FL.getD p ez = x at *
                have HX : Hid (gk x.1 s es = some x) := hgk
                have hge' : Op.bytesLess x.1.toList key.toList = false := hge
                clear hgk hge
                go_wp2_with (go_at_call 25; refine (get_mem HMQ.out _ _).mono ?_; rintro e wR ⟨rfl, hbR⟩; rw [HES.out.1, HX.out]; unfold getV; dsimp only; have HBR1 : Hid (Below wC.heap.size wC wR) := HBR.out.trans (hbR.mono HBR.out.size); clear hbR)
                have hb9 : Below wR.heap.size wR (wR.alloc (.cells #[.string x.1, .int .u64 x.2.1, .bool x.2.2.1, .string x.2.2.2] 77)) := (Below.refl _ _).alloc (Nat.le_refl _) _
                have z2 : (wR.alloc (.cells #[.string x.1, .int .u64 x.2.1, .bool x.2.2.1, .string x.2.2.2] 77)).heap[wR.heap.size]? = some (.cells #[.string x.1, .int .u64 x.2.1, .bool x.2.2.1, .string x.2.2.2] 77) := World.alloc_heap_new _ _
                have hbW := HBR1.out.trans (hb9.mono HBR1.out.size)
                obtain ⟨d0, d1, d2, d3⟩ := HFC.out _ hbW
                have HPW : Hid (∀ q, p = q + 1 → (wR.alloc (.cells #[.string x.1, .int .u64 x.2.1, .bool x.2.2.1, .string x.2.2.2] 77)).cell? ⟨bF, oF + q * 4, none⟩ = some (.string (FL.getD q ez).1) ∧ Op.bytesLess (FL.getD q ez).1.toList x.1.toList = true) := fun q hq => ⟨(HPV.out q hq).1 _ hbW, (HPV.out q hq).2⟩
                generalize wR.alloc (.cells #[.string x.1, .int .u64 x.2.1, .bool x.2.2.1, .string x.2.2.2] 77) = W2 at *
                have HBW : Hid (Below wC.heap.size wC W2) := hbW
                obtain ⟨xk, xs, xd, xv⟩ := x
                dsimp only at z2 hge' d0 d1 d2 d3 HPW
                have b0 : W2.cell? ⟨wR.heap.size, 0, none⟩ = some (.string xk) := by rw [cell_of_obj z2]; rfl
                have b1 : W2.cell? ⟨wR.heap.size, 1, none⟩ = some (.int .u64 xs) := by rw [cell_of_obj z2]; rfl
                have b2 : W2.cell? ⟨wR.heap.size, 2, none⟩ = some (.bool xd) := by rw [cell_of_obj z2]; rfl
                have b3 : W2.cell? ⟨wR.heap.size, 3, none⟩ = some (.string xv) := by rw [cell_of_obj z2]; rfl
                clear hb9 hbW z2 HPV HFC HX HMQ c0 c1 c2 c3
                cases p with
                | zero =>
                  simp only [Nat.zero_mul, Nat.add_zero] at d0 d1 d2 d3
                  have e00 : ((0 : Nat) : Int) = 0 := rfl
                  rw [e00]
                  clear e00 HPW
                  go_quiet (fail)
                  go_wp2
                  go_roundw
                  case rel => exact ⟨0 + 1, by omega, by go_num, below_drewN HBW.out _⟩
                  case measure => simp [intOf]; omega
                | succ q =>
                  obtain ⟨g0, g1⟩ := HPW.out q rfl
                  generalize (FL.getD q ez).1 = pk at *
                  have q3 : (q : Int) + 1 ≤ 960 := by omega
                  have q6 : (0 : Int) ≤ (q : Int) := by omega
                  have q8 : (0 : Int) < (q : Int) + 1 := by omega
                  have q9 : decide ((0 : Int) < (q : Int) + 1) = true := decide_eq_true q8
                  have q10 : (0 : Int) ≤ (q : Int) + 1 := by omega
                  have q11 : (q : Int) + 1 - 1 = (q : Int) := by omega
                  have e11 : ((q + 1 : Nat) : Int) = (q : Int) + 1 := by omega
                  rw [e11] at p1 ⊢
                  clear e11 HPW
                  have q12 : IntKind.i64.wrap (q : Int) = (q : Int) := IntWalk.i64_in _ (by omega)
                  have q7 : IntKind.i64.wrap ((q : Int) + 1 - 1) = (q : Int) := by rw [IntWalk.i64_in _ (by omega)]; omega
                  have q4 : (q : Int) < (nF : Int) := by omega
                  have g2 : Op.bytesLess xk.toList pk.toList = false := bl_asymm _ _ g1
                  have g3 : (xk.toList == pk.toList) = false := by
                    rw [beq_eq_false_iff_ne]
                    intro e
                    rw [e, bl_irrefl] at g1
                    cases g1
                  go_quiet (fail)
                  go_wp2
                  refine ⟨⟨q + 1 + 1, by omega, by go_num, below_drewN HBW.out _⟩, ?_⟩
                  simp [intOf]
                  omega
              · obtain rfl : p = nF := by omega
                have HLD : Hid (L1 5 w3 w6 T5 T wr2 M L ds gs n1 k ∧ IsK kT wr2 ak KS ∧ Below w.heap.size w wr2) := ⟨HLC.out.1.below HBR.out, HLC.out.2.1.below HBR.out, HLC.out.2.2.1.trans (HBR.out.mono HLC.out.2.2.1.size)⟩
                have HCE : Hid (ctr (fun j => (gk j s es).isSome && !Op.bytesLess j.toList key.toList) KS m = p) := by
                  have h1 := ctr_eq (P := fun j => (gk j s es).isSome && !Op.bytesLess j.toList key.toList) (ks := KS) (nodup_keys HFS.out.1) (fun j => by
                    rw [List.mem_map]
                    constructor
                    · rintro ⟨x, hx, rfl⟩
                      obtain ⟨h1, h2⟩ := HFS.out.2.1 x hx
                      refine ⟨?_, by rw [h2, show Op.bytesLess x.1.toList key.toList = false from h1]; rfl⟩
                      have hm9 : x ∈ es.filter (fun e => decide (e.1 = x.1) && decide (e.2.1 ≤ s)) := List.mem_of_head? h2
                      have h3 := HES.out.2.2.2.1.mem_iff.1 (List.mem_filter.1 hm9).1
                      rw [← HKS.out.1]
                      exact List.mem_cons_of_mem _ (List.mem_map.2 ⟨x, h3, rfl⟩)
                    · rintro ⟨_, h1⟩
                      simp only [Bool.and_eq_true, Bool.not_eq_true'] at h1
                      obtain ⟨x, hx, e⟩ := HFS.out.2.2 j h1.2 h1.1
                      exact ⟨x, hx, e⟩)
                  rw [HKS.out.2.1, List.length_map, HFL.out.2] at h1
                  exact h1
                have HCB : Hid (∀ q, ctr (fun j => (gk j s es).isSome && !Op.bytesLess j.toList key.toList) KS q ≤ q) := fun q => by
                  unfold ctr
                  have := List.length_filter_le (fun i => (fun j => (gk j s es).isSome && !Op.bytesLess j.toList key.toList) (KS.getD i ⟨#[]⟩) && !agn KS (KS.getD i ⟨#[]⟩) i) (List.range q)
                  rw [List.length_range] at this
                  exact this
                clear HBR HLC
                go_wp2
                go_loopw [21, 25, 26, 27, 28, 29] (fun n i _ _ _ _ wr3 => ∃ (q : Nat), q ≤ m ∧ i = .int .i64 (q : Int) ∧ n = .int .i64 ((ctr (fun j => (gk j s es).isSome && !Op.bytesLess j.toList key.toList) KS q : Nat) : Int) ∧ Hid (Below wr2.heap.size wr2 wr3)) (fun _ i _ _ _ _ _ => m - (intOf i).toNat)
                case atStart => exact ⟨0, Nat.zero_le _, rfl, rfl, Below.refl _ _⟩
                case round =>
                  obtain ⟨q, hq, rfl, rfl, HBT⟩ := hrel
                  rename World => wr3
                  by_cases hlq : q < m
                  · have hql : q < KS.length := by rw [HKS.out.2.1]; exact hlq
                    obtain ⟨bk, ok_, rfl, hbk, u0⟩ := rdT HLD.out.2.1 hql
                    have HKC : Hid (∀ W, Below wr2.heap.size wr2 W → W.cell? ⟨bk, ok_ + q, none⟩ = some (.string (KS.getD q ⟨#[]⟩))) := fun W hW => (hW.cell (p := ⟨bk, ok_ + q, none⟩) hbk).trans u0
                    have HKJ : Hid (∀ W j, Below wr2.heap.size wr2 W → j < q → W.cell? ⟨bk, ok_ + j, none⟩ = some (.string (KS.getD j ⟨#[]⟩))) := fun W j hW hj => by
                      obtain ⟨bk', ok', e', _, u1⟩ := rdT HLD.out.2.1 (k := j) (by omega)
                      cases e'
                      exact (hW.cell (p := ⟨bk, ok_ + j, none⟩) hbk).trans u1
                    have d0 := HKC.out wr3 HBT.out
                    have HCS := ctr_succ (fun j => (gk j s es).isSome && !Op.bytesLess j.toList key.toList) KS q
                    have HCQ := HCB.out q
                    have p1 : (q : Int) < (m : Int) := by omega
                    have HMQ : Hid (Mt 10 T wr3 M L ds n1 false) := HLD.out.1.t.below HBT.out
                    clear u0 hbk
                    generalize ctr (fun j => (gk j s es).isSome && !Op.bytesLess j.toList key.toList) KS q = cq at *
                    generalize KS.getD q ⟨#[]⟩ = kk at *
                    have HSC : Hid (ctr (fun j => (gk j s es).isSome && !Op.bytesLess j.toList key.toList) KS (q + 1) = cq + (if ((gk kk s es).isSome && !Op.bytesLess kk.toList key.toList && !agn KS kk q) = true then 1 else 0)) := HCS
                    clear HCS
                    obtain ⟨o, ho⟩ : ∃ o, gk kk s es = o := ⟨_, rfl⟩
                    have HO : Hid (gk kk s es = o) := ho
                    rw [ho] at HSC
                    obtain ⟨x, hx⟩ : ∃ x, o.getD ez = x := ⟨_, rfl⟩
                    obtain ⟨bo, hbo⟩ : ∃ bo, o.isSome = bo := ⟨_, rfl⟩
                    have HXB : Hid (o.getD ez = x ∧ o.isSome = bo) := ⟨hx, hbo⟩
                    rw [hbo] at HSC
                    clear ho hx hbo
                    have cqi : (cq : Int) ≤ 961 := by omega
                    go_wp2_with (go_at_call 25; refine (get_mem HMQ.out _ _).mono ?_; rintro e wR ⟨rfl, hbR⟩; rw [HES.out.1, HO.out, getV_eq, HXB.out.1, HXB.out.2]; have HBR1 : Hid (Below wr2.heap.size wr2 (wR.alloc (.cells #[.string x.1, .int .u64 x.2.1, .bool x.2.2.1, .string x.2.2.2] 77))) := (HBT.out.trans (hbR.mono HBT.out.size)).alloc (by have h1 := HBT.out.size; have h2 := hbR.size; omega) _; clear hbR)
                    generalize wR.alloc (.cells #[.string x.1, .int .u64 x.2.1, .bool x.2.2.1, .string x.2.2.2] 77) = W2 at *
                    go_loopw [28, 29] (fun ag_ j wj => ∃ (v : Nat), v ≤ q ∧ j = .int .i64 (v : Int) ∧ ag_ = .bool (agn KS kk v) ∧ Hid (Below wr2.heap.size wr2 wj)) (fun _ j _ => q - (intOf j).toNat)
                    case atStart => exact ⟨0, Nat.zero_le _, rfl, rfl, HBR1⟩
                    case round =>
                      obtain ⟨v, hv, rfl, rfl, HBJ⟩ := hrel
                      rename World => wj
                      have e0 := HKC.out wj HBJ.out
                      by_cases hlv : v < q
                      · have e1 := HKJ.out wj v HBJ.out hlv
                        have HAS : Hid (agn KS kk (v + 1) = (agn KS kk v || decide (KS.getD v ⟨#[]⟩ = kk))) := agn_succ (by rw [HKS.out.2.1]; omega)
                        have p2 : (v : Int) < (q : Int) := by omega
                        have p3 : (v : Int) < (m : Int) := by omega
                        generalize KS.getD v ⟨#[]⟩ = kv at *
                        generalize hag : agn KS kk v = av at *
                        cases av with
                        | true =>
                          have HAT : Hid (agn KS kk (v + 1) = true) := by show _ = _; rw [HAS.out]; rfl
                          go_wp2
                          go_quiet (fail)
                          go_wp2
                          refine ⟨⟨v + 1, by omega, by go_num, by rw [HAT.out], below_drewN HBJ.out _⟩, ?_⟩
                          simp [intOf]
                          omega
                        | false =>
                          by_cases hkv : kv = kk
                          · have HAT : Hid (agn KS kk (v + 1) = true) := by show _ = _; rw [HAS.out, decide_eq_true hkv]; rfl
                            have h1' : (kv.toList == kk.toList) = true := by rw [hkv]; simp
                            clear hkv
                            go_wp2
                            go_quiet (fail)
                            go_wp2
                            refine ⟨⟨v + 1, by omega, by go_num, by rw [HAT.out], below_drewN HBJ.out _⟩, ?_⟩
                            simp [intOf]
                            omega
                          · have HAT : Hid (agn KS kk (v + 1) = false) := by show _ = _; rw [HAS.out, decide_eq_false hkv]; rfl
                            have h1' : (kv.toList == kk.toList) = false := by
                              rw [beq_eq_false_iff_ne]
                              exact fun e => hkv (toList_inj e)
                            clear hkv
                            go_wp2
                            go_quiet (fail)
                            go_wp2
                            refine ⟨⟨v + 1, by omega, by go_num, by rw [HAT.out], below_drewN HBJ.out _⟩, ?_⟩
                            simp [intOf]
                            omega
                      · obtain rfl : v = q := by omega
                        generalize agn KS kk v = av at *
                        cases bo with
                        | false =>
                          have HS0 : Hid (ctr (fun j => (gk j s es).isSome && !Op.bytesLess j.toList key.toList) KS (v + 1) = cq) := by show _ = _; rw [HSC.out]; simp []
                          go_wp2
                          refine ⟨⟨v + 1, by omega, by go_num, by rw [HS0.out], HBJ⟩, ?_⟩
                          simp [intOf]
                          omega
                        | true =>
                          by_cases hkk : Op.bytesLess kk.toList key.toList = true
                          · have hk2 := bl_asymm _ _ hkk
                            have hk3 : (kk.toList == key.toList) = false := by
                              rw [beq_eq_false_iff_ne]
                              intro e
                              rw [e, bl_irrefl] at hkk
                              cases hkk
                            have HS0 : Hid (ctr (fun j => (gk j s es).isSome && !Op.bytesLess j.toList key.toList) KS (v + 1) = cq) := by show _ = _; rw [HSC.out]; simp [hkk]
                            go_wp2
                            refine ⟨⟨v + 1, by omega, by go_num, by rw [HS0.out], HBJ⟩, ?_⟩
                            simp [intOf]
                            omega
                          · have hk0 : Op.bytesLess kk.toList key.toList = false := by simpa using hkk
                            clear hkk
                            rcases kle_or (a := key) (b := kk) hk0 with hk2 | hk2
                            · have hk3 : Op.bytesLess key.toList kk.toList = true := hk2
                              clear hk2
                              cases av with
                              | true =>
                                have HS0 : Hid (ctr (fun j => (gk j s es).isSome && !Op.bytesLess j.toList key.toList) KS (v + 1) = cq) := by show _ = _; rw [HSC.out]; simp []
                                go_wp2
                                refine ⟨⟨v + 1, by omega, by go_num, by rw [HS0.out], HBJ⟩, ?_⟩
                                simp [intOf]
                                omega
                              | false =>
                                have HS0 : Hid (ctr (fun j => (gk j s es).isSome && !Op.bytesLess j.toList key.toList) KS (v + 1) = cq + 1) := by show _ = _; rw [HSC.out]; simp [hk0]
                                go_wp2
                                refine ⟨⟨v + 1, by omega, by go_num, by rw [HS0.out]; go_num, HBJ⟩, ?_⟩
                                simp [intOf]
                                omega
                            · subst hk2
                              have hk3 : (key.toList == key.toList) = true := by simp
                              cases av with
                              | true =>
                                have HS0 : Hid (ctr (fun j => (gk j s es).isSome && !Op.bytesLess j.toList key.toList) KS (v + 1) = cq) := by show _ = _; rw [HSC.out]; simp []
                                go_wp2
                                refine ⟨⟨v + 1, by omega, by go_num, by rw [HS0.out], HBJ⟩, ?_⟩
                                simp [intOf]
                                omega
                              | false =>
                                have HS0 : Hid (ctr (fun j => (gk j s es).isSome && !Op.bytesLess j.toList key.toList) KS (v + 1) = cq + 1) := by show _ = _; rw [HSC.out]; simp [hk0]
                                go_wp2
                                refine ⟨⟨v + 1, by omega, by go_num, by rw [HS0.out]; go_num, HBJ⟩, ?_⟩
                                simp [intOf]
                                omega
                  · obtain rfl : q = m := by omega
                    rw [HCE.out]
                    go_wp2
                    go_ret
                    exact ⟨rfl, HLD.out.2.2.trans (HBT.out.mono HLD.out.2.2.size)⟩
end MemReads
end Go.Proofs.Ytkofopaejkabhaa
