import Derived.Test.YtkofopaejkabhaaMs2
namespace Go.Proofs.Ytkofopaejkabhaa
namespace Mem
open Go.RowKit Laws Irw Erw KMath Skm Byt Sk Grp Crw
set_option linter.unusedVariables false
set_option maxRecDepth 100000
set_option linter.unusedSimpArgs false

def kP : Knd Nat := ⟨44, 1, 8, .pointer none, fun x => [.pointer (some ⟨x, 0, none⟩)], fun _ => rfl, fun x u hu => by simp at hu; subst hu; rfl, by omega, rfl, by omega⟩
theorem infoP : (Try.prog.info? 44).map (fun i => (i.zero, i.size, i.bytes)) = some (some kP.zero, 1, 8) := by kernel_rfl
theorem undP : Try.prog.underlying 114 = some (.slice 44) := by kernel_rfl
theorem isP_new2 {w : World} {v : Nat} {u : TypeId} {g : Nat} (hg : w.heap.size = g) : IsK kP (w.alloc (.cells #[.pointer (some ⟨v, 0, none⟩)] u)) (some ⟨g, 0, none⟩) [v] := by
  subst hg
  refine IsK.of ⟨by simp, fun i z hz j u hu => ?_⟩
  cases i with
  | zero =>
    simp at hz; subst hz
    rw [World.cell?_alloc_at _ _ _ _ rfl]
    cases j with
    | zero => exact hu
    | succ j => exact absurd hu (by rw [show (kP.cs v)[j + 1]? = none from rfl]; simp)
  | succ i => simp at hz
def ke (s : Nat) : En := (⟨#[107]⟩, ((s + 1 : Nat) : Int), false, ⟨#[]⟩)
def kes (k : Nat) : List En := (List.range k).map ke
theorem kes_succ (k : Nat) : kes (k + 1) = kes k ++ [ke k] := by unfold kes; rw [List.range_succ, List.map_append]; rfl
def kw : Chk.Wr := (⟨#[107]⟩, false, ⟨#[]⟩)
theorem kw_ents {k : Nat} (h : k ≤ 100) : Ents.ents ((k + 1 : Nat) : Int) [kw] = [ke k] := by
  have h1 := Ents.ents_get (first := ((k + 1 : Nat) : Int)) (ws := [kw]) (k := 0) (x := kw) rfl
  have h2 : (Ents.ents ((k + 1 : Nat) : Int) [kw]).length = 1 := Ents.ents_length _ _
  rw [seqAt_small (by omega)] at h1
  match hl : Ents.ents ((k + 1 : Nat) : Int) [kw], h2 with
  | [x], _ =>
    rw [hl] at h1
    simp only [List.getElem?_cons_zero, Option.some.injEq] at h1
    rw [h1]
    rfl
theorem kw_wr {w : World} {u : TypeId} {g : Nat} (hg : w.heap.size = g) : Chk.IsWr (w.alloc (.cells #[.string ⟨#[107]⟩, .bool false, .string ⟨#[]⟩] u)) (some ⟨g, 0, none⟩) [kw] := by
  subst hg
  exact isWr_of isW_new (by decide) (by simp [kw]; decide)
structure Good (j : Nat) (ns : List Nd) : Prop where
  get : gk ⟨#[107]⟩ 18446744073709551615 (ns.map Nd.e) = some (ke j)
  last : lM ns = ((j + 1 : Nat) : Int)
  wei : wS ns = 450 * (j + 1)
theorem good_of {ds : List Nat} {j : Nat} (hj : j ≤ 100) {ns : List Nd} (h : Adds ds [] (kes (j + 1)) ns) (hs : ns.Pairwise (fun a b => ltE a.e b.e)) : Good j ns := by
  have hp := h.perm (by
    rw [List.map_nil, List.nil_append]
    unfold kes
    rw [List.pairwise_map]
    refine List.nodup_range.imp fun h0 h9 => h0 ?_
    have := ((cmpE_zero_iff _ _ _ _).1 h9).2
    unfold ke at this
    dsimp only at this
    omega)
  rw [List.map_nil, List.nil_append] at hp
  have hm : ∀ e, e ∈ ns.map Nd.e ↔ ∃ i, i < j + 1 ∧ ke i = e := fun e => by
    rw [hp.mem_iff]
    unfold kes
    rw [List.mem_map]
    exact ⟨fun ⟨i, h1, h2⟩ => ⟨i, List.mem_range.1 h1, h2⟩, fun ⟨i, h1, h2⟩ => ⟨i, List.mem_range.2 h1, h2⟩⟩
  have hin : ke j ∈ ns.map Nd.e := (hm _).2 ⟨j, by omega, rfl⟩
  refine ⟨?_, ?_, ?_⟩
  · obtain ⟨x, g1, g2, _, g4, _⟩ := gk_top (k := ⟨#[107]⟩) (s := 18446744073709551615) (List.pairwise_map.2 hs) hin rfl (by unfold ke; dsimp only; omega)
    obtain ⟨i, hi, rfl⟩ := (hm x).1 g2
    have : i = j := by unfold ke at g4; dsimp only at g4; omega
    rw [g1, this]
  · apply Int.le_antisymm
    · refine lM_le (by omega) fun n hn => ?_
      obtain ⟨i, hi, e⟩ := (hm n.e).1 (List.mem_map.2 ⟨n, hn, rfl⟩)
      rw [← e]
      unfold ke
      dsimp only
      omega
    · obtain ⟨n, hn, e⟩ := List.mem_map.1 hin
      have := lM_ge hn
      rw [e] at this
      exact this
  · rw [wS_sum, (hp.map wN).sum_nat]
    have : ∀ k, ((kes k).map wN).sum = 450 * k := by
      intro k
      induction k with
      | zero => rfl
      | succ k ih =>
        rw [kes_succ, List.map_append, List.sum_append, ih]
        have : wN (ke k) = 450 := rfl
        simp [this]
        omega
    exact this _
abbrev Tb := Nat × Nat × List Nd
/-- memtables beside one another -/
structure My (T : Nat → Nat) (w : World) (v : Value) (ms : List Tb) : Prop where
  own : OwnK kP 5 T w v (ms.map fun m => m.1)
  mt : ∀ (j : Nat) (m : Tb), ms[j]? = some m → Mt (100 + 10 * j) T w m.1 m.2.1 [j] m.2.2 false ∧ Good j m.2.2
theorem My.goes {u : Nat → Prop} {T T' : Nat → Nat} {w w' : World} {v : Value} {ms : List Tb} (h : My T w v ms) (hg : Goes u T w T' w') (h5 : ¬ u 5) (hu : ∀ j, j < ms.length → ¬ u (100 + 10 * j) ∧ ¬ u (100 + 10 * j + 1) ∧ ¬ u (100 + 10 * j + 2)) : My T' w' v ms :=
  ⟨h.own.goes hg h5, fun j m hm => by
    have hj := (List.getElem?_eq_some_iff.1 hm).1
    exact ⟨(h.mt j m hm).1.goes hg (hu j hj).1 (hu j hj).2.1 (hu j hj).2.2, (h.mt j m hm).2⟩⟩
theorem My.below {T : Nat → Nat} {w w' : World} {v : Value} {ms : List Tb} (h : My T w v ms) (hb : Below w.heap.size w w') : My T w' v ms := h.goes (Goes.below (t := fun _ => False) hb) (fun z => z) (fun _ _ => ⟨fun z => z, fun z => z, fun z => z⟩)
theorem rdP {w : World} {a : Option Addr} {ks : List Nat} {k : Nat} (h : IsK kP w a ks) (hk : k < ks.length) : ∃ b off, a = some ⟨b, off, none⟩ ∧ b < w.heap.size ∧ w.cell? ⟨b, off + k, none⟩ = some (.pointer (some ⟨ks.getD k 0, 0, none⟩)) := by
  obtain ⟨b, off, e, hr⟩ := h.at_ (by omega)
  have hv : ks[k]? = some (ks.getD k 0) := by simp [hk]
  have hc := hr.2 k _ hv 0 _ rfl
  refine ⟨b, off, e, hr.1, ?_⟩
  have : off + k * kP.size + 0 = off + k := by show off + k * 1 + 0 = _; omega
  rw [this] at hc
  exact hc
set_option maxHeartbeats 2000000 in
theorem many_any (w : World) : Calls Try.prog 36 #[] w fun e w' => e = .returned (.bool true) ∧ Below w.heap.size w w' := by
  obtain ⟨i0, hi0, hz0, hz1, hz2⟩ := info_parts infoP
  go_enter Try.func36, Try.ntmps36
  go_wp2
  go_loopw [1, 2, 3, 4] (fun v i _ _ wr => ∃ (k : Nat) (T : Nat → Nat) (ms : List Tb), k ≤ 20 ∧ i = .int .i64 (k : Int) ∧ Hid (Old w T wr ∧ My T wr v ms ∧ ms.length = k)) (fun _ i _ _ _ => 20 - (intOf i).toNat)
  case atStart => exact ⟨0, fun _ => 0, [], Nat.zero_le _, rfl, Old.first _, ⟨OwnK.empty _ _ _, fun j m h => by simp at h⟩, rfl⟩
  case round =>
    obtain ⟨k, T, ms, hk, rfl, HK⟩ := hrel
    by_cases hlt : k < 20
    · have q1 : (k : Int) < 20 := by omega
      have q2 : (k : Int) % 256 = (k : Int) := by omega
      have HAL : Hid (Below wr.heap.size wr (wr.alloc (.cells #[.int .u8 (k : Int)] 5))) := (Below.refl _ _).alloc (Nat.le_refl _) _
      have HNW : Hid (Calls Try.prog 10 #[.slice (some ⟨wr.heap.size, 0, none⟩) 1 1] (wr.alloc (.cells #[.int .u8 (k : Int)] 5)) fun e w' => ∃ M L T', e = .returned (.pointer (some ⟨M, 0, none⟩)) ∧ Mt (100 + 10 * k) T' w' M L [k] [] false ∧ Goes (fun _ => False) T (wr.alloc (.cells #[.int .u8 (k : Int)] 5)) T' w') := new_mem (100 + 10 * k) T _ _ 1 1 [k] (isB_new rfl (by omega)) rfl (by simp) (by simp) (fun b hb => HK.out.1.zero b (.inr (by simp at hb; omega)))
      go_wp2_with (go_at_call 10; refine HNW.out.mono ?_; rintro e w3 ⟨M, L, T3, rfl, hm3, hg3⟩; have HM3 : Hid (Mt (100 + 10 * k) T3 w3 M L [k] [] false ∧ Old w T3 w3 ∧ My T3 w3 u1 ms) := ⟨hm3, (HK.out.1.goes (Goes.below (t := fun _ => False) HAL.out) (fun z => z)).goes hg3 (fun z => z), (HK.out.2.1.below HAL.out).goes hg3 (fun z => z) (fun _ _ => ⟨fun z => z, fun z => z, fun z => z⟩)⟩; clear hm3 hg3)
      go_loopw [4] (fun j wq => ∃ (m : Nat) (Tm : Nat → Nat) (ns : List Nd), m ≤ k + 1 ∧ j = .int .i64 (m : Int) ∧ Hid (Mt (100 + 10 * k) Tm wq M L [k] ns false ∧ Old w Tm wq ∧ My Tm wq u1 ms ∧ Adds [k] [] (kes m) ns)) (fun j _ => k + 1 - (intOf j).toNat)
      case atStart => exact ⟨0, T3, [], Nat.zero_le _, rfl, HM3.out.1, HM3.out.2.1, HM3.out.2.2, .nil⟩
      case round =>
        clear HM3
        obtain ⟨m, Tm, ns, hm, rfl, HQ⟩ := hrel
        rename World => wq
        by_cases hlm : m < k + 1
        · have p1 : (m : Int) ≤ (k : Int) := by omega
          have HAL2 : Hid (Below wq.heap.size wq (wq.alloc (.cells #[.string ⟨#[107]⟩, .bool false, .string ⟨#[]⟩] 73))) := (Below.refl _ _).alloc (Nat.le_refl _) _
          have HAD : Hid (Calls Try.prog 22 #[.pointer (some ⟨M, 0, none⟩), .int .u64 ((m : Int) + 1), .slice (some ⟨wq.heap.size, 0, none⟩) 1 1] (wq.alloc (.cells #[.string ⟨#[107]⟩, .bool false, .string ⟨#[]⟩] 73)) fun r w' => r = .returned (.int .i64 0) ∧ ∃ T' ns', Mt (100 + 10 * k) T' w' M L [k] ns' false ∧ Goes (uM (100 + 10 * k)) Tm wq T' w' ∧ Adds [k] [] (kes (m + 1)) ns') := by
            have hl := HQ.out.2.2.2.len
            have hl2 : (kes m).length = m := by unfold kes; simp
            have he : addE false [kw] = 0 := rfl
            refine (add_any (100 + 10 * k) Tm _ M L [k] ns false (HQ.out.1.below HAL2.out) (by omega) (by simp) (by simp at hl; omega) (fun b hb => HQ.out.2.1.zero b (.inr (by simp at hb; omega))) ((m : Int) + 1) _ 1 1 [kw] (kw_wr rfl) rfl).mono ?_
            rintro r w' ⟨rfl, T', ns', h1, h2, h3⟩
            rw [he]
            refine ⟨rfl, T', ns', h1, (Goes.below HAL2.out).trans h2, ?_⟩
            rcases h3 with ⟨_, h3⟩ | ⟨h3, _⟩
            · have e : ((m : Int) + 1) = ((m + 1 : Nat) : Int) := by omega
              rw [e, kw_ents (by omega)] at h3
              rw [kes_succ]
              exact HQ.out.2.2.2.append h3
            · exact absurd he h3
          go_wp2_with (go_at_call 22; refine HAD.out.mono ?_; rintro e w5 ⟨rfl, T5, n5, h1, h2, h3⟩; have H5 : Hid (Mt (100 + 10 * k) T5 w5 M L [k] n5 false ∧ Old w T5 w5 ∧ My T5 w5 u1 ms ∧ Adds [k] [] (kes (m + 1)) n5) := ⟨h1, HQ.out.2.1.goes h2 (uM0 (by omega)), HQ.out.2.2.1.goes h2 (by unfold uM; omega) (fun j hj => by have := HK.out.2.2; unfold uM; omega), h3⟩; clear h1 h2 h3)
          go_roundw
          case rel => exact ⟨m + 1, T5, n5, by omega, by go_num, H5⟩
          case measure => simp [intOf]; omega
        · obtain rfl : m = k + 1 := by omega
          have p1 : ¬ ((k + 1 : Nat) : Int) ≤ (k : Int) := by omega
          have HGD : Hid (Good k ns) := good_of (by omega) HQ.out.2.2.2 HQ.out.1.sl.sorted
          have hlen1 : (ms.map fun m => m.1).length = k := by rw [List.length_map]; exact HK.out.2.2
          obtain ⟨a1, c1, e1, _⟩ := HQ.out.2.2.1.own.form
          rw [hlen1] at e1
          subst e1
          obtain ⟨PL, hPL⟩ : ∃ PL, (ms.map fun m => m.1) = PL := ⟨_, rfl⟩
          have HPL : Hid ((ms.map fun m => m.1) = PL ∧ PL.length = k) := ⟨hPL, by rw [← hPL]; exact hlen1⟩
          have HOW : Hid (OwnK kP 5 Tm wq (.slice a1 k c1) PL) := by rw [← hPL]; exact HQ.out.2.2.1.own
          clear hlen1 hPL
          go_wp2_with (at_builtin; go_loud (refine wpList_appK kP _ (by rfl) (.tmp 30) (.tmp 32) 114 (by rfl) i0 undP hi0 hz0 hz1 hz2 5 Tm (.slice a1 k c1) PL (by rfl) (HOW.out.below ((Below.refl _ _).alloc (Nat.le_refl _) _)) (some ⟨wq.heap.size, 0, none⟩) 1 1 [M] (by rfl) (by rfl) (by simp) (isP_new2 (by simp)) (by have := HPL.out.2; simp; omega) ?_; intro a7 c7 T7 w7 hown7 hgo7; have hall : Below wq.heap.size wq (wq.alloc (.cells #[.pointer (some ⟨M, 0, none⟩)] 44)) := (Below.refl _ _).alloc (Nat.le_refl _) _; have HO7 : Hid (Old w T7 w7 ∧ OwnK kP 5 T7 w7 _ _ ∧ Goes (· = 5) Tm wq T7 w7) := ⟨(HQ.out.2.1.goes (Goes.below (t := (· = 5)) hall) (by omega)).goes hgo7 (by omega), hown7, (Goes.below hall).trans hgo7⟩; clear hown7 hgo7 hall))
          go_roundw
          case rel =>
            refine ⟨k + 1, T7, ms ++ [(M, L, ns)], by omega, by go_num, HO7.out.1, ⟨?_, fun j mm hj => ?_⟩, by rw [List.length_append, HK.out.2.2]; rfl⟩
            · rw [List.map_append, HPL.out.1]
              exact HO7.out.2.1
            · rcases Nat.lt_trichotomy j k with hjk | hjk | hjk
              · rw [List.getElem?_append_left (by rw [HK.out.2.2]; exact hjk)] at hj
                exact ⟨(HQ.out.2.2.1.mt j mm hj).1.goes HO7.out.2.2 (by omega) (by omega) (by omega), (HQ.out.2.2.1.mt j mm hj).2⟩
              · subst hjk
                rw [← HK.out.2.2, List.getElem?_concat_length] at hj
                cases hj
                exact ⟨HQ.out.1.goes HO7.out.2.2 (by omega) (by omega) (by omega), HGD.out⟩
              · rw [List.getElem?_eq_none (by simp; have := HK.out.2.2; omega)] at hj
                cases hj
          case measure => simp [intOf]; omega
    · obtain rfl : k = 20 := by omega
      obtain ⟨a1, c1, e1, hi1, _⟩ := HK.out.2.1.own.form
      have hlen1 : (ms.map fun m => m.1).length = 20 := by rw [List.length_map]; exact HK.out.2.2
      rw [hlen1] at e1
      subst e1
      have HI1 : Hid (IsK kP wr a1 (ms.map fun m => m.1)) := hi1
      clear hi1 hlen1
      go_wp2
      go_loopw [5, 6, 7] (fun i _ _ wq => ∃ (p : Nat), p ≤ 20 ∧ i = .int .i64 ((p : Int) - 1) ∧ Hid (Below wr.heap.size wr wq)) (fun i _ _ _ => (intOf i + 1).toNat)
      case atStart => exact ⟨20, Nat.le_refl _, rfl, Below.refl _ _⟩
      case round =>
        obtain ⟨p, hp, rfl, HB⟩ := hrel
        rename World => wq
        cases p with
        | zero =>
          have e00 : ((0 : Nat) : Int) - 1 = -1 := rfl
          rw [e00]
          clear e00
          go_wp2
          go_ret
          exact ⟨rfl, HK.out.1.below.trans (HB.out.mono HK.out.1.below.size)⟩
        | succ j =>
          have hjl : j < ms.length := by rw [HK.out.2.2]; omega
          obtain ⟨⟨Mj, Lj, nj⟩, hmj⟩ : ∃ m, ms[j]? = some m := ⟨_, List.getElem?_eq_getElem hjl⟩
          obtain ⟨b, off, rfl, hb, c0⟩ := rdP HI1.out (k := j) (by rw [List.length_map]; exact hjl)
          have e0 : (ms.map fun m : Tb => m.1).getD j 0 = Mj := by simp [hmj]
          rw [e0] at c0
          have HC : Hid (∀ W, Below wr.heap.size wr W → W.cell? ⟨b, off + j, none⟩ = some (.pointer (some ⟨Mj, 0, none⟩))) := fun W hW => (hW.cell (p := ⟨b, off + j, none⟩) hb).trans c0
          have HMJ : Hid (Mt (100 + 10 * j) T wr Mj Lj [j] nj false ∧ Good j nj) := HK.out.2.1.mt j _ hmj
          have d0 := HC.out wq HB.out
          have e1 : ((j + 1 : Nat) : Int) - 1 = (j : Int) := by omega
          rw [e1]
          have q1 : (j : Int) < 20 := by omega
          have HKE : Hid (ke j = (⟨#[107]⟩, (j : Int) + 1, false, ⟨#[]⟩)) := by show _ = _; unfold ke; rw [show ((j + 1 : Nat) : Int) = (j : Int) + 1 by omega]
          have HLW : Hid (lM nj = (j : Int) + 1 ∧ (wS nj : Int) = 450 * ((j : Int) + 1)) := ⟨by rw [HMJ.out.2.last]; omega, by rw [HMJ.out.2.wei]; omega⟩
          clear e1 e0 c0 hb hmj hjl
          go_wp2_with (first
            | (go_at_call 25; refine (get_mem (HMJ.out.1.below HB.out) _ _).mono ?_; rintro e wR ⟨rfl, hbR⟩; rw [HMJ.out.2.get, HKE.out]; unfold getV; dsimp only; have HBR : Hid (Below wr.heap.size wr (wR.alloc (.cells #[.string ⟨#[107]⟩, .int .u64 ((j : Int) + 1), .bool false, .string ⟨#[]⟩] 77))) := (HB.out.trans (hbR.mono HB.out.size)).alloc (by have h1 := HB.out.size; have h2 := hbR.size; omega) _; have d1 := HC.out _ HBR.out; clear hbR)
            | (go_at_call 32; refine (last_mem (HMJ.out.1.below HBR.out)).mono ?_; rintro e wS_ ⟨rfl, rfl⟩; rw [HLW.out.1])
            | (go_at_call 31; refine (weight_mem (HMJ.out.1.below HBR.out)).mono ?_; rintro e wS_ ⟨rfl, rfl⟩; rw [HLW.out.2]))
          go_roundw
          case rel =>
            repeat apply Exists.intro
            exact ⟨⟨j, by omega, by go_num, HBR⟩, rfl⟩
          case measure => simp [intOf] <;> omega
end Mem
end Go.Proofs.Ytkofopaejkabhaa
