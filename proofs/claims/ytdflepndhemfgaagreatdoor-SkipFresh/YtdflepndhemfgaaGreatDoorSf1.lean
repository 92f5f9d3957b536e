import Derived.Test.YtdflepndhemfgaaGreatDoorSf0
import Derived.Test.YtdflepndhemfgaaGreatDoorCRw
namespace Go.Proofs.YtdflepndhemfgaaGreatDoor
namespace Sf
open Go.RowKit Laws Irw Erw KMath Skm Byt Sk Crw
set_option linter.unusedVariables false
set_option maxRecDepth 100000
set_option linter.unusedSimpArgs false

def kP : Knd Nat := ⟨25, 1, 8, .pointer none, fun x => [.pointer (some ⟨x, 0, none⟩)], fun _ => rfl, fun x u hu => by simp at hu; subst hu; rfl, by omega, rfl, by omega⟩
theorem infoP : (Tryz.prog.info? 25).map (fun i => (i.zero, i.size, i.bytes)) = some (some kP.zero, 1, 8) := by kernel_rfl
theorem undP : Tryz.prog.underlying 80 = some (.slice 25) := by kernel_rfl
theorem isP_new2 {w : World} {v : Nat} {u : TypeId} {g : Nat} (hg : w.heap.size = g) : IsK kP (w.alloc (.cells #[.pointer (some ⟨v, 0, none⟩)] u)) (some ⟨g, 0, none⟩) [v] := by
  subst hg
  refine IsK.of ⟨by simp, fun i z hz j u hu => ?_⟩
  cases i with
  | zero =>
    simp at hz; subst hz
    rw [World.cell?_alloc_at _ _ _ _ rfl]
    cases j with
    | zero => exact hu
    | succ j => exact absurd hu (by rw [show (kP.cs v)[j + 1]? = none from rfl]; simp)
  | succ i => simp at hz
theorem rdP {w : World} {a : Option Addr} {ks : List Nat} {k : Nat} (h : IsK kP w a ks) (hk : k < ks.length) : ∃ b off, a = some ⟨b, off, none⟩ ∧ b < w.heap.size ∧ w.cell? ⟨b, off + k, none⟩ = some (.pointer (some ⟨ks.getD k 0, 0, none⟩)) := by
  obtain ⟨b, off, e, hr⟩ := h.at_ (by omega)
  have hv : ks[k]? = some (ks.getD k 0) := by simp [hk]
  have hc := hr.2 k _ hv 0 _ rfl
  refine ⟨b, off, e, hr.1, ?_⟩
  have : off + k * kP.size + 0 = off + k := by show off + k * 1 + 0 = _; omega
  rw [this] at hc
  exact hc
def ke (s : Nat) : En := (⟨#[107]⟩, (s : Int), false, ⟨#[]⟩)
/-- a list into which so many were put -/
structure Mn (k m : Nat) (ns : List Nd) : Prop where
  len : ns.length = m
  hts : ∀ nd ∈ ns, nd.h = 1 + k % 12
  mem : ∀ nd ∈ ns, ∃ i, i < m ∧ nd.e = ke i
  all : ∀ i, i < m → ∃ nd ∈ ns, nd.e = ke i
theorem Mn.nil (k : Nat) : Mn k 0 [] := ⟨rfl, by simp, by simp, fun i hi => by omega⟩
theorem hgt_one (k m : Nat) : hgt [k] m = 1 + k % 12 := by
  unfold hgt
  rw [if_neg (by simp)]
  simp [Nat.mod_one]
theorem Mn.put {k m : Nat} {ns ns' : List Nd} {ok : Bool} (h : Mn k m ns) (hp : PutIs [k] ns (ke m) ns' ok) : Mn k (m + 1) ns' := by
  rcases hp with ⟨_, _, nd, hnd, h0⟩ | ⟨_, _, pre, post, b, h1, h2⟩
  · exfalso
    obtain ⟨i, hi, e⟩ := h.mem nd hnd
    rw [e] at h0
    have := ((cmpE_zero_iff _ _ _ _).1 h0).2
    unfold ke at this
    dsimp only at this
    omega
  · subst h1
    subst h2
    have hl := h.len
    refine ⟨by simp at hl ⊢; omega, fun nd hnd => ?_, fun nd hnd => ?_, fun i hi => ?_⟩
    · simp only [List.mem_append, List.mem_cons] at hnd
      rcases hnd with hnd | rfl | hnd
      · exact h.hts nd (by simp [hnd])
      · exact hgt_one k _
      · exact h.hts nd (by simp [hnd])
    · simp only [List.mem_append, List.mem_cons] at hnd
      rcases hnd with hnd | rfl | hnd
      · obtain ⟨i, hi, e⟩ := h.mem nd (by simp [hnd]); exact ⟨i, by omega, e⟩
      · exact ⟨m, by omega, rfl⟩
      · obtain ⟨i, hi, e⟩ := h.mem nd (by simp [hnd]); exact ⟨i, by omega, e⟩
    · by_cases e : i = m
      · subst e; exact ⟨⟨b, ke i, hgt [k] (pre ++ post).length⟩, by simp, rfl⟩
      · obtain ⟨nd, hnd, e2⟩ := h.all i (by omega)
        refine ⟨nd, ?_, e2⟩
        simp only [List.mem_append, List.mem_cons] at hnd ⊢
        rcases hnd with hnd | hnd
        · exact .inl hnd
        · exact .inr (.inr hnd)
theorem cmp_k (i : Nat) : ¬ cmpE (ke i).1 ⟨#[]⟩ (ke i).2.1 0 < 0 := by
  unfold cmpE ke
  dsimp only
  rw [cmpS_gt (by rw [ByteArray.toList_eq, ByteArray.toList_eq]; decide)]
  simp
theorem Mn.seek {j : Nat} {ns : List Nd} (h : Mn j (j + 1) ns) (hs : ns.Pairwise (fun a b => ltE a.e b.e)) : seekV (ns.dropWhile (aheadB ⟨#[]⟩ 0)) = .tuple #[.agg #[.string ⟨#[107]⟩, .int .u64 (j : Int), .bool false, .string ⟨#[]⟩], .bool true] := by
  cases hn : ns with
  | nil => have := h.len; rw [hn] at this; simp at this
  | cons n0 r =>
    obtain ⟨i, hi, e0⟩ := h.mem n0 (by rw [hn]; simp)
    have ha : aheadB ⟨#[]⟩ 0 n0 = false := by
      unfold aheadB
      rw [e0]
      exact decide_eq_false (cmp_k i)
    rw [List.dropWhile_cons, ha, if_neg Bool.false_ne_true]
    have hij : i = j := by
      obtain ⟨nd, hnd, e1⟩ := h.all j (by omega)
      rw [hn] at hnd hs
      rcases List.mem_cons.1 hnd with rfl | hnd
      · rw [e0] at e1
        have := congrArg (fun x : En => x.2.1) e1
        unfold ke at this
        dsimp only at this
        omega
      · have h1 := (List.pairwise_cons.1 hs).1 nd hnd
        unfold ltE at h1
        rw [e0, e1] at h1
        unfold cmpE ke at h1
        dsimp only at h1
        rw [cmpS_self, if_pos rfl] at h1
        unfold cmpN at h1
        split at h1 <;> (try split at h1) <;> omega
    subst hij
    simp only [seekV, e0]
    rfl
abbrev Tb := Nat × List Nd
/-- lists beside one another -/
structure My (T : Nat → Nat) (w : World) (v : Value) (ms : List Tb) : Prop where
  own : OwnK kP 5 T w v (ms.map fun m => m.1)
  mt : ∀ (j : Nat) (m : Tb), ms[j]? = some m → Sl (100 + 10 * j) T w m.1 [j] m.2 ∧ Mn j (j + 1) m.2
theorem My.goes {u : Nat → Prop} {T T' : Nat → Nat} {w w' : World} {v : Value} {ms : List Tb} (h : My T w v ms) (hg : Goes u T w T' w') (h5 : ¬ u 5) (hu : ∀ j, j < ms.length → ¬ u (100 + 10 * j) ∧ ¬ u (100 + 10 * j + 1)) : My T' w' v ms :=
  ⟨h.own.goes hg h5, fun j m hm => by
    have hj := (List.getElem?_eq_some_iff.1 hm).1
    exact ⟨(h.mt j m hm).1.goes hg (hu j hj).1 (hu j hj).2, (h.mt j m hm).2⟩⟩
theorem My.below {T : Nat → Nat} {w w' : World} {v : Value} {ms : List Tb} (h : My T w v ms) (hb : Below w.heap.size w w') : My T w' v ms := h.goes (Goes.below (t := fun _ => False) hb) (fun z => z) (fun _ _ => ⟨fun z => z, fun z => z⟩)
theorem tow_at {j : Nat} {ns : List Nd} (h : Mn j (j + 1) ns) : (ns.map fun n => (n.h : Int))[j]? = some (1 + (j : Int) % 12) := by
  have hj : j < ns.length := by rw [h.len]; omega
  rw [List.getElem?_map, List.getElem?_eq_getElem hj]
  have := h.hts _ (List.getElem_mem hj)
  simp [this]
set_option maxHeartbeats 2000000 in
theorem many_any (w : World) : Calls Tryz.prog 14 #[] w fun e w' => e = .returned (.bool true) ∧ Below w.heap.size w w' := by
  obtain ⟨i0, hi0, hz0, hz1, hz2⟩ := info_parts infoP
  go_enter Tryz.func14, Tryz.ntmps14
  go_wp2
  go_loopw [1, 2, 3, 4] (fun v i _ _ wr => ∃ (k : Nat) (T : Nat → Nat) (ms : List Tb), k ≤ 20 ∧ i = .int .i64 (k : Int) ∧ Hid (Old w T wr ∧ My T wr v ms ∧ ms.length = k)) (fun _ i _ _ _ => 20 - (intOf i).toNat)
  case atStart => exact ⟨0, fun _ => 0, [], Nat.zero_le _, rfl, Old.first _, ⟨OwnK.empty _ _ _, fun j m h => by simp at h⟩, rfl⟩
  case round =>
    obtain ⟨k, T, ms, hk, rfl, HK⟩ := hrel
    by_cases hlt : k < 20
    · have q1 : (k : Int) < 20 := by omega
      have q2 : (k : Int) % 256 = (k : Int) := by omega
      have HAL : Hid (Below wr.heap.size wr (wr.alloc (.cells #[.int .u8 (k : Int)] 5))) := (Below.refl _ _).alloc (Nat.le_refl _) _
      have HNW : Hid (Calls Tryz.prog 15 #[.slice (some ⟨wr.heap.size, 0, none⟩) 1 1] (wr.alloc (.cells #[.int .u8 (k : Int)] 5)) fun e w' => ∃ L T', e = .returned (.pointer (some ⟨L, 0, none⟩)) ∧ Sl (100 + 10 * k) T' w' L [k] [] ∧ Goes (fun _ => False) T (wr.alloc (.cells #[.int .u8 (k : Int)] 5)) T' w') := (new_any (100 + 10 * k) T _ _ 1 1 [k] (isB_new rfl (by omega)) rfl (by simp) (by simp)).mono fun e w' ⟨L, T', h1, _, h2, h3⟩ => ⟨L, T', h1, h2, h3⟩
      go_wp2_with (go_at_call 15; refine HNW.out.mono ?_; rintro e w3 ⟨L, T3, rfl, hm3, hg3⟩; have HM3 : Hid (Sl (100 + 10 * k) T3 w3 L [k] [] ∧ Old w T3 w3 ∧ My T3 w3 u1 ms) := ⟨hm3, (HK.out.1.goes (Goes.below (t := fun _ => False) HAL.out) (fun z => z)).goes hg3 (fun z => z), (HK.out.2.1.below HAL.out).goes hg3 (fun z => z) (fun _ _ => ⟨fun z => z, fun z => z⟩)⟩; clear hm3 hg3)
      go_loopw [4] (fun j wq => ∃ (m : Nat) (Tm : Nat → Nat) (ns : List Nd), m ≤ k + 1 ∧ j = .int .i64 (m : Int) ∧ Hid (Sl (100 + 10 * k) Tm wq L [k] ns ∧ Old w Tm wq ∧ My Tm wq u1 ms ∧ Mn k m ns)) (fun j _ => k + 1 - (intOf j).toNat)
      case atStart => exact ⟨0, T3, [], Nat.zero_le _, rfl, HM3.out.1, HM3.out.2.1, HM3.out.2.2, Mn.nil k⟩
      case round =>
        clear HM3
        obtain ⟨m, Tm, ns, hm, rfl, HQ⟩ := hrel
        rename World => wq
        by_cases hlm : m < k + 1
        · have p1 : (m : Int) ≤ (k : Int) := by omega
          have HAD : Hid (Calls Tryz.prog 16 #[.pointer (some ⟨L, 0, none⟩), .agg #[.string ⟨#[107]⟩, .int .u64 (m : Int), .bool false, .string ⟨#[]⟩]] wq fun r w' => ∃ ok, r = .returned (.bool ok) ∧ ∃ T' ns', Sl (100 + 10 * k) T' w' L [k] ns' ∧ Goes (· = 100 + 10 * k) Tm wq T' w' ∧ Mn k (m + 1) ns') := by
            refine (put_any (100 + 10 * k) Tm wq L [k] ns (ke m) HQ.out.1 (by omega) (by simp) (by have := HQ.out.2.2.2.len; omega)).mono ?_
            rintro r w' ⟨ok, hr, T', ns', h1, h2, h3⟩
            exact ⟨ok, hr, T', ns', h1, h2, HQ.out.2.2.2.put h3⟩
          go_wp2_with (go_at_call 16; refine HAD.out.mono ?_; rintro e w5 ⟨ok, rfl, T5, n5, h1, h2, h3⟩; have H5 : Hid (Sl (100 + 10 * k) T5 w5 L [k] n5 ∧ Old w T5 w5 ∧ My T5 w5 u1 ms ∧ Mn k (m + 1) n5) := ⟨h1, HQ.out.2.1.goes h2 (by omega), HQ.out.2.2.1.goes h2 (by omega) (fun j hj => by have := HK.out.2.2; omega), h3⟩; clear h1 h2 h3)
          go_roundw
          case rel => exact ⟨m + 1, T5, n5, by omega, by go_num, H5⟩
          case measure => simp [intOf]; omega
        · obtain rfl : m = k + 1 := by omega
          have p1 : ¬ ((k + 1 : Nat) : Int) ≤ (k : Int) := by omega
          have hlen1 : (ms.map fun m => m.1).length = k := by rw [List.length_map]; exact HK.out.2.2
          obtain ⟨a1, c1, e1, _⟩ := HQ.out.2.2.1.own.form
          rw [hlen1] at e1
          subst e1
          obtain ⟨PL, hPL⟩ : ∃ PL, (ms.map fun m => m.1) = PL := ⟨_, rfl⟩
          have HPL : Hid ((ms.map fun m => m.1) = PL ∧ PL.length = k) := ⟨hPL, by rw [← hPL]; exact hlen1⟩
          have HOW : Hid (OwnK kP 5 Tm wq (.slice a1 k c1) PL) := by rw [← hPL]; exact HQ.out.2.2.1.own
          clear hlen1 hPL
          go_wp2_with (at_builtin; go_loud (refine wpList_appK kP _ (by rfl) (.tmp 29) (.tmp 31) 80 (by rfl) i0 undP hi0 hz0 hz1 hz2 5 Tm (.slice a1 k c1) PL (by rfl) (HOW.out.below ((Below.refl _ _).alloc (Nat.le_refl _) _)) (some ⟨wq.heap.size, 0, none⟩) 1 1 [L] (by rfl) (by rfl) (by simp) (isP_new2 (by simp)) (by have := HPL.out.2; simp; omega) ?_; intro a7 c7 T7 w7 hown7 hgo7; have hall : Below wq.heap.size wq (wq.alloc (.cells #[.pointer (some ⟨L, 0, none⟩)] 25)) := (Below.refl _ _).alloc (Nat.le_refl _) _; have HO7 : Hid (Old w T7 w7 ∧ OwnK kP 5 T7 w7 _ _ ∧ Goes (· = 5) Tm wq T7 w7) := ⟨(HQ.out.2.1.goes (Goes.below (t := (· = 5)) hall) (by omega)).goes hgo7 (by omega), hown7, (Goes.below hall).trans hgo7⟩; clear hown7 hgo7 hall))
          go_roundw
          case rel =>
            refine ⟨k + 1, T7, ms ++ [(L, ns)], by omega, by go_num, HO7.out.1, ⟨?_, fun j mm hj => ?_⟩, by rw [List.length_append, HK.out.2.2]; rfl⟩
            · rw [List.map_append, HPL.out.1]
              exact HO7.out.2.1
            · rcases Nat.lt_trichotomy j k with hjk | hjk | hjk
              · rw [List.getElem?_append_left (by rw [HK.out.2.2]; exact hjk)] at hj
                exact ⟨(HQ.out.2.2.1.mt j mm hj).1.goes HO7.out.2.2 (by omega) (by omega), (HQ.out.2.2.1.mt j mm hj).2⟩
              · subst hjk
                rw [← HK.out.2.2, List.getElem?_concat_length] at hj
                cases hj
                exact ⟨HQ.out.1.goes HO7.out.2.2 (by omega) (by omega), HQ.out.2.2.2⟩
              · rw [List.getElem?_eq_none (by simp; have := HK.out.2.2; omega)] at hj
                cases hj
          case measure => simp [intOf]; omega
    · obtain rfl : k = 20 := by omega
      obtain ⟨a1, c1, e1, hi1, _⟩ := HK.out.2.1.own.form
      have hlen1 : (ms.map fun m => m.1).length = 20 := by rw [List.length_map]; exact HK.out.2.2
      rw [hlen1] at e1
      subst e1
      have HI1 : Hid (IsK kP wr a1 (ms.map fun m => m.1)) := hi1
      clear hi1 hlen1
      go_wp2
      go_loopw [5, 6, 7, 8] (fun i _ _ _ wq => ∃ (p : Nat), p ≤ 20 ∧ i = .int .i64 ((p : Int) - 1) ∧ Hid (Below wr.heap.size wr wq)) (fun i _ _ _ _ => (intOf i + 1).toNat)
      case atStart => exact ⟨20, Nat.le_refl _, rfl, Below.refl _ _⟩
      case round =>
        obtain ⟨p, hp, rfl, HB⟩ := hrel
        rename World => wq
        cases p with
        | zero =>
          have e00 : ((0 : Nat) : Int) - 1 = -1 := rfl
          rw [e00]
          clear e00
          go_wp2
          go_ret
          exact ⟨rfl, HK.out.1.below.trans (HB.out.mono HK.out.1.below.size)⟩
        | succ j =>
          have hjl : j < ms.length := by rw [HK.out.2.2]; omega
          obtain ⟨⟨Lj, nj⟩, hmj⟩ : ∃ m, ms[j]? = some m := ⟨_, List.getElem?_eq_getElem hjl⟩
          obtain ⟨b, off, rfl, hb, c0⟩ := rdP HI1.out (k := j) (by rw [List.length_map]; exact hjl)
          have e0 : (ms.map fun m : Tb => m.1).getD j 0 = Lj := by simp [hmj]
          rw [e0] at c0
          have HC : Hid (∀ W, Below wr.heap.size wr W → W.cell? ⟨b, off + j, none⟩ = some (.pointer (some ⟨Lj, 0, none⟩))) := fun W hW => (hW.cell (p := ⟨b, off + j, none⟩) hb).trans c0
          have HMJ : Hid (Sl (100 + 10 * j) T wr Lj [j] nj ∧ Mn j (j + 1) nj) := HK.out.2.1.mt j _ hmj
          have d0 := HC.out wq HB.out
          have e1 : ((j + 1 : Nat) : Int) - 1 = (j : Int) := by omega
          rw [e1]
          have q1 : (j : Int) < 20 := by omega
          have HLN : Hid ((nj.length : Int) = (j : Int) + 1) := by rw [HMJ.out.2.len]; show ((j + 1 : Nat) : Int) = _; omega
          clear e1 e0 c0 hb hmj hjl
          go_wp2_with (first
            | (go_at_call 17; refine (seek_any (HMJ.out.1.below HB.out) _ _).mono ?_; rintro e wR ⟨rfl, hbR⟩; rw [HMJ.out.2.seek HMJ.out.1.sorted]; have HBR : Hid (Below wr.heap.size wr (wR.alloc (.cells #[.string ⟨#[107]⟩, .int .u64 (j : Int), .bool false, .string ⟨#[]⟩] 61))) := (HB.out.trans (hbR.mono HB.out.size)).alloc (by have h1 := HB.out.size; have h2 := hbR.size; omega) _; have d1 := HC.out _ HBR.out; clear hbR)
            | (go_at_call 6; fail))
          have HEB : Hid ((wR.alloc (.cells #[.string ⟨#[107]⟩, .int .u64 (j : Int), .bool false, .string ⟨#[]⟩] 61)).cell? ⟨wR.heap.size, 0, none⟩ = some (.string ⟨#[107]⟩) ∧ (wR.alloc (.cells #[.string ⟨#[107]⟩, .int .u64 (j : Int), .bool false, .string ⟨#[]⟩] 61)).cell? ⟨wR.heap.size, 1, none⟩ = some (.int .u64 (j : Int)) ∧ wR.heap.size < (wR.alloc (.cells #[.string ⟨#[107]⟩, .int .u64 (j : Int), .bool false, .string ⟨#[]⟩] 61)).heap.size) := ⟨by rw [World.cell?_alloc_at _ _ _ _ rfl]; rfl, by rw [World.cell?_alloc_at _ _ _ _ rfl]; rfl, by simp⟩
          clear d0 d1
          generalize (wR.alloc (.cells #[.string ⟨#[107]⟩, .int .u64 (j : Int), .bool false, .string ⟨#[]⟩] 61)) = wE at *
          refine (towersO (HMJ.out.1.below HBR.out) (n := j + 1) HMJ.out.2.len (by omega)).mono ?_
          rintro e wT ⟨g, rfl, hgT, hbT, hoT⟩
          have HBT : Hid (Below wr.heap.size wr wT) := HBR.out.trans (hbT.mono HBR.out.size)
          have d2 := HC.out _ HBT.out
          have t0 : wT.cell? ⟨g, j, none⟩ = some (.int .i64 (1 + (j : Int) % 12)) := by
            rw [hoT.cellAt j (by omega)]
            show ((nj.map fun n => (n.h : Int)).map fun x => Value.int .i64 x)[j]? = _
            rw [List.getElem?_map, tow_at HMJ.out.2]
            rfl
          have f0 := (hbT.cell (p := ⟨wR.heap.size, 0, none⟩) HEB.out.2.2).trans HEB.out.1
          have f1 := (hbT.cell (p := ⟨wR.heap.size, 1, none⟩) HEB.out.2.2).trans HEB.out.2.1
          have qn : ((j + 1 : Nat) : Int) = (j : Int) + 1 := by omega
          have qm : Int.tmod (j : Int) 12 = (j : Int) % 12 := Int.tmod_eq_emod_of_nonneg (by omega)
          have q3 : (0 : Int) ≤ (j : Int) % 12 ∧ (j : Int) % 12 ≤ 11 := by omega
          have q4 := q3.1
          have q5 := q3.2
          have q6 : j < j + 1 := by omega
          have q7 : (j : Int) < (j : Int) + 1 := by omega
          clear hgT hbT hoT HEB q3
          dsimp only
          go_wp2_with (first
            | (go_at_call 18; refine (len_any _ _ _ _ _ _ (HMJ.out.1.below HBT.out)).mono ?_; rintro e w' ⟨rfl, hw⟩; have hw2 := hw.symm; clear hw; subst hw2; rw [HLN.out]))
          go_roundw
          case rel =>
            repeat apply Exists.intro
            exact ⟨⟨j, by omega, by go_num, HBT⟩, rfl⟩
          case measure => simp [intOf] <;> omega
end Sf
end Go.Proofs.YtdflepndhemfgaaGreatDoor
