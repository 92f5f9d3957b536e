import Derived.Test.YtkofopaejkabhaaMo1
import Derived.Deep.RegionHeld3
import Derived.Deep.DeepCutAuto
namespace Go.Proofs.Ytkofopaejkabhaa
namespace MemOrder
open Go.RowKit Laws Irw Erw KMath Skm Byt Sk Grp Mem Crw
set_option linter.unusedVariables false
set_option maxRecDepth 100000
set_option linter.unusedSimpArgs false

theorem rdU {w : World} {a : Option Addr} {first : Nat} {gs : List (List Chk.Wr)} {n k : Nat} (h : IsK kU w a (nums first gs n)) (hk : k < n) : ∃ b off, a = some ⟨b, off, none⟩ ∧ b < w.heap.size ∧ w.cell? ⟨b, off + k, none⟩ = some (.int .u64 ((first + Grp.off gs k : Nat) : Int)) := by
  obtain ⟨b, off, e, hr⟩ := h.at_ (by rw [nums_len]; omega)
  have hv : (nums first gs n)[k]? = some ((first + Grp.off gs k : Nat) : Int) := by simp [nums, hk]
  have hc := hr.2 k _ hv 0 _ rfl
  refine ⟨b, off, e, hr.1, ?_⟩
  have : off + k * kU.size + 0 = off + k := by show off + k * 1 + 0 = _; omega
  rw [this] at hc
  exact hc
def uu (x : Nat) : Prop := uM 10 x ∨ uM 20 x
theorem uu0 : ¬ uu 0 := by unfold uu uM; omega
/-- where the loop stands behind k rounds -/
structure Lp (w3 w6 : World) (T5 T : Nat → Nat) (w : World) (Mt_ Lt Mu Lu : Nat) (ds os : List Nat) (gs : List (List Chk.Wr)) (n1 n2 : List Nd) (k1 k2 : Nat) : Prop where
  t : Mt 10 T w Mt_ Lt ds n1 false
  u : Mt 20 T w Mu Lu os n2 false
  go : Goes uu T5 w6 T w
  old : Old w3 T w
  a1 : Adds ds [] (fwd 1 gs k1) n1
  a2 : Adds os [] (rvs 1 gs k2) n2
variable {w3 w6 : World} {T5 T : Nat → Nat} {w w' : World} {Mt_ Lt Mu Lu : Nat} {ds os : List Nat} {gs : List (List Chk.Wr)} {n1 n2 : List Nd} {k1 k2 : Nat}
theorem Lp.below (h : Lp w3 w6 T5 T w Mt_ Lt Mu Lu ds os gs n1 n2 k1 k2) (hb : Below w.heap.size w w') : Lp w3 w6 T5 T w' Mt_ Lt Mu Lu ds os gs n1 n2 k1 k2 :=
  ⟨h.t.below hb, h.u.below hb, h.go.trans (Goes.below hb), h.old.goes (Goes.below (t := fun _ => False) hb) (fun z => z), h.a1, h.a2⟩
theorem rvs_len (hb : Bs gs) : ∀ k, (rvs 1 gs k).length ≤ 16 * k := by
  intro k
  induction k with
  | zero => simp [rvs]
  | succ k ih =>
    rw [rvs_succ, List.length_append]
    have : (bt 1 gs (gs.length - 1 - k)).length ≤ 16 := by
      unfold bt
      rw [Ents.ents_length]
      by_cases h : gs.length - 1 - k < gs.length
      · exact hb.l16 _ (Bs.mem h)
      · have : gs.getD (gs.length - 1 - k) [] = [] := by simp [List.getD, List.getElem?_eq_none (by omega : gs.length ≤ gs.length - 1 - k)]
        rw [this]; simp
    omega
theorem Lp.addT (h : Lp w3 w6 T5 T w Mt_ Lt Mu Lu ds os gs n1 n2 k1 k2) (hb : Bs gs) (hds : ds.length ≤ 140737488355328) (hk : k1 < gs.length) {ad : Option Addr} {m c : Nat} (hw : Chk.IsWr w3 ad (gs.getD k1 [])) (hm : (gs.getD k1 []).length = m) {F : Int} (hF : ((1 + Grp.off gs k1 : Nat) : Int) = F) :
    Calls Try.prog 22 #[.pointer (some ⟨Mt_, 0, none⟩), .int .u64 F, .slice ad m c] w fun r w' => r = .returned (.int .i64 0) ∧ ∃ T' n1', Lp w3 w6 T5 T' w' Mt_ Lt Mu Lu ds os gs n1' n2 (k1 + 1) k2 := by
  have hl : n1.length ≤ 100000000 := by
    have q1 := h.a1.len
    rw [fwd_len 1 gs k1 (by omega)] at q1
    have q2 := off_le hb.l16 k1 (by omega)
    have := hb.len
    simp at q1
    omega
  refine (add_any 10 T w Mt_ Lt ds n1 false h.t (by omega) hds hl (fun b hb' => h.old.zero b (.inr hb')) F ad c m (gs.getD k1 []) (hw.below h.old.below) hm).mono ?_
  have he : addE false (gs.getD k1 []) = 0 := hb.errB hk
  rintro r w' ⟨rfl, T', n1', h1, h2, h3⟩
  rw [he]
  refine ⟨rfl, T', n1', h1, h.u.goes h2 (by unfold uM; omega) (by unfold uM; omega) (by unfold uM; omega), h.go.trans (h2.mono fun x hx => .inl hx), h.old.goes h2 (by unfold uM; omega), ?_, h.a2⟩
  rcases h3 with ⟨_, h3⟩ | ⟨h3, _⟩
  · rw [fwd_succ]
    unfold bt
    rw [hF]
    exact h.a1.append h3
  · exact absurd he h3
theorem Lp.addU (h : Lp w3 w6 T5 T w Mt_ Lt Mu Lu ds os gs n1 n2 k1 k2) (hb : Bs gs) (hds : os.length ≤ 140737488355328) (hk : k2 < gs.length) {J : Nat} (hJ : gs.length - 1 - k2 = J) {ad : Option Addr} {m c : Nat} (hw : Chk.IsWr w3 ad (gs.getD J [])) (hm : (gs.getD J []).length = m) {F : Int} (hF : ((1 + Grp.off gs J : Nat) : Int) = F) :
    Calls Try.prog 22 #[.pointer (some ⟨Mu, 0, none⟩), .int .u64 F, .slice ad m c] w fun r w' => r = .returned (.int .i64 0) ∧ ∃ T' n2', Lp w3 w6 T5 T' w' Mt_ Lt Mu Lu ds os gs n1 n2' k1 (k2 + 1) := by
  have hl : n2.length ≤ 100000000 := by
    have q1 := h.a2.len
    have q2 := rvs_len hb k2
    have := hb.len
    simp at q1
    omega
  refine (add_any 20 T w Mu Lu os n2 false h.u (by omega) hds hl (fun b hb' => h.old.zero b (.inr hb')) F ad c m (gs.getD J []) (hw.below h.old.below) hm).mono ?_
  have he : addE false (gs.getD J []) = 0 := hb.errB (by omega)
  rintro r w' ⟨rfl, T', n2', h1, h2, h3⟩
  rw [he]
  refine ⟨rfl, T', n2', h.t.goes h2 (by unfold uM; omega) (by unfold uM; omega) (by unfold uM; omega), h1, h.go.trans (h2.mono fun x hx => .inr hx), h.old.goes h2 (by unfold uM; omega), h.a1, ?_⟩
  rcases h3 with ⟨_, h3⟩ | ⟨h3, _⟩
  · rw [rvs_succ, hJ]
    unfold bt
    rw [hF]
    exact h.a2.append h3
  · exact absurd he h3
theorem Lp.num (h : Lp w3 w6 T5 T w Mt_ Lt Mu Lu ds os gs n1 n2 k1 k2) {b j : Nat} {v : Value} (hb : b < w6.heap.size) (h0 : T5 b = 0) (hc : w6.cell? ⟨b, j, none⟩ = some v) : w.cell? ⟨b, j, none⟩ = some v := (h.go.cell hb (by rw [h0]; exact uu0)).trans hc
theorem Lp.grp (h : Lp w3 w6 T5 T w Mt_ Lt Mu Lu ds os gs n1 n2 k1 k2) {b j : Nat} {v : Value} (hb : b < w3.heap.size) (hc : w3.cell? ⟨b, j, none⟩ = some v) : w.cell? ⟨b, j, none⟩ = some v := (h.old.below.cell (p := ⟨b, j, none⟩) hb).trans hc
set_option maxHeartbeats 4000000 in
theorem walk (w : World) (ad : Option Addr) (cd : Nat) (ds : List Nat) (hd : IsB w ad ds) (hdn : ad = none → cd = 0) (hd47 : ds.length ≤ 140737488355328) (ao : Option Addr) (co : Nat) (os : List Nat) (ho : IsB w ao os) (hon : ao = none → co = 0) (ho47 : os.length ≤ 140737488355328)
    (a : Option Addr) (c n0 : Nat) (gs0 : List (List Chk.Wr)) (hn : gs0.length = n0) (hmx : (n0 : Int) ≤ 9223372036854775807) (hg : IsG w a gs0) :
    Calls Try.prog 6 #[.slice ad ds.length cd, .slice ao os.length co, .slice a n0 c] w fun e w' => e = .returned (.bool true) ∧ Below w.heap.size w w' := by
  have HD : Hid (IsB w ad ds ∧ (ad = none → cd = 0) ∧ ds.length ≤ 140737488355328) := ⟨hd, hdn, hd47⟩
  have HO : Hid (IsB w ao os ∧ (ao = none → co = 0) ∧ os.length ≤ 140737488355328) := ⟨ho, hon, ho47⟩
  have HG0 : Hid (IsG w a gs0 ∧ gs0.length = n0) := ⟨hg, hn⟩
  obtain ⟨D, hD⟩ : ∃ D, ds.length = D := ⟨_, rfl⟩
  obtain ⟨O, hO⟩ : ∃ O, os.length = O := ⟨_, rfl⟩
  have HDO : Hid (ds.length = D ∧ os.length = O) := ⟨hD, hO⟩
  rw [hD, hO]
  clear hd hdn hd47 ho hon ho47 hg hn hD hO
  go_enter Try.func6, Try.ntmps6
  go_wp2_with (first
    | (go_at_call 18; refine (known_any w).mono ?_; rintro e w1 ⟨rfl, hb1⟩; have HB1 : Hid (Below w.heap.size w w1) := hb1; clear hb1)
    | fail)
  refine (groups_any w1 a c n0 gs0 HG0.out.2 hmx (HG0.out.1.below HB1.out)).mono ?_
  rintro e w2 ⟨few, rfl, hb2⟩
  have HB2 : Hid (Below w.heap.size w w2) := HB1.out.trans (hb2.mono HB1.out.size)
  clear hb2 HB1
  cases few with
  | false =>
    go_wp2
    go_ret
    exact ⟨rfl, HB2.out⟩
  | true =>
    go_wp2_with fail
    refine (batches_any w2 a c n0 gs0 HG0.out.2 hmx (HG0.out.1.below HB2.out)).mono ?_
    rintro e w3 ⟨ag, cg, rfl, hg3, _, hb3⟩
    obtain ⟨gs, hgs⟩ : ∃ gs, (gs0.take 60).map rightL = gs := ⟨_, rfl⟩
    have HBS : Hid (Bs gs) := by rw [← hgs]; exact Bs.of gs0
    rw [hgs] at hg3 ⊢
    obtain ⟨N, hN⟩ : ∃ N, gs.length = N := ⟨_, rfl⟩
    rw [hN]
    have HG3 : Hid (IsG w3 ag gs ∧ gs.length = N) := ⟨hg3, hN⟩
    have HB3 : Hid (Below w.heap.size w w3) := HB2.out.trans (hb3.mono HB2.out.size)
    have hN60 : N ≤ 60 := by rw [← hN]; exact HBS.out.len
    have hNi : (N : Int) ≤ 60 := by omega
    clear hg3 hN hgs hb3 HB2 HG0 hmx
    go_wp2_with fail
    refine (new_mem 10 (fun _ => 0) w3 ad D cd ds (HD.out.1.below HB3.out) HDO.out.1.symm HD.out.2.1 HD.out.2.2 (fun _ _ => rfl)).mono ?_
    rintro e w4 ⟨Mt_, Lt, T4, rfl, hmt4, hgo4⟩
    have HM4 : Hid (Mt 10 T4 w4 Mt_ Lt ds [] false ∧ Old w3 T4 w4) := ⟨hmt4, (Old.first w3).goes hgo4 (fun z => z)⟩
    clear hmt4 hgo4
    go_wp2_with fail
    refine (new_mem 20 T4 w4 ao O co os (HO.out.1.below (HB3.out.trans (HM4.out.2.below.mono HB3.out.size))) HDO.out.2.symm HO.out.2.1 HO.out.2.2 (fun b hb => HM4.out.2.zero b (.inr hb))).mono ?_
    rintro e w5 ⟨Mu, Lu, T5, rfl, hmu5, hgo5⟩
    have HM5 : Hid (Mt 10 T5 w5 Mt_ Lt ds [] false ∧ Mt 20 T5 w5 Mu Lu os [] false ∧ Old w3 T5 w5) := ⟨HM4.out.1.goes hgo5 (fun z => z) (fun z => z) (fun z => z), hmu5, HM4.out.2.goes hgo5 (fun z => z)⟩
    clear hmu5 hgo5 HM4
    go_wp2_with fail
    refine (numbered_any w5 1 (by omega) ag cg N gs HG3.out.2 hN60 HBS.out.l16 (HG3.out.1.below HM5.out.2.2.below)).mono ?_
    rintro e w6 ⟨af, cf, rfl, hnu, hfr, hb6⟩
    have HLP0 : Hid (Lp w3 w6 T5 T5 w6 Mt_ Lt Mu Lu ds os gs [] [] 0 0) := ⟨HM5.out.1.below hb6, HM5.out.2.1.below hb6, Goes.refl _ _ _, HM5.out.2.2.goes (Goes.below (t := fun _ => False) hb6) (fun z => z), by simp only [fwd, List.range_zero, List.map_nil, List.flatten_nil]; exact .nil, by simp only [rvs, List.range_zero, List.map_nil, List.flatten_nil]; exact .nil⟩
    have HNU : Hid (IsK kU w6 af (nums 1 gs N) ∧ ∀ b off, af = some ⟨b, off, none⟩ → T5 b = 0) := ⟨hnu, fun b off e => HM5.out.2.2.zero b (.inr (hfr b off e))⟩
    clear hnu hfr hb6 HM5
    go_wp2
    go_loopw [10, 11] (fun wt i wr => ∃ (k : Nat) (T : Nat → Nat) (n1 n2 : List Nd), k ≤ N ∧ i = .int .i64 (k : Int) ∧ wt = .int .i64 (tw gs k : Int) ∧ Hid (Lp w3 w6 T5 T wr Mt_ Lt Mu Lu ds os gs n1 n2 k k)) (fun _ i _ => N - (intOf i).toNat)
    case atStart => exact ⟨0, T5, [], [], Nat.zero_le _, rfl, by simp [tw], HLP0⟩
    case round =>
      clear HLP0
      obtain ⟨k, T, n1, n2, hk, rfl, rfl, HK⟩ := hrel
      rename World => wr
      by_cases hlt : k < N
      · obtain ⟨J, hJ⟩ : ∃ J, N - 1 - k = J := ⟨_, rfl⟩
        have hJN : J < N := by omega
        have hkl : k < gs.length := by rw [HG3.out.2]; exact hlt
        have hJl : J < gs.length := by rw [HG3.out.2]; exact hJN
        obtain ⟨bg, og, ad1, c1, rfl, hbg, g1, hw1⟩ := HG3.out.1.rd hkl
        obtain ⟨bg', og', ad2, c2, e2, _, g2, hw2⟩ := HG3.out.1.rd hJl
        obtain ⟨bf, of, rfl, hbf, f1⟩ := rdU HNU.out.1 hlt
        obtain ⟨bf', of', e3, _, f2⟩ := rdU HNU.out.1 hJN
        cases e2
        cases e3
        obtain ⟨m1, hm1⟩ : ∃ m, (gs.getD k []).length = m := ⟨_, rfl⟩
        obtain ⟨m2, hm2⟩ : ∃ m, (gs.getD J []).length = m := ⟨_, rfl⟩
        obtain ⟨F1, hF1⟩ : ∃ F, ((1 + Grp.off gs k : Nat) : Int) = F := ⟨_, rfl⟩
        obtain ⟨F2, hF2⟩ : ∃ F, ((1 + Grp.off gs J : Nat) : Int) = F := ⟨_, rfl⟩
        rw [hm1] at g1
        rw [hm2] at g2
        rw [hF1] at f1
        rw [hF2] at f2
        have hT5 := HNU.out.2 bf of rfl
        have HAT : Hid (∀ W, Lp w3 w6 T5 T W Mt_ Lt Mu Lu ds os gs n1 n2 k k → Calls Try.prog 22 #[.pointer (some ⟨Mt_, 0, none⟩), .int .u64 F1, .slice ad1 m1 c1] W fun r w' => r = .returned (.int .i64 0) ∧ ∃ T' n1', Lp w3 w6 T5 T' w' Mt_ Lt Mu Lu ds os gs n1' n2 (k + 1) k) := fun W hW => hW.addT HBS.out HD.out.2.2 hkl hw1 hm1 hF1
        have HAU : Hid (∀ W T n1, Lp w3 w6 T5 T W Mt_ Lt Mu Lu ds os gs n1 n2 (k + 1) k → Calls Try.prog 22 #[.pointer (some ⟨Mu, 0, none⟩), .int .u64 F2, .slice ad2 m2 c2] W fun r w' => r = .returned (.int .i64 0) ∧ ∃ T' n2', Lp w3 w6 T5 T' w' Mt_ Lt Mu Lu ds os gs n1 n2' (k + 1) (k + 1)) := fun W T n1 hW => hW.addU HBS.out HO.out.2.2 hkl (by rw [HG3.out.2]; exact hJ) hw2 hm2 hF2
        have HSC : Hid (∀ W T n1 n2 k1 k2, Lp w3 w6 T5 T W Mt_ Lt Mu Lu ds os gs n1 n2 k1 k2 → W.cell? ⟨bf, of + k, none⟩ = some (.int .u64 F1) ∧ W.cell? ⟨bg, og + k, none⟩ = some (.slice ad1 m1 c1) ∧ W.cell? ⟨bf, of + J, none⟩ = some (.int .u64 F2) ∧ W.cell? ⟨bg, og + J, none⟩ = some (.slice ad2 m2 c2)) := fun W T n1 n2 k1 k2 hW => ⟨hW.num hbf hT5 f1, hW.grp hbg g1, hW.num hbf hT5 f2, hW.grp hbg g2⟩
        have HW1 : Hid (Chk.IsWr w3 ad1 (gs.getD k []) ∧ (gs.getD k []).length = m1) := ⟨hw1, hm1⟩
        have q1 : (k : Int) < (N : Int) := by omega
        have q2 : (J : Int) < (N : Int) := by omega
        have q3 : (N : Int) - 1 - (k : Int) = (J : Int) := by omega
        have q4 : IntKind.i64.wrap ((N : Int) - 1) = (N : Int) - 1 := IntWalk.i64_in _ (by omega)
        have q5 : IntKind.i64.wrap ((N : Int) - 1 - (k : Int)) = (J : Int) := by rw [q3]; exact IntWalk.i64_in _ (by omega)
        have q6 : IntKind.i64.wrap (J : Int) = (J : Int) := IntWalk.i64_in _ (by omega)
        clear hw1 hw2 hm1 hm2 hF1 hF2 f1 f2 g1 g2 hbg hbf hT5 hkl hJl hJ
        go_wp2
        go_region_held3 (fun W => W.cell? ⟨bf, of + k, none⟩ = some (.int .u64 F1) ∧ W.cell? ⟨bg, og + k, none⟩ = some (.slice ad1 m1 c1) ∧ W.cell? ⟨bf, of + J, none⟩ = some (.int .u64 F2) ∧ W.cell? ⟨bg, og + J, none⟩ = some (.slice ad2 m2 c2)) (first | assumption | exact HSC.out _ _ _ _ _ _ (HK.out.below (Below.refl _ _).drew))
          (first
            | (go_at_call_of 22 (Value.pointer (some ⟨Mt_, 0, none⟩)); refine (HAT.out _ ?_).mono ?_; exact HK.out.below (Below.refl _ _).drew; rintro r w7 ⟨rfl, T7, n7, hl7⟩; have HL7 : Hid (Lp w3 w6 T5 T7 w7 Mt_ Lt Mu Lu ds os gs n7 n2 (k + 1) k) := hl7; have hS7 := HSC.out _ _ _ _ _ _ hl7; clear hl7)
            | (go_at_call_of 22 (Value.pointer (some ⟨Mu, 0, none⟩)); refine (HAU.out _ _ _ HL7.out).mono ?_; rintro r w8 ⟨rfl, T8, n8, hl8⟩; have HL8 : Hid (Lp w3 w6 T5 T8 w8 Mt_ Lt Mu Lu ds os gs n7 n8 (k + 1) (k + 1)) := hl8; have hS8 := HSC.out _ _ _ _ _ _ hl8; clear hl8))
        have HSC1 : Hid (∀ W T n1 n2 k1 k2, Lp w3 w6 T5 T W Mt_ Lt Mu Lu ds os gs n1 n2 k1 k2 → W.cell? ⟨bg, og + k, none⟩ = some (.slice ad1 m1 c1)) := fun W T n1 n2 k1 k2 hW => (HSC.out W T n1 n2 k1 k2 hW).2.1
        have HTW : Hid (tw gs (k + 1) = tw gs k + bw (gs.getD k []) m1 ∧ (tw gs k : Int) ≤ 1044480) := by
          have h1 := tw_succ (gs := gs) (i := k) (by rw [HG3.out.2]; exact hlt)
          rw [HW1.out.2] at h1
          have h2 := tw_le HBS.out k (by rw [HG3.out.2]; omega)
          exact ⟨h1, by omega⟩
        have hm16 : m1 ≤ 16 := by
          rw [← HW1.out.2]
          exact HBS.out.l16 _ (Bs.mem (by rw [HG3.out.2]; exact hlt))
        clear HK HL7 hS7 hS8 HSC HAT HAU q2 q3 q4 q5 q6
        go_wp2
        go_loopw [10, 13] (fun wt i wq => ∃ (m : Nat), m ≤ m1 ∧ i = .int .i64 (m : Int) ∧ wt = .int .i64 ((tw gs k + bw (gs.getD k []) m : Nat) : Int) ∧ Hid (Lp w3 w6 T5 T8 wq Mt_ Lt Mu Lu ds os gs n7 n8 (k + 1) (k + 1))) (fun _ i _ => m1 - (intOf i).toNat)
        case atStart => exact ⟨0, Nat.zero_le _, rfl, by simp [bw], HL8⟩
        case round =>
          clear HL8
          obtain ⟨m, hm, rfl, rfl, HQ⟩ := hrel
          rename World => wq
          have hcq := HSC1.out _ _ _ _ _ _ HQ.out
          by_cases hlm : m < m1
          · have hml : m < (gs.getD k []).length := by rw [HW1.out.2]; exact hlm
            obtain ⟨bw_, ow, rfl, hr⟩ := (HW1.out.1.below HQ.out.old.below).1 (by intro e; rw [e] at hml; simp at hml)
            obtain ⟨x, hx⟩ : ∃ x, (gs.getD k [])[m] = x := ⟨_, rfl⟩
            obtain ⟨c0, c1', c2⟩ := hr.2 m _ (List.getElem?_eq_getElem hml)
            clear c1'
            rw [hx] at c0 c2
            have hbs := bw_succ hml
            rw [hx] at hbs
            obtain ⟨b0, b1, b2, b3⟩ := HBS.out.ok _ (Bs.mem (i := k) (by rw [HG3.out.2]; exact hlt)) _ (List.getElem_mem hml)
            clear b0 b3
            rw [hx] at b1 b2
            have hbl := bw_le HBS.out (i := k) (by rw [HG3.out.2]; exact hlt) m (by omega)
            obtain ⟨xk, xd, xv⟩ := x
            dsimp only at c0 c2 b1 b2
            have htw := HTW.out.2
            obtain ⟨X, hX⟩ : ∃ X : Int, ((tw gs k + bw (gs.getD k []) m : Nat) : Int) = X := ⟨_, rfl⟩
            have HS : Hid (((tw gs k + bw (gs.getD k []) (m + 1) : Nat) : Int) = X + 2 * (xk.size : Int) + (xv.size : Int) + 448) := by
              show _ = _
              rw [hbs, ← hX]
              unfold gw
              dsimp only
              omega
            have p1 : (m : Int) < (m1 : Int) := by omega
            have p2 : 0 ≤ X := by omega
            have p3 : X ≤ 1100000 := by omega
            have p4 : (xk.size : Int) ≤ 64 := by omega
            have p5 : (xv.size : Int) ≤ 512 := by omega
            rw [hX]
            clear hX hbs hbl b1 b2 hr hx hml htw
            go_wp2
            go_quiet (fail)
            go_wp2
            go_roundw
            case rel => exact ⟨m + 1, by omega, by go_num, by rw [HS.out], HQ.out.below (below_drewN (Below.refl _ _) _)⟩
            case measure => simp [intOf]; omega
          · obtain rfl : m = m1 := by omega
            go_wp2
            go_roundw
            case rel => exact ⟨k + 1, T8, n7, n8, by omega, by go_num, by rw [HTW.out.1], HQ⟩
            case measure => simp [intOf]; omega
      · obtain rfl : k = N := by omega
        have hp1 := adds_all (f := 1) HBS.out (by omega) HK.out.a1 (by rw [HG3.out.2])
        have hp2 := adds_all (f := 1) HBS.out (by omega) HK.out.a2 (by have := rvs_perm 1 gs; rw [HG3.out.2] at this; rw [HG3.out.2]; exact this)
        have HEQ : Hid (n1.map Nd.e = n2.map Nd.e) := same_all hp1 hp2 HK.out.t.sl.sorted HK.out.u.sl.sorted
        obtain ⟨Z, hZ⟩ : ∃ Z, Grp.off gs k = Z := ⟨_, rfl⟩
        have hl1 : n1.length = Z := by
          have := hp1.length_eq
          rw [List.length_map, fwd_len 1 gs _ (Nat.le_refl _), HG3.out.2, hZ] at this
          exact this
        have hl2 : n2.length = Z := by
          have := hp2.length_eq
          rw [List.length_map, fwd_len 1 gs _ (Nat.le_refl _), HG3.out.2, hZ] at this
          exact this
        have hZ9 : Z ≤ 960 := by
          have := off_le HBS.out.l16 k (by rw [HG3.out.2]; exact Nat.le_refl _)
          omega
        obtain ⟨X, hX⟩ : ∃ X, tw gs k = X := ⟨_, rfl⟩
        have HWW : Hid (wS n1 = X ∧ wS n2 = X ∧ lM n1 = (Z : Int) ∧ lM n2 = (Z : Int)) := by
          have w1 := weight_all HBS.out hp1
          have w2 := weight_all HBS.out hp2
          have w3 := last_all HBS.out hp1
          have w4 := last_all HBS.out hp2
          rw [HG3.out.2] at w1 w2 w3 w4
          rw [hX] at w1 w2
          rw [hZ] at w3 w4
          exact ⟨w1, w2, w3, w4⟩
        have HLN : Hid (n1.length = Z ∧ n2.length = Z ∧ Grp.off gs k = Z) := ⟨hl1, hl2, hZ⟩
        rw [hX]
        clear hp1 hp2 hl1 hl2 hZ hX HNU
        have hZi : (Z : Int) ≤ 960 := by omega
        go_wp2_with fail
        refine (all_mem2 HK.out.t (B := wr.heap.size) rfl).mono ?_
        rintro e w9 ⟨rfl, hb9, k1, k2, k3⟩
        have HL9 : Hid (Lp w3 w6 T5 T w9 Mt_ Lt Mu Lu ds os gs n1 n2 k k) := HK.out.below hb9
        have HTA : Hid _ := taken_mem HL9.out.t (B := wr.heap.size) (by have := HLN.out.1; omega) HLN.out.1 k1 k2 k3
        clear hb9 k1 k2 k3 HK
        go_wp2_with fail
        refine Calls.mono HTA.out ?_
        rintro e wA ⟨aA, cA, rfl, iA, nA, hbA⟩
        have HLA : Hid (Lp w3 w6 T5 T wA Mt_ Lt Mu Lu ds os gs n1 n2 k k) := HL9.out.below hbA
        have HIA : Hid (IsE wA aA (n1.map Nd.e)) := iA
        clear hbA iA nA HTA HL9
        go_wp2_with fail
        refine (all_mem2 HLA.out.u (B := wA.heap.size) rfl).mono ?_
        rintro e wB ⟨rfl, hbB, k1, k2, k3⟩
        have HLB : Hid (Lp w3 w6 T5 T wB Mt_ Lt Mu Lu ds os gs n1 n2 k k ∧ IsE wB aA (n1.map Nd.e)) := ⟨HLA.out.below hbB, HIA.out.below hbB⟩
        have HTB : Hid _ := taken_mem HLB.out.1.u (B := wA.heap.size) (by have := HLN.out.2.1; omega) HLN.out.2.1 k1 k2 k3
        clear hbB k1 k2 k3 HLA HIA
        go_wp2_with fail
        refine Calls.mono HTB.out ?_
        rintro e wC ⟨aC, cC, rfl, iC, nC, hbC⟩
        have HLC : Hid (Lp w3 w6 T5 T wC Mt_ Lt Mu Lu ds os gs n1 n2 k k ∧ IsE wC aA (n1.map Nd.e) ∧ IsE wC aC (n1.map Nd.e)) := ⟨HLB.out.1.below hbC, HLB.out.2.below hbC, by rw [HEQ.out]; exact iC⟩
        clear hbC iC nC HTB HLB
        go_wp2
        go_loopw [18, 19] (fun s i wq => ∃ (m : Nat), m ≤ k ∧ i = .int .i64 (m : Int) ∧ s = .int .i64 (Grp.off gs m : Int) ∧ wq = wC) (fun _ i _ => k - (intOf i).toNat)
        case atStart => exact ⟨0, Nat.zero_le _, rfl, by simp [Grp.off], rfl⟩
        case round =>
          obtain ⟨m, hm, rfl, rfl, rfl⟩ := hrel
          rename World => wZ
          by_cases hlm : m < k
          · have hml : m < gs.length := by rw [HG3.out.2]; exact hlm
            obtain ⟨bg, og, ad1, c1, rfl, hbg, g1, hw1⟩ := (HG3.out.1.below HLC.out.1.old.below).rd hml
            have hos := off_succ hml
            have hol := off_le HBS.out.l16 m (by omega)
            have h16 := HBS.out.l16 _ (Bs.mem hml)
            obtain ⟨m1, hm1⟩ : ∃ m1, (gs.getD m []).length = m1 := ⟨_, rfl⟩
            rw [hm1] at g1 hos h16
            have HS : Hid ((Grp.off gs (m + 1) : Int) = (Grp.off gs m : Int) + (m1 : Int)) := by show _ = _; omega
            have p1 : (m : Int) < (k : Int) := by omega
            have p2 : (0 : Int) ≤ (Grp.off gs m : Int) := by omega
            have p3 : (Grp.off gs m : Int) ≤ 960 := by omega
            have p4 : (m1 : Int) ≤ 16 := by omega
            generalize (Grp.off gs m : Int) = Y at *
            clear hos hol h16 hm1 hw1 hml
            go_wp2
            go_roundw
            case rel => exact ⟨m + 1, by omega, by go_num, by rw [HS.out], trivial⟩
            case measure => simp [intOf]; omega
          · obtain rfl : m = k := by omega
            rw [HLN.out.2.2]
            have HSE : Hid (Calls Try.prog 29 #[.slice aA Z cA, .slice aC Z cC] wZ fun e w' => e = .returned (.bool true) ∧ ∃ n, w' = wZ.drewN n) := sameEntries_true aA aC cA cC Z (n1.map Nd.e) wZ HLC.out.2.1 HLC.out.2.2 (by rw [List.length_map]; exact HLN.out.1) (by omega)
            go_wp2_with (first
              | (go_at_call 29; refine HSE.out.mono ?_; rintro e wD ⟨rfl, nD, rfl⟩; have HLD : Hid (Lp w3 w6 T5 T (wZ.drewN nD) Mt_ Lt Mu Lu ds os gs n1 n2 m m) := HLC.out.1.below (below_drewN (Below.refl _ _) _))
              | (go_at_call_of 31 (Value.pointer (some ⟨Mt_, 0, none⟩)); refine (weight_mem HLD.out.t).mono ?_; rintro e wE ⟨rfl, rfl⟩; rw [HWW.out.1])
              | (go_at_call_of 31 (Value.pointer (some ⟨Mu, 0, none⟩)); refine (weight_mem HLD.out.u).mono ?_; rintro e wE ⟨rfl, rfl⟩; rw [HWW.out.2.1])
              | (go_at_call_of 32 (Value.pointer (some ⟨Mt_, 0, none⟩)); refine (last_mem HLD.out.t).mono ?_; rintro e wE ⟨rfl, rfl⟩; rw [HWW.out.2.2.1])
              | (go_at_call_of 32 (Value.pointer (some ⟨Mu, 0, none⟩)); refine (last_mem HLD.out.u).mono ?_; rintro e wE ⟨rfl, rfl⟩; rw [HWW.out.2.2.2]))
            go_ret
            exact ⟨rfl, HB3.out.trans (HLD.out.old.below.mono HB3.out.size)⟩
end MemOrder
end Go.Proofs.Ytkofopaejkabhaa
