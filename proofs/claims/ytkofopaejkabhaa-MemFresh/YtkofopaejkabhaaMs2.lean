import Derived.Test.YtkofopaejkabhaaMs1
import Derived.Deep.RegionHeld3
import Derived.Deep.DeepCutAuto
namespace Go.Proofs.Ytkofopaejkabhaa
namespace Mem
open Go.RowKit Laws Irw Erw KMath Skm Byt Sk Grp Crw
set_option linter.unusedVariables false
set_option maxRecDepth 100000
set_option linter.unusedSimpArgs false

theorem rdU {w : World} {a : Option Addr} {first : Nat} {gs : List (List Chk.Wr)} {n k : Nat} (h : IsK kU w a (nums first gs n)) (hk : k < n) : ∃ b off, a = some ⟨b, off, none⟩ ∧ b < w.heap.size ∧ w.cell? ⟨b, off + k, none⟩ = some (.int .u64 ((first + Grp.off gs k : Nat) : Int)) := by
  obtain ⟨b, off, e, hr⟩ := h.at_ (by rw [nums_len]; omega)
  have hv : (nums first gs n)[k]? = some ((first + Grp.off gs k : Nat) : Int) := by simp [nums, hk]
  have hc := hr.2 k _ hv 0 _ rfl
  refine ⟨b, off, e, hr.1, ?_⟩
  have : off + k * kU.size + 0 = off + k := by show off + k * 1 + 0 = _; omega
  rw [this] at hc
  exact hc
theorem IsE.goes {u : Nat → Prop} {T T' : Nat → Nat} {w w' : World} {a : Option Addr} {l : List En} (h : IsE w a l) (hT : ∀ b off, a = some ⟨b, off, none⟩ → T b = 0) (hg : Goes u T w T' w') (h0 : ¬ u 0) : IsE w' a l := fun hne => by
  obtain ⟨b, off, e, hr⟩ := h hne
  exact ⟨b, off, e, hr.keep (hg.block b hr.1 (by rw [hT b off e]; exact h0)) hg.size⟩
theorem getV_eq (o : Option En) : getV o = .tuple #[.agg #[.string (o.getD ez).1, .int .u64 (o.getD ez).2.1, .bool (o.getD ez).2.2.1, .string (o.getD ez).2.2.2], .bool o.isSome] := by
  cases o <;> rfl
/-- one memtable into which batches go, one behind the other -/
structure L1 (f : Nat) (w3 w6 : World) (T5 T : Nat → Nat) (w : World) (M L : Nat) (ds : List Nat) (gs : List (List Chk.Wr)) (n1 : List Nd) (k1 : Nat) : Prop where
  t : Mt 10 T w M L ds n1 false
  go : Goes (uM 10) T5 w6 T w
  old : Old w3 T w
  a1 : Adds ds [] (fwd f gs k1) n1
variable {f : Nat} {w3 w6 : World} {T5 T : Nat → Nat} {w w' : World} {M L : Nat} {ds : List Nat} {gs : List (List Chk.Wr)} {n1 : List Nd} {k1 : Nat}
theorem L1.below (h : L1 f w3 w6 T5 T w M L ds gs n1 k1) (hb : Below w.heap.size w w') : L1 f w3 w6 T5 T w' M L ds gs n1 k1 :=
  ⟨h.t.below hb, h.go.trans (Goes.below hb), h.old.goes (Goes.below (t := fun _ => False) hb) (fun z => z), h.a1⟩
theorem u10_0 : ¬ uM 10 0 := uM0 (by omega)
theorem L1.len (h : L1 f w3 w6 T5 T w M L ds gs n1 k1) (hb : Bs gs) (hk : k1 ≤ gs.length) : n1.length ≤ 960 := by
  have q1 := h.a1.len
  rw [fwd_len f gs k1 hk] at q1
  have q2 := off_le hb.l16 k1 hk
  have := hb.len
  simp at q1
  omega
theorem L1.add (h : L1 f w3 w6 T5 T w M L ds gs n1 k1) (hb : Bs gs) (hds : ds.length ≤ 140737488355328) (hk : k1 < gs.length) {ad : Option Addr} {m c : Nat} (hw : Chk.IsWr w3 ad (gs.getD k1 [])) (hm : (gs.getD k1 []).length = m) {F : Int} (hF : ((f + Grp.off gs k1 : Nat) : Int) = F) :
    Calls Try.prog 22 #[.pointer (some ⟨M, 0, none⟩), .int .u64 F, .slice ad m c] w fun r w' => r = .returned (.int .i64 0) ∧ ∃ T' n1', L1 f w3 w6 T5 T' w' M L ds gs n1' (k1 + 1) := by
  have hl := h.len hb (by omega)
  refine (add_any 10 T w M L ds n1 false h.t (by omega) hds (by omega) (fun b hb' => h.old.zero b (.inr hb')) F ad c m (gs.getD k1 []) (hw.below h.old.below) hm).mono ?_
  have he : addE false (gs.getD k1 []) = 0 := hb.errB hk
  rintro r w' ⟨rfl, T', n1', h1, h2, h3⟩
  rw [he]
  refine ⟨rfl, T', n1', h1, h.go.trans h2, h.old.goes h2 u10_0, ?_⟩
  rcases h3 with ⟨_, h3⟩ | ⟨h3, _⟩
  · rw [fwd_succ]
    unfold bt
    rw [hF]
    exact h.a1.append h3
  · exact absurd he h3
theorem L1.num (h : L1 f w3 w6 T5 T w M L ds gs n1 k1) {b j : Nat} {v : Value} (hb : b < w6.heap.size) (h0 : T5 b = 0) (hc : w6.cell? ⟨b, j, none⟩ = some v) : w.cell? ⟨b, j, none⟩ = some v := (h.go.cell hb (by rw [h0]; exact u10_0)).trans hc
theorem L1.grp (h : L1 f w3 w6 T5 T w M L ds gs n1 k1) {b j : Nat} {v : Value} (hb : b < w3.heap.size) (hc : w3.cell? ⟨b, j, none⟩ = some v) : w.cell? ⟨b, j, none⟩ = some v := (h.old.below.cell (p := ⟨b, j, none⟩) hb).trans hc
theorem isG_one {w : World} {ad : Option Addr} {m c : Nat} {ws : List Chk.Wr} {u : TypeId} {g : Nat} (hg : w.heap.size = g) (hw : Chk.IsWr w ad ws) (hm : ws.length = m) : IsG (w.alloc (.cells #[.slice ad m c] u)) (some ⟨g, 0, none⟩) [ws] := by
  refine ⟨[(ad, m, c)], rfl, isS_new2 hg, fun i v ws' hv hw' => ?_⟩
  cases i with
  | zero =>
    simp at hv hw'
    subst hv hw'
    exact ⟨hm.symm, hw.below ((Below.refl _ _).alloc (Nat.le_refl _) _)⟩
  | succ i => simp at hv
end Mem
namespace MemSeen
open Go.RowKit Laws Irw Erw KMath Skm Byt Sk Grp Mem Crw
set_option linter.unusedVariables false
set_option maxRecDepth 100000
set_option linter.unusedSimpArgs false
set_option maxHeartbeats 4000000 in
theorem walk (w : World) (ad : Option Addr) (cd : Nat) (ds : List Nat) (hd : IsB w ad ds) (hdn : ad = none → cd = 0) (hd47 : ds.length ≤ 140737488355328)
    (a : Option Addr) (c n0 : Nat) (gs0 : List (List Chk.Wr)) (hn : gs0.length = n0) (hmx : (n0 : Int) ≤ 9223372036854775807) (hg : IsG w a gs0)
    (aw : Option Addr) (cw : Nat) (ws0 : List Chk.Wr) (hw0 : Chk.IsWr w aw ws0) (key : ByteArray) (A : Nat) (hA : A < 18446744073709551616) :
    Calls Try.prog 5 #[.slice ad ds.length cd, .slice a n0 c, .slice aw ws0.length cw, .string key, .int .u64 (A : Int)] w fun e w' => e = .returned (.bool true) ∧ Below w.heap.size w w' := by
  have HD : Hid (IsB w ad ds ∧ (ad = none → cd = 0) ∧ ds.length ≤ 140737488355328) := ⟨hd, hdn, hd47⟩
  have HG0 : Hid (IsG w a gs0 ∧ gs0.length = n0) := ⟨hg, hn⟩
  obtain ⟨D, hD⟩ : ∃ D, ds.length = D := ⟨_, rfl⟩
  obtain ⟨X, hX⟩ : ∃ X, ws0.length = X := ⟨_, rfl⟩
  have HDO : Hid (ds.length = D ∧ ws0.length = X) := ⟨hD, hX⟩
  have HW0 : Hid (Chk.IsWr w aw ws0) := hw0
  have hAi : (A : Int) ≤ 18446744073709551615 := by omega
  rw [hD, hX]
  clear hd hdn hd47 hg hn hD hX hw0 hA
  go_enter Try.func5, Try.ntmps5
  go_wp2_with (first
    | (go_at_call 18; refine (known_any w).mono ?_; rintro e w1 ⟨rfl, hb1⟩; have HB1 : Hid (Below w.heap.size w w1) := hb1; clear hb1)
    | fail)
  refine (groups_any w1 a c n0 gs0 HG0.out.2 hmx (HG0.out.1.below HB1.out)).mono ?_
  rintro e w2 ⟨few, rfl, hb2⟩
  have HB2 : Hid (Below w.heap.size w w2) := HB1.out.trans (hb2.mono HB1.out.size)
  clear hb2 HB1
  cases few with
  | false =>
    go_wp2
    go_ret
    exact ⟨rfl, HB2.out⟩
  | true =>
    go_wp2_with fail
    have HB2a : Hid (Below w.heap.size w (w2.alloc (.cells #[.slice aw X cw] 52))) := HB2.out.alloc HB2.out.size _
    refine (groups_any _ (some ⟨w2.heap.size, 0, none⟩) 1 1 [ws0] rfl (by decide) (isG_one rfl (HW0.out.below HB2.out) HDO.out.2)).mono ?_
    rintro e w2b ⟨few2, rfl, hb2b⟩
    have HB2b : Hid (Below w.heap.size w w2b) := HB2a.out.trans (hb2b.mono HB2a.out.size)
    clear hb2b HB2a HB2
    cases few2 with
    | false =>
      go_wp2
      go_ret
      exact ⟨rfl, HB2b.out⟩
    | true =>
      go_wp2_with fail
      refine (batches_any w2b a c n0 gs0 HG0.out.2 hmx (HG0.out.1.below HB2b.out)).mono ?_
      rintro e w2c ⟨ag, cg, rfl, hg3, _, hb3⟩
      obtain ⟨gs, hgs⟩ : ∃ gs, (gs0.take 60).map rightL = gs := ⟨_, rfl⟩
      have HBS : Hid (Bs gs) := by rw [← hgs]; exact Bs.of gs0
      rw [hgs] at hg3 ⊢
      obtain ⟨N, hN⟩ : ∃ N, gs.length = N := ⟨_, rfl⟩
      rw [hN]
      have HG2 : Hid (IsG w2c ag gs ∧ gs.length = N) := ⟨hg3, hN⟩
      have HB2c : Hid (Below w.heap.size w w2c) := HB2b.out.trans (hb3.mono HB2b.out.size)
      have hN60 : N ≤ 60 := by rw [← hN]; exact HBS.out.len
      have hNi : (N : Int) ≤ 60 := by omega
      clear hg3 hN hgs hb3 HB2b HG0 hmx
      go_wp2_with fail
      refine (right_fresh w2c aw cw X ws0 HDO.out.2 (HW0.out.below HB2c.out)).mono ?_
      rintro e w3 ⟨ar, cr, rfl, hr3, _, _, hb3⟩
      obtain ⟨ms, hms⟩ : ∃ ms, rightL ws0 = ms := ⟨_, rfl⟩
      have HMS : Hid (ms.length ≤ 16 ∧ (∀ x ∈ ms, 0 < x.1.size ∧ x.1.size ≤ 64 ∧ x.2.2.size ≤ 512 ∧ Chk.val x.2.1 x.2.2 = x.2.2)) := by rw [← hms]; exact ⟨rightL_len _, rightL_ok⟩
      rw [hms] at hr3 ⊢
      obtain ⟨R, hR⟩ : ∃ R, ms.length = R := ⟨_, rfl⟩
      rw [hR]
      have HG3 : Hid (IsG w3 ag gs ∧ gs.length = N) := ⟨HG2.out.1.below hb3, HG2.out.2⟩
      have HR3 : Hid (Chk.IsWr w3 ar ms ∧ ms.length = R) := ⟨hr3, hR⟩
      have HB3 : Hid (Below w.heap.size w w3) := HB2c.out.trans (hb3.mono HB2c.out.size)
      have hR16 : (R : Int) ≤ 16 := by have := HMS.out.1; omega
      clear hr3 hR hms hb3 HB2c HG2 HW0
      go_wp2_with fail
      refine (new_mem 10 (fun _ => 0) w3 ad D cd ds (HD.out.1.below HB3.out) HDO.out.1.symm HD.out.2.1 HD.out.2.2 (fun _ _ => rfl)).mono ?_
      rintro e w5 ⟨M, L, T5, rfl, hmt4, hgo4⟩
      have HM5 : Hid (Mt 10 T5 w5 M L ds [] false ∧ Old w3 T5 w5) := ⟨hmt4, (Old.first w3).goes hgo4 (fun z => z)⟩
      clear hmt4 hgo4
      go_wp2_with fail
      refine (numbered_any w5 5 (by omega) ag cg N gs HG3.out.2 hN60 HBS.out.l16 (HG3.out.1.below HM5.out.2.below)).mono ?_
      rintro e w6 ⟨af, cf, rfl, hnu, hfr, hb6⟩
      have HLP0 : Hid (L1 5 w3 w6 T5 T5 w6 M L ds gs [] 0) := ⟨HM5.out.1.below hb6, Goes.refl _ _ _, HM5.out.2.goes (Goes.below (t := fun _ => False) hb6) (fun z => z), by simp only [fwd, List.range_zero, List.map_nil, List.flatten_nil]; exact .nil⟩
      have HNU : Hid (IsK kU w6 af (nums 5 gs N) ∧ ∀ b off, af = some ⟨b, off, none⟩ → T5 b = 0) := ⟨hnu, fun b off e => HM5.out.2.zero b (.inr (hfr b off e))⟩
      clear hnu hfr hb6 HM5
      go_wp2
      go_loopw [13, 14] (fun en i wr => ∃ (k : Nat) (T : Nat → Nat) (n1 : List Nd), k ≤ N ∧ i = .int .i64 (k : Int) ∧ en = .int .u64 ((5 + Grp.off gs k : Nat) : Int) ∧ Hid (L1 5 w3 w6 T5 T wr M L ds gs n1 k)) (fun _ i _ => N - (intOf i).toNat)
      case atStart => exact ⟨0, T5, [], Nat.zero_le _, rfl, by simp [Grp.off], HLP0⟩
      case round =>
        clear HLP0
        obtain ⟨k, T, n1, hk, rfl, rfl, HK⟩ := hrel
        rename World => wr
        by_cases hlt : k < N
        · have hkl : k < gs.length := by rw [HG3.out.2]; exact hlt
          obtain ⟨bg, og, ad1, c1, rfl, hbg, g1, hw1⟩ := HG3.out.1.rd hkl
          obtain ⟨bf, of, rfl, hbf, f1⟩ := rdU HNU.out.1 hlt
          obtain ⟨m1, hm1⟩ : ∃ m, (gs.getD k []).length = m := ⟨_, rfl⟩
          obtain ⟨F1, hF1⟩ : ∃ F, ((5 + Grp.off gs k : Nat) : Int) = F := ⟨_, rfl⟩
          have hos := off_succ hkl
          have hol := off_le HBS.out.l16 k (by omega)
          have h16 := HBS.out.l16 _ (Bs.mem hkl)
          rw [hm1] at g1 hos h16
          rw [hF1] at f1
          have HS : Hid (((5 + Grp.off gs (k + 1) : Nat) : Int) = F1 + (m1 : Int)) := by show _ = _; omega
          have hT5 := HNU.out.2 bf of rfl
          have HAT : Hid (∀ W, L1 5 w3 w6 T5 T W M L ds gs n1 k → Calls Try.prog 22 #[.pointer (some ⟨M, 0, none⟩), .int .u64 F1, .slice ad1 m1 c1] W fun r w' => r = .returned (.int .i64 0) ∧ ∃ T' n1', L1 5 w3 w6 T5 T' w' M L ds gs n1' (k + 1)) := fun W hW => hW.add HBS.out HD.out.2.2 hkl hw1 hm1 hF1
          have HSC : Hid (∀ W T n1 k1, L1 5 w3 w6 T5 T W M L ds gs n1 k1 → W.cell? ⟨bf, of + k, none⟩ = some (.int .u64 F1) ∧ W.cell? ⟨bg, og + k, none⟩ = some (.slice ad1 m1 c1)) := fun W T n1 k1 hW => ⟨hW.num hbf hT5 f1, hW.grp hbg g1⟩
          have q1 : (k : Int) < (N : Int) := by omega
          have q2 : 0 ≤ F1 := by omega
          have q3 : F1 ≤ 1000 := by omega
          have q4 : (m1 : Int) ≤ 16 := by omega
          rw [hF1]
          clear hw1 hm1 hF1 f1 g1 hbg hbf hT5 hkl hos hol h16
          go_wp2
          go_region_held3 (fun W => W.cell? ⟨bf, of + k, none⟩ = some (.int .u64 F1) ∧ W.cell? ⟨bg, og + k, none⟩ = some (.slice ad1 m1 c1)) (first | assumption | exact HSC.out _ _ _ _ (HK.out.below (Below.refl _ _).drew))
            (first
              | (go_at_call 22; refine (HAT.out _ ?_).mono ?_; exact HK.out.below (Below.refl _ _).drew; rintro r w7 ⟨rfl, T7, n7, hl7⟩; have HL7 : Hid (L1 5 w3 w6 T5 T7 w7 M L ds gs n7 (k + 1)) := hl7; have hS7 := HSC.out _ _ _ _ hl7; clear hl7))
          obtain ⟨s1, s2⟩ := hS7
          clear HK HSC HAT
          go_wp2
          go_quiet (fail)
          go_wp2
          go_roundw
          case rel => exact ⟨k + 1, T7, n7, by omega, by go_num, by rw [HS.out], HL7.out.below (below_drewN (Below.refl _ _) _)⟩
          case measure => simp [intOf]; omega
        · obtain rfl : k = N := by omega
          have hp1 := adds_all (f := 5) HBS.out (by omega) HK.out.a1 (by rw [HG3.out.2])
          have hl1 := HK.out.len HBS.out (by rw [HG3.out.2]; exact Nat.le_refl _)
          obtain ⟨E, hE⟩ : ∃ E, 5 + Grp.off gs k = E := ⟨_, rfl⟩
          have hE9 : E ≤ 1000 ∧ 5 ≤ E := by
            have := off_le HBS.out.l16 k (by rw [HG3.out.2]; exact Nat.le_refl _)
            omega
          have HEE : Hid (5 + Grp.off gs gs.length = E) := by rw [HG3.out.2]; exact hE
          have HP1 : Hid ((n1.map Nd.e).Perm (fwd 5 gs gs.length) ∧ n1.length ≤ 960) := ⟨hp1, hl1⟩
          rw [hE]
          obtain ⟨s, hs⟩ : ∃ s : Int, (if E ≤ A then (E : Int) - 1 else (A : Int)) = s := ⟨_, rfl⟩
          have hsE : s < (E : Int) := by rw [← hs]; split <;> omega
          have HSS : Hid ((if E ≤ A then (E : Int) - 1 else (A : Int)) = s) := hs
          have e5 : (5 : Int) ≤ (E : Int) := by omega
          have e6 : (E : Int) ≤ 1000 := by omega
          clear hp1 hl1 hE hs HNU hE9
          go_upto_if 76 with (fail)
          go_cut [4] (fun v w' => v = .int .u64 s ∧ w' = wr)
          case first =>
            by_cases hEA : E ≤ A
            · have hs2 : (E : Int) - 1 = s := by have := HSS.out; rw [if_pos hEA] at this; exact this
              have q1 : (E : Int) ≤ (A : Int) := by omega
              clear hEA
              go_wp2
              go_meet
              case rel => exact ⟨by rw [← hs2], rfl⟩
            · have hs2 : (A : Int) = s := by have := HSS.out; rw [if_neg hEA] at this; exact this
              have q1 : (A : Int) < (E : Int) := by omega
              clear hEA
              go_wp2
              go_meet
              case rel => exact ⟨by rw [← hs2], rfl⟩
          case rest =>
            obtain ⟨rfl, hwr⟩ := hcut
            subst hwr
            clear hAi
            go_wp2_with fail
            refine (get_mem HK.out.t key s).mono ?_
            rintro e wA ⟨rfl, hbA⟩
            rw [getV_eq]
            obtain ⟨o1, ho1⟩ : ∃ o1, gk key s (n1.map Nd.e) = o1 := ⟨_, rfl⟩
            have HO1 : Hid (gk key s (n1.map Nd.e) = o1) := ho1
            rw [ho1]
            have HLA : Hid (L1 5 w3 w6 T5 T wA M L ds gs n1 k) := HK.out.below hbA
            clear ho1 hbA HK
            obtain ⟨x1, hx1⟩ : ∃ x1, o1.getD ez = x1 := ⟨_, rfl⟩
            have HX1 : Hid (o1.getD ez = x1) := hx1
            rw [hx1]
            obtain ⟨b1, hb1⟩ : ∃ b1, o1.isSome = b1 := ⟨_, rfl⟩
            have HBB : Hid (o1.isSome = b1) := hb1
            rw [hb1]
            clear hx1 hb1
            have HALA : Hid (Below wA.heap.size wA (wA.alloc (.cells #[.string x1.1, .int .u64 x1.2.1, .bool x1.2.2.1, .string x1.2.2.2] 77))) := (Below.refl _ _).alloc (Nat.le_refl _) _
            go_wp2_with fail
            refine (from_mem M key s _ (B := wA.heap.size + 1) (by simp)).mono ?_
            rintro e wB ⟨rfl, hbB, k1, k2, k3⟩
            have HLB : Hid (L1 5 w3 w6 T5 T wB M L ds gs n1 k ∧ wB.heap[wA.heap.size]? = some (.cells #[.string x1.1, .int .u64 x1.2.1, .bool x1.2.2.1, .string x1.2.2.2] 77)) := ⟨(HLA.out.below HALA.out).below hbB, (hbB.block _ (by simp)).trans (World.alloc_heap_new _ _)⟩
            obtain ⟨FL, hFL⟩ : ∃ FL, frm key s (n1.map Nd.e) = FL := ⟨_, rfl⟩
            obtain ⟨nF, hnF⟩ : ∃ nF, FL.length = nF := ⟨_, rfl⟩
            have HFL : Hid (frm key s (n1.map Nd.e) = FL ∧ FL.length = nF) := ⟨hFL, hnF⟩
            have HTA : Hid _ := mtaken_mem HLB.out.1.t (B := wA.heap.size + 1) (n := nF) (by have := HP1.out.2; omega) (fun e => absurd ((HLA.out.old.zero (wA.heap.size + 1 + 2) (.inr (Nat.le_trans (Nat.le_add_right _ 1) (Nat.le_add_right _ 2)))).symm.trans e) (by decide)) (by rw [hFL]; exact hnF) k1 k2 k3
            have HSB : Hid (wA.heap.size ≤ wB.heap.size) := by have := hbB.size; simp at this; show _ ≤ _; omega
            clear k1 k2 k3 hbB hFL hnF
            go_wp2_with fail
            refine Calls.mono HTA.out ?_
            rintro e wC ⟨aF, cF, rfl, iF, fF, hbC⟩
            rw [HFL.out.1] at iF
            have HLC : Hid (L1 5 w3 w6 T5 T wC M L ds gs n1 k ∧ wC.heap[wA.heap.size]? = some (.cells #[.string x1.1, .int .u64 x1.2.1, .bool x1.2.2.1, .string x1.2.2.2] 77) ∧ IsE wC aF FL ∧ ∀ b off, aF = some ⟨b, off, none⟩ → T b = 0) := ⟨HLB.out.1.below hbC, (hbC.block _ (Array.getElem?_eq_some_iff.1 HLB.out.2).1).trans HLB.out.2, iF, fun b off e => HLB.out.1.old.zero b (.inr (fF b off e))⟩
            clear iF fF hbC HTA HLB
            have HAM : Hid (Calls Try.prog 22 #[.pointer (some ⟨M, 0, none⟩), .int .u64 (E : Int), .slice ar R cr] wC fun r w' => r = .returned (.int .i64 0) ∧ ∃ T' n2, Mt 10 T' w' M L ds n2 false ∧ Goes (uM 10) T wC T' w' ∧ Adds ds n1 (Ents.ents (E : Int) ms) n2) := by
              have he : addE false ms = 0 := errB_of HMS.out.1 HMS.out.2
              refine (add_any 10 T wC M L ds n1 false HLC.out.1.t (by omega) HD.out.2.2 (by have := HP1.out.2; omega) (fun b hb' => HLC.out.1.old.zero b (.inr hb')) (E : Int) ar cr R ms (HR3.out.1.below HLC.out.1.old.below) HR3.out.2).mono ?_
              rintro r w' ⟨rfl, T', n1', h1, h2, h3⟩
              rw [he]
              refine ⟨rfl, T', n1', h1, h2, ?_⟩
              rcases h3 with ⟨_, h3⟩ | ⟨h3, _⟩
              · exact h3
              · exact absurd he h3
            go_wp2_with fail
            refine HAM.out.mono ?_
            rintro e wD ⟨rfl, T2, n2, hmD, hgD, haD⟩
            have HSQ : Hid (∀ e ∈ Ents.ents (E : Int) ms, s < e.2.1) := fun e he => by
              have := (ents_seq (f := E) (by have := HMS.out.1; omega) he).1
              omega
            have HLD : Hid (Mt 10 T2 wD M L ds n2 false ∧ Old w3 T2 wD ∧ wD.heap[wA.heap.size]? = some (.cells #[.string x1.1, .int .u64 x1.2.1, .bool x1.2.2.1, .string x1.2.2.2] 77) ∧ IsE wD aF FL) := ⟨hmD, HLC.out.1.old.goes hgD u10_0, (hgD.block _ (Array.getElem?_eq_some_iff.1 HLC.out.2.1).1 (by rw [HLA.out.old.zero _ (.inr (Nat.le_refl _))]; exact u10_0)).trans HLC.out.2.1, Mem.IsE.goes HLC.out.2.2.1 HLC.out.2.2.2 hgD u10_0⟩
            have HN2 : Hid (n2.length ≤ 1000 ∧ gk key s (n2.map Nd.e) = o1 ∧ frm key s (n2.map Nd.e) = FL ∧ Adds ds n1 (Ents.ents (E : Int) ms) n2) := by
              refine ⟨?_, by rw [gk_same haD HSQ.out]; exact HO1.out, by rw [frm_same haD HSQ.out]; exact HFL.out.1, haD⟩
              have h1 := haD.len
              rw [Ents.ents_length] at h1
              have := HP1.out.2
              have := HMS.out.1
              omega
            clear hmD hgD haD HAM
            go_wp2_with fail
            refine (get_mem HLD.out.1 key s).mono ?_
            rintro e wE ⟨rfl, hbE⟩
            rw [HN2.out.2.1, getV_eq, HX1.out, HBB.out]
            have HLE : Hid (Mt 10 T2 wE M L ds n2 false ∧ Old w3 T2 wE ∧ wE.heap[wA.heap.size]? = some (.cells #[.string x1.1, .int .u64 x1.2.1, .bool x1.2.2.1, .string x1.2.2.2] 77) ∧ IsE wE aF FL) := ⟨HLD.out.1.below hbE, HLD.out.2.1.goes (Goes.below (t := fun _ => False) hbE) (fun z => z), (hbE.block _ (Array.getElem?_eq_some_iff.1 HLD.out.2.2.1).1).trans HLD.out.2.2.1, HLD.out.2.2.2.below hbE⟩
            have HALE : Hid (Below wE.heap.size wE (wE.alloc (.cells #[.string x1.1, .int .u64 x1.2.1, .bool x1.2.2.1, .string x1.2.2.2] 77))) := (Below.refl _ _).alloc (Nat.le_refl _) _
            clear hbE HLD HLC HALA
            go_wp2_with fail
            refine (from_mem M key s _ (B := wE.heap.size + 1) (by simp)).mono ?_
            rintro e wF ⟨rfl, hbF, k1, k2, k3⟩
            have hbEF : Below wE.heap.size wE wF := HALE.out.trans (hbF.mono HALE.out.size)
            have HLF : Hid (Mt 10 T2 wF M L ds n2 false ∧ Old w3 T2 wF ∧ wF.heap[wA.heap.size]? = some (.cells #[.string x1.1, .int .u64 x1.2.1, .bool x1.2.2.1, .string x1.2.2.2] 77) ∧ IsE wF aF FL ∧ wF.heap[wE.heap.size]? = some (.cells #[.string x1.1, .int .u64 x1.2.1, .bool x1.2.2.1, .string x1.2.2.2] 77)) := ⟨HLE.out.1.below hbEF, HLE.out.2.1.goes (Goes.below (t := fun _ => False) hbEF) (fun z => z), (hbEF.block _ (Array.getElem?_eq_some_iff.1 HLE.out.2.2.1).1).trans HLE.out.2.2.1, HLE.out.2.2.2.below hbEF, (hbF.block _ (by simp)).trans (World.alloc_heap_new _ _)⟩
            have HTB : Hid _ := mtaken_mem HLF.out.1 (B := wE.heap.size + 1) (n := nF) (by have := HN2.out.1; omega) (fun e => absurd ((HLE.out.2.1.zero (wE.heap.size + 1 + 2) (.inr (Nat.le_trans (Nat.le_add_right _ 1) (Nat.le_add_right _ 2)))).symm.trans e) (by decide)) (by rw [HN2.out.2.2.1]; exact HFL.out.2) k1 k2 k3
            clear k1 k2 k3 hbF hbEF HALE
            go_wp2_with fail
            refine Calls.mono HTB.out ?_
            rintro e wG ⟨aH, cH, rfl, iH, fH, hbG⟩
            rw [HN2.out.2.2.1] at iH
            have HLG : Hid (Mt 10 T2 wG M L ds n2 false ∧ Old w3 T2 wG ∧ wG.heap[wA.heap.size]? = some (.cells #[.string x1.1, .int .u64 x1.2.1, .bool x1.2.2.1, .string x1.2.2.2] 77) ∧ IsE wG aF FL ∧ wG.heap[wE.heap.size]? = some (.cells #[.string x1.1, .int .u64 x1.2.1, .bool x1.2.2.1, .string x1.2.2.2] 77) ∧ IsE wG aH FL) := ⟨HLF.out.1.below hbG, HLF.out.2.1.goes (Goes.below (t := fun _ => False) hbG) (fun z => z), (hbG.block _ (Array.getElem?_eq_some_iff.1 HLF.out.2.2.1).1).trans HLF.out.2.2.1, HLF.out.2.2.2.1.below hbG, (hbG.block _ (Array.getElem?_eq_some_iff.1 HLF.out.2.2.2.2).1).trans HLF.out.2.2.2.2, iH⟩
            clear iH fH hbG HTB HLF
            go_wp2
            go_loopw [23, 24, 25] (fun i _ _ wq => ∃ (m : Nat), m ≤ R ∧ i = .int .i64 (m : Int) ∧ Hid (Below wG.heap.size wG wq)) (fun i _ _ _ => R - (intOf i).toNat)
            case atStart => exact ⟨0, Nat.zero_le _, rfl, Below.refl _ _⟩
            case round =>
              obtain ⟨m, hm, rfl, HBQ⟩ := hrel
              rename World => wq
              by_cases hlm : m < R
              · have hml : m < ms.length := by rw [HR3.out.2]; exact hlm
                obtain ⟨bw_, ow, rfl, hr⟩ := ((HR3.out.1.below HLG.out.2.1.below).below HBQ.out).1 (by intro e; rw [e] at hml; simp at hml)
                obtain ⟨c0, c1', c2'⟩ := hr.2 m _ (List.getElem?_eq_getElem hml)
                clear c1' c2'
                have HGT : Hid (∃ x, gk ms[m].1 ((E : Int) + (R : Int) - 1) (n2.map Nd.e) = some x ∧ (E : Int) ≤ x.2.1 ∧ x.2.1 < (E : Int) + (R : Int)) := by
                  have hin := more_mem HBS.out (f := 5) (by omega) (ws := ms) (by have := HMS.out.1; omega) HP1.out.1 HLA.out.t.sl.sorted (by rw [HEE.out]; exact HN2.out.2.2.2)
                  rw [HEE.out] at hin
                  have hx := Ents.ents_get (first := (E : Int)) (List.getElem?_eq_getElem hml)
                  have hy := hin _ (List.mem_of_getElem? hx)
                  have hsq := seqAt_small (f := E) (j := m) (by omega)
                  obtain ⟨x, g1, _, _, g4, g5⟩ := gk_top (k := ms[m].1) (s := (E : Int) + (R : Int) - 1) (List.pairwise_map.2 HLG.out.1.sl.sorted) hy rfl (by dsimp only; rw [hsq]; omega)
                  dsimp only at g4
                  rw [hsq] at g4
                  exact ⟨x, g1, by omega, by omega⟩
                obtain ⟨x, hx, hx1, hx2⟩ := HGT.out
                have HX : Hid (gk ms[m].1 ((E : Int) + (R : Int) - 1) (n2.map Nd.e) = some x) := hx
                have HMQ : Hid (Mt 10 T2 wq M L ds n2 false) := HLG.out.1.below HBQ.out
                have p1 : (m : Int) < (R : Int) := by omega
                clear hx HGT hr
                generalize ms[m].1 = mk at *
                obtain ⟨xk, xs, xd, xv⟩ := x
                dsimp only at hx1 hx2
                go_wp2_with (go_at_call 25; refine (get_mem HMQ.out _ _).mono ?_; rintro e wR ⟨rfl, hbR⟩; rw [HX.out]; unfold getV; dsimp only; have HBR : Hid (Below wG.heap.size wG (wR.alloc (.cells #[.string xk, .int .u64 xs, .bool xd, .string xv] 77))) := (HBQ.out.trans (hbR.mono HBQ.out.size)).alloc (by have h1 := HBQ.out.size; have h2 := hbR.size; omega) _; clear hbR)
                go_roundw
                case rel => exact ⟨m + 1, by omega, by go_num, HBR⟩
                case measure => simp [intOf]; omega
              · obtain rfl : m = R := by omega
                have z1 := (HBQ.out.block _ (Array.getElem?_eq_some_iff.1 HLG.out.2.2.1).1).trans HLG.out.2.2.1
                have z2 := (HBQ.out.block _ (Array.getElem?_eq_some_iff.1 HLG.out.2.2.2.2.1).1).trans HLG.out.2.2.2.2.1
                have HSE : Hid (Calls Try.prog 29 #[.slice aF nF cF, .slice aH nF cH] wq fun e w' => e = .returned (.bool true) ∧ ∃ n, w' = wq.drewN n) := sameEntries_true aF aH cF cH nF FL wq (HLG.out.2.2.2.1.below HBQ.out) (HLG.out.2.2.2.2.2.below HBQ.out) HFL.out.2 (by
                  have h1 := HFL.out
                  rw [← h1.2, ← h1.1]
                  have h2 := stt_len s ((n1.map Nd.e).filter fun e => !decide (cmpE e.1 key e.2.1 s < 0))
                  have h3 := List.length_filter_le (fun e : En => !decide (cmpE e.1 key e.2.1 s < 0)) (n1.map Nd.e)
                  rw [List.length_map] at h3
                  have := HP1.out.2
                  unfold frm
                  omega)
                obtain ⟨xk, xs, xd, xv⟩ := x1
                dsimp only at z1 z2
                have c0 : wq.cell? ⟨wA.heap.size, 0, none⟩ = some (.string xk) := by rw [cell_of_obj z1]; rfl
                have c1 : wq.cell? ⟨wA.heap.size, 1, none⟩ = some (.int .u64 xs) := by rw [cell_of_obj z1]; rfl
                have c2 : wq.cell? ⟨wA.heap.size, 2, none⟩ = some (.bool xd) := by rw [cell_of_obj z1]; rfl
                have c3 : wq.cell? ⟨wA.heap.size, 3, none⟩ = some (.string xv) := by rw [cell_of_obj z1]; rfl
                have d0 : wq.cell? ⟨wE.heap.size, 0, none⟩ = some (.string xk) := by rw [cell_of_obj z2]; rfl
                have d1 : wq.cell? ⟨wE.heap.size, 1, none⟩ = some (.int .u64 xs) := by rw [cell_of_obj z2]; rfl
                have d2 : wq.cell? ⟨wE.heap.size, 2, none⟩ = some (.bool xd) := by rw [cell_of_obj z2]; rfl
                have d3 : wq.cell? ⟨wE.heap.size, 3, none⟩ = some (.string xv) := by rw [cell_of_obj z2]; rfl
                have HFIN : Hid (Below w.heap.size w wq) := (HB3.out.trans (HLG.out.2.1.below.mono HB3.out.size)).trans (HBQ.out.mono (Nat.le_trans HB3.out.size HLG.out.2.1.below.size))
                clear z1 z2
                go_wp2_with (go_at_call 29; refine HSE.out.mono ?_; rintro e wZ ⟨rfl, nZ, rfl⟩)
                go_ret
                exact ⟨rfl, below_drewN HFIN.out _⟩
end MemSeen
end Go.Proofs.Ytkofopaejkabhaa
