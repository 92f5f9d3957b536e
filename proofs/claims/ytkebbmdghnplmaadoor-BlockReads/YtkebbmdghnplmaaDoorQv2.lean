import Derived.Test.YtkebbmdghnplmaaDoorQv1
import Derived.Test.YtkebbmdghnplmaaDoorQt4
import Derived.Test.YtkebbmdghnplmaaDoorBSet
namespace Go.Proofs.YtkebbmdghnplmaaDoor
namespace Qv
open Go.RowKit Go.Shelf CMath Byt Laws Irw Crw Cod Qb Qt Tsr Rl BlockTurns
set_option linter.unusedVariables false
set_option linter.unusedSimpArgs false
set_option maxRecDepth 100000
theorem sl_set {w W : World} {R g c : Nat} {v0 v1 : Value} {l : List Nat} (h : Sl w W R g c v0 v1 l) (hg : w.heap.size ≤ g) {i v : Nat} {z : Int} (hi : i < l.length) (hz : z = (v : Int)) (hv : v < 256) : Sl w (W.setCell ⟨g, i, none⟩ (.int .u8 z)) R g c v0 v1 (l.set i v) := by
  refine ⟨h.bel.setCell (p := ⟨g, i, none⟩) hg _, ?_, h.row.set hi v z hz, fun x hx => ?_⟩
  · rw [List.length_set]
    exact h.rm.set _ ⟨(g, l.length, c), by simp, rfl⟩ (fun x hx _ => by rw [List.mem_singleton.1 hx]; exact hi)
  · rcases List.mem_or_eq_of_mem_set hx with hx | rfl
    · exact h.byte x hx
    · exact hv
theorem sl_frz {w W : World} {R g c : Nat} {v0 v1 : Value} {l : List Nat} (h : Sl w W R g c v0 v1 l) (i : Nat) : W.frozen? ⟨g, i, none⟩ = false := (h.rm.lent _ (List.mem_singleton.2 rfl)).2.2.2.2.2.1 i
/-- what stands behind the opening -/
structure Os (w W : World) (g c : Nat) (v0 v1 : Value) (l : List Nat) (T : Nat → Nat) (x : Nat × Sv) (y : Nat × List Qb.En) : Prop where
  sl : Sl w W w.heap.size g c v0 v1 l
  sh : ShOk T W x y
theorem Os.below {w W W' : World} {g c : Nat} {v0 v1 : Value} {l : List Nat} {T : Nat → Nat} {x : Nat × Sv} {y : Nat × List Qb.En} (h : Os w W g c v0 v1 l T x y) (hb : Below W.heap.size W W') : Os w W' g c v0 v1 l T x y := ⟨h.sl.below hb, h.sh.below hb⟩
theorem Os.set {w W : World} {g c : Nat} {v0 v1 : Value} {l : List Nat} {T : Nat → Nat} {x : Nat × Sv} {y : Nat × List Qb.En} (h : Os w W g c v0 v1 l T x y) (hT : T g = 9) (hg : w.heap.size ≤ g) {i v : Nat} {z : Int} (hi : i < l.length) (hz : z = (v : Int)) (hv : v < 256) : Os w (W.setCell ⟨g, i, none⟩ (.int .u8 z)) g c v0 v1 (l.set i v) T x y :=
  ⟨sl_set h.sl hg hi hz hv, h.sh.goes (Goes.setCell hT)⟩
theorem entB_new (w : World) (xk : ByteArray) (xs : Int) (xd : Bool) (xv : ByteArray) (u : TypeId) : EntB (w.alloc (.cells #[.string xk, .int .u64 xs, .bool xd, .string xv] u)) w.heap.size xk xs xd xv := by
  have g := World.alloc_heap_new w (.cells #[.string xk, .int .u64 xs, .bool xd, .string xv] u)
  exact ⟨by simp, by rw [cell_of_obj g]; rfl, by rw [cell_of_obj g]; rfl, by rw [cell_of_obj g]; rfl, by rw [cell_of_obj g]; rfl⟩
set_option maxHeartbeats 4000000 in
theorem opens_any (w : World) (ht : Tab w) (a : Option Addr) (cap N : Nat) (l : List Nat) (hi : IsB w a l) (hn : a = none → cap = 0) (hN : l.length = N) (hc : N ≤ cap) (hm : cap ≤ 9223372036854775807) (hl : N ≤ 200000)
    (ka : Option Addr) (kc KN : Nat) (ks : List ByteArray) (hKN : ks.length = KN) (hkx : (KN : Int) ≤ 40) (hk : IsT w ka ks) (hks : ∀ s ∈ ks, s.size ≤ maxLen) (nn : Int) :
    Calls Tryd.prog 6 #[.slice a N cap, .slice ka KN kc, .int .i64 nn] w fun e w' => e = .returned (.bool true) ∧ Below w.heap.size w w' := by
  have HT : Hid (Tab w) := ht
  have HR : Hid (IsB w a l ∧ (a = none → cap = 0) ∧ l.length = N ∧ N ≤ cap ∧ cap ≤ 9223372036854775807 ∧ N ≤ 200000) := ⟨hi, hn, hN, hc, hm, hl⟩
  have HK : Hid (IsT w ka ks ∧ ks.length = KN ∧ ∀ s ∈ ks, s.size ≤ maxLen) := ⟨hk, hKN, hks⟩
  have HBY : Hid (Calls Tryd.prog 21 #[.pointer (some ⟨w.heap.size, 0, none⟩), .slice a N cap] (w.alloc Rom.roomZ) fun e w' => ∃ g c v0 v1, e = .returned (.slice (some ⟨g, 0, none⟩) N (N + 600)) ∧ Sl w w' w.heap.size g c v0 v1 l ∧ w.heap.size ≤ g) := by
    have h := Rom.bytes_any w.heap.size w.heap.size (.slice none 0 0) (.slice none 0 0) [] a cap l _ (Rom.room_new w w.heap.size (Nat.le_refl _)) (by simp) hn (hi.below ((Below.refl _ _).alloc (Nat.le_refl _) _)) (by omega)
    rw [hN] at h
    refine h.mono ?_
    rintro e w2 ⟨g, c, v0, v1, rfl, hrm, hrow, hg, _, _, hkeep⟩
    refine ⟨g, c, v0, v1, rfl, Sl.first (by rw [hN]; exact hrm) hrow hi.2 hkeep, ?_⟩
    simp at hg
    omega
  clear ht hi hn hN hc hm hl hk hKN hks
  go_enter Tryd.func6, Tryd.ntmps6
  go_wp2_with (go_at_call 21; fail)
  refine HBY.out.mono ?_
  rintro e w2 ⟨g, c, v0, v1, rfl, hs2, hg⟩
  have HS2 : Hid (Sl w w2 w.heap.size g c v0 v1 l) := hs2
  clear HBY hs2
  dsimp only
  go_wp2_with (go_at_call 13; fail)
  have HOP := open_any (some ⟨g, 0, none⟩) (N + 600) N l w2 (HT.out.below HS2.out.bel HT.out.lt) HS2.out.isB HR.out.2.2.1.symm (by omega) (by have := HR.out.2.2.2.2.2; omega) (by have := HR.out.2.2.2.2.2; have := HR.out.2.2.1; omega) (by simp)
  refine HOP.mono ?_
  clear HOP
  rintro e w3 ⟨hb3, hop⟩
  have HB3 : Hid (Below w2.heap.size w2 w3) := hb3
  have HS3 : Hid (Sl w w3 w.heap.size g c v0 v1 l) := HS2.out.below hb3
  have HRO : Hid (Calls Tryd.prog 14 #[.slice a N cap] w3 fun e w' => DocIs w3 l e w') := refOpen_any a cap N l w3 (HR.out.1.below HS3.out.bel) HR.out.2.2.1.symm HR.out.2.2.2.1 HR.out.2.2.2.2.1 (by have := HR.out.2.2.2.2.2; omega)
  clear hb3
  have HSM : Hid (∀ w6, Sl w w6 w.heap.size g c v0 v1 l → Calls Tryd.prog 15 #[.slice (some ⟨g, 0, none⟩) N (N + 600), .slice a N cap] w6 fun e w' => e = .returned (.bool true) ∧ Below w6.heap.size w6 w') := fun w6 hs =>
    (same_any (some ⟨g, 0, none⟩) a (N + 600) cap N N l w6 hs.isB (HR.out.1.below hs.bel) (by have := HR.out.2.2.2.2.2; have := HR.out.2.2.1; omega) HR.out.2.2.1.symm HR.out.2.2.1.symm).mono fun e w' ⟨h1, n9, h2⟩ => ⟨h1, by rw [h2]; exact below_drewN (Below.refl _ _) _⟩
  have HHD : Hid (∀ W l', Sl w W w.heap.size g c v0 v1 l' → Calls Tryd.prog 22 #[.pointer (some ⟨w.heap.size, 0, none⟩)] W fun e w' => e = .returned (.bool true) ∧ w' = W) := fun W l' hs => Rom.hold_any _ _ v0 v1 _ W hs.rm (by simp)
  cases ho : opn l with
  | none =>
    rw [ho] at hop
    subst hop
    have HO : Hid (opn l = none) := ho
    clear ho
    dsimp only
    go_wp2_with (go_at_call 14; fail)
    refine HRO.out.mono ?_
    rintro e w4 ⟨hb4, ⟨_, v4, rfl⟩ | ⟨R6, l6, a6, n6, c6, h6, _⟩⟩
    · have HS4 : Hid (Sl w w4 w.heap.size g c v0 v1 l) := HS3.out.below hb4
      clear hb4
      dsimp only
      go_wp2_with (first
        | (go_at_call 15; go_loud (refine (HSM.out _ HS4.out).mono ?_; rintro e w5 ⟨rfl, hb5⟩; have HS5 : Hid (Sl w w5 w.heap.size g c v0 v1 l) := HS4.out.below hb5; clear hb5))
        | (go_at_call 22; go_loud (refine (HHD.out _ _ HS5.out).mono ?_; rintro e w9 ⟨rfl, hw⟩; have hw2 := hw.symm; clear hw; subst hw2))
        | (go_at_call 16; go_loud (refine (num_any _ _).mono ?_; rintro e w9 ⟨rfl, hw⟩; have hw2 := hw.symm; clear hw; subst hw2)))
      go_ret
      exact ⟨rfl, HS5.out.bel⟩
    · rw [HO.out] at h6; cases h6
  | some y =>
    rw [ho] at hop
    obtain ⟨M, rfl, hbk⟩ := hop
    have HF := opn_facts2 (by have := HR.out.2.2.1; have := HR.out.2.2.2.2.2; omega) ho
    have HO : Hid (opn l = some y ∧ BlkF w2.heap.size w3 M 3 (pushes y.1 st0 y.2).b (pushes y.1 st0 y.2).p) := ⟨ho, hbk⟩
    have HY : Hid (1 ≤ y.1 ∧ chain ⟨#[]⟩ y.2 ∧ (∀ e ∈ y.2, 0 ≤ e.2.1) ∧ (pushes y.1 st0 y.2).b.length ≤ 200000 ∧ (pushes y.1 st0 y.2).p.length ≤ 200000 ∧ y.2.length ≤ 200000 ∧ (∀ e ∈ y.2, e.1.size ≤ 1000000) ∧ (wkp (pushes y.1 st0 y.2).b 0).map Prod.snd = y.2) := HF
    clear ho hbk HF
    dsimp only
    go_wp2_with (go_at_call 14; fail)
    refine HRO.out.mono ?_
    rintro e w4 ⟨hb4, ⟨h6, _⟩ | ⟨R6, l6, a6, n6, c6, h6, rfl, hn6, hie6, hg6, hc6, hz6⟩⟩
    · rw [HO.out.1] at h6; cases h6
    · have hy6 : y = (R6, l6) := by rw [HO.out.1] at h6; exact Option.some.inj h6
      have hglt : g < w2.heap.size := HS2.out.row.1
      have HSH : Hid (ShOk (upd (fun _ => 0) g 9) w4 (M, a6, n6, c6) y) := by
        subst hy6
        exact ShOk.of (w := w2) (fun b hb => upd_other _ _ (by omega)) HO.out.2 hb4 HB3.out.size hie6 hn6 hg6
      have HL6 : Hid (n6 = y.2.length ∧ n6 ≤ c6) := by subst hy6; exact ⟨hn6, hc6⟩
      have HS4 : Hid (Sl w w4 w.heap.size g c v0 v1 l) := HS3.out.below hb4
      clear hb4 h6 hn6 hie6 hg6 hc6 hz6 hy6 hglt
      dsimp only
      go_wp2_with (first
        | (go_at_call 15; go_loud (refine (HSM.out _ HS4.out).mono ?_; rintro e w5 ⟨rfl, hb5⟩; have HS5 : Hid (Sl w w5 w.heap.size g c v0 v1 l ∧ Os w w5 g c v0 v1 l (upd (fun _ => 0) g 9) (M, a6, n6, c6) y) := ⟨HS4.out.below hb5, HS4.out.below hb5, HSH.out.below hb5⟩; clear hb5))
        | (go_at_call 22; go_loud (refine (HHD.out _ _ HS5.out.1).mono ?_; rintro e w9 ⟨rfl, hw⟩; have hw2 := hw.symm; clear hw; subst hw2))
        | (go_at_call 16; go_loud (refine (num_any _ _).mono ?_; rintro e w9 ⟨rfl, hw⟩; have hw2 := hw.symm; clear hw; subst hw2)))
      clear HS2 HS3 HS4 HSH HRO HSM HB3 HO
      have HTG : Hid ((upd (fun _ => 0) g 9 : Nat → Nat) g = 9) := upd_same _ _ _
      generalize (upd (fun _ => 0) g 9 : Nat → Nat) = T at *
      have hNb : (N : Int) ≤ 200000 := by have := HR.out.2.2.2.2.2; omega
      go_loopw [13] (fun i wr => ∃ (k : Nat) (l' : List Nat), k ≤ N ∧ i = .int .i64 (k : Int) ∧ Hid (l'.length = N ∧ Os w wr g c v0 v1 l' T (M, a6, n6, c6) y)) (fun i _ => N - (intOf i).toNat)
      case atStart => exact ⟨0, l, Nat.zero_le _, rfl, HR.out.2.2.1, HS5.out.2⟩
      case round =>
        obtain ⟨k, l', hk, rfl, HSL⟩ := hrel
        rename World => wp
        by_cases hlt : k < N
        · have q1 : (k : Int) < (N : Int) := by omega
          obtain ⟨z, hz⟩ : ∃ z, l'[k]? = some z := ⟨_, List.getElem?_eq_getElem (by have := HSL.out.1; omega)⟩
          have hz256 : z < 256 := HSL.out.2.sl.byte z (List.mem_of_getElem? hz)
          have d0 := HSL.out.2.sl.row.2 k z hz
          rw [Nat.zero_add] at d0
          have d1 := sl_frz HSL.out.2.sl k
          have e1 : IntKind.u8.wrap ((z : Int) + 77) = (((z + 77) % 256 : Nat) : Int) := by rw [IntKind.wrap_u8]; omega
          have e2 : ((z : Int) + 77) % 256 = (((z + 77) % 256 : Nat) : Int) := by omega
          have HNX : Hid (Os w (wp.setCell ⟨g, k, none⟩ (.int .u8 (((z + 77) % 256 : Nat) : Int))) g c v0 v1 (l'.set k ((z + 77) % 256)) T (M, a6, n6, c6) y) := HSL.out.2.set HTG.out hg (by have := HSL.out.1; omega) rfl (Nat.mod_lt _ (by omega))
          generalize (z + 77) % 256 = z2 at *
          clear hz
          go_wp2
          go_roundw
          case rel => exact ⟨k + 1, _, by omega, by go_num, by rw [List.length_set]; exact HSL.out.1, HNX.out⟩
          case measure => simp [intOf]; omega
        · obtain rfl : k = N := by omega
          clear hlt
          have HTb : Hid (∀ W, Below w.heap.size w W → Tab W) := fun W hb => HT.out.below hb HT.out.lt
          go_wp2_with (first | (go_at_call 23; fail))
          refine (anew_any wp (HTb.out _ HSL.out.2.sl.bel) (some ⟨g, 0, none⟩) (k + 600) k l' HSL.out.2.sl.isB (by simp) HSL.out.1 (by omega) (by omega) (by omega)).mono ?_
          rintro e w6 ⟨rfl, hb6⟩
          have HS6 : Hid (Os w w6 g c v0 v1 l' T (M, a6, n6, c6) y) := HSL.out.2.below hb6
          have HAG : Hid (Calls Tryd.prog 24 #[.pointer (some ⟨M, 3, none⟩), .int .i64 nn, .slice a6 n6 c6] w6 fun e w' => e = .returned (.bool true) ∧ Below w6.heap.size w6 w') := again_any w6 M 3 _ _ nn a6 c6 n6 y.2 HS6.out.sh.bl.z HY.out.2.2.2.2.2.2.2 HS6.out.sh.en HL6.out.1 (by have := HL6.out.1; have := HY.out.2.2.2.2.2.1; omega) HL6.out.2
          clear hb6
          dsimp only
          go_wp2_with (first | (go_at_call 24; fail))
          refine HAG.out.mono ?_
          rintro e w7 ⟨rfl, hb7⟩
          have HS7 : Hid (Os w w7 g c v0 v1 l' T (M, a6, n6, c6) y) := HS6.out.below hb7
          clear hb7 HAG HS6 HSL HS5
          have HGV1 : Hid (∀ W, Os w W g c v0 v1 l' T (M, a6, n6, c6) y → Calls Tryd.prog 18 #[.pointer (some ⟨M, 3, none⟩), .int .i64 (-1)] W fun e w' => ∃ a c, e = .returned (.slice a n6 c) ∧ Hid (Erw.IsE w' a y.2) ∧ Below W.heap.size W w') := fun W hS => by
            have h1 := given_any W M 3 _ _ (-1) hS.sh.bl.z (by have := HY.out.2.2.2.1; omega)
            rw [gv_neg, HY.out.2.2.2.2.2.2.2] at h1
            refine h1.mono fun e w' ⟨a, c, e1, e2, _, _, _, e3⟩ => ⟨a, c, by rw [HL6.out.1]; exact e1, e2, e3⟩
          have HSE1 : Hid (∀ W aa cc, Erw.IsE W aa y.2 → Os w W g c v0 v1 l' T (M, a6, n6, c6) y → Calls Tryd.prog 17 #[.slice aa n6 cc, .slice a6 n6 c6] W fun e w' => e = .returned (.bool true) ∧ Below W.heap.size W w') := fun W aa cc hi hS =>
            sameEntries_true aa a6 cc c6 n6 n6 y.2 W hi hS.sh.en HL6.out.1 HL6.out.1 (by have := HL6.out.1; have := HY.out.2.2.2.2.2.1; omega)
          dsimp only
          by_cases hneg : nn < 0
          · have hn1 : ¬ (0 : Int) ≤ nn := by omega
            have HG : Hid ((gv nn y.2).length = n6 ∧ ∀ W, Erw.IsE W a6 y.2 → Erw.IsE W a6 (gv nn y.2)) := by
              have : gv nn y.2 = y.2 := by unfold gv; rw [if_pos hneg]
              rw [this]
              exact ⟨HL6.out.1.symm, fun _ h => h⟩
            have HGV2 : Hid (∀ W, Os w W g c v0 v1 l' T (M, a6, n6, c6) y → Calls Tryd.prog 18 #[.pointer (some ⟨M, 3, none⟩), .int .i64 nn] W fun e w' => ∃ a c, e = .returned (.slice a n6 c) ∧ Hid (Erw.IsE w' a (gv nn y.2)) ∧ Below W.heap.size W w') := fun W hS => by
              have h1 := given_any W M 3 _ _ nn hS.sh.bl.z (by have := HY.out.2.2.2.1; omega)
              rw [HY.out.2.2.2.2.2.2.2] at h1
              refine h1.mono fun e w' ⟨a, c, e1, e2, _, _, _, e3⟩ => ⟨a, c, by rw [← HG.out.1]; exact e1, e2, e3⟩
            have HSE2 : Hid (∀ W aa cc, Erw.IsE W aa (gv nn y.2) → Os w W g c v0 v1 l' T (M, a6, n6, c6) y → Calls Tryd.prog 17 #[.slice aa n6 cc, .slice a6 n6 c6] W fun e w' => e = .returned (.bool true) ∧ Below W.heap.size W w') := fun W aa cc hi hS =>
              sameEntries_true aa a6 cc c6 n6 n6 (gv nn y.2) W hi (HG.out.2 _ hS.sh.en) HG.out.1.symm HG.out.1.symm (by have := HG.out.1; have := HL6.out.1; have := HY.out.2.2.2.2.2.1; omega)
            go_wp2
            go_loopw [15] (fun i wr => ∃ r : Nat, r ≤ 3 ∧ i = .int .i64 (r : Int) ∧ Hid (Os w wr g c v0 v1 l' T (M, a6, n6, c6) y)) (fun i _ => 3 - (intOf i).toNat)
            case atStart => exact ⟨0, by omega, rfl, HS7⟩
            case round =>
              obtain ⟨r, hr3, rfl, HSr⟩ := hrel
              rename World => wr
              by_cases hrt : r < 3
              · have q3 : (r : Int) < 3 := by omega
                go_wp2_with (go_at_call 18; fail)
                refine (HGV1.out _ HSr.out).mono ?_
                rintro e w8 ⟨a8, c8, rfl, HI8, hb8⟩
                have HS8 : Hid (Os w w8 g c v0 v1 l' T (M, a6, n6, c6) y) := HSr.out.below hb8
                clear hb8
                dsimp only
                go_wp2_with (go_at_call 17; fail)
                refine (HSE1.out _ _ _ HI8.out HS8.out).mono ?_
                rintro e w9 ⟨rfl, hb9⟩
                have HS9 : Hid (Os w w9 g c v0 v1 l' T (M, a6, n6, c6) y) := HS8.out.below hb9
                clear hb9
                dsimp only
                go_wp2_with (go_at_call 18; fail)
                refine (HGV2.out _ HS9.out).mono ?_
                rintro e w10 ⟨a10, c10, rfl, HI10, hb10⟩
                have HS10 : Hid (Os w w10 g c v0 v1 l' T (M, a6, n6, c6) y) := HS9.out.below hb10
                clear hb10
                dsimp only
                go_wp2_with (go_at_call 17; fail)
                refine (HSE2.out _ _ _ HI10.out HS10.out).mono ?_
                rintro e w11 ⟨rfl, hb11⟩
                have HS11 : Hid (Os w w11 g c v0 v1 l' T (M, a6, n6, c6) y) := HS10.out.below hb11
                clear hb11
                dsimp only
                go_wp2
                clear HI8 HS8 HS9 HI10 HS10
                go_loopw [16] (fun i wt => ∃ m : Nat, m ≤ KN ∧ i = .int .i64 (m : Int) ∧ Hid (Os w wt g c v0 v1 l' T (M, a6, n6, c6) y)) (fun i _ => KN - (intOf i).toNat)
                case atStart => exact ⟨0, Nat.zero_le _, rfl, HS11⟩
                case round =>
                  obtain ⟨m, hm, rfl, HSt⟩ := hrel
                  rename World => wt
                  by_cases hmt : m < KN
                  · have q2 : (m : Int) < (KN : Int) := by omega
                    obtain ⟨kb, ko, key, rfl, hky, hkb, kc0⟩ := (HK.out.1.below HSt.out.sl.bel).at_ (k := m) (by rw [HK.out.2.1]; exact hmt)
                    have HKY : Hid (key.size ≤ maxLen) := HK.out.2.2 key (List.mem_of_getElem? hky)
                    obtain ⟨xk, xs', xd, xv, xb, hsv⟩ := skV_form (skE y.2 key)
                    have HSK : Hid (Calls Tryd.prog 19 #[.pointer (some ⟨M, 3, none⟩), .string key] wt fun e w' => e = .returned (.tuple #[.agg #[.string xk, .int .u64 xs', .bool xd, .string xv], .bool xb]) ∧ Below wt.heap.size wt w') := by
                      rw [← hsv]
                      exact seek_any wt M 3 y.1 y.2 key HY.out.1 HSt.out.sh.bl.z HY.out.2.1 HY.out.2.2.1 (by have := HY.out.2.2.2.1; omega) (by have := HY.out.2.2.2.2.1; omega)
                    have HRK : Hid (∀ W, Os w W g c v0 v1 l' T (M, a6, n6, c6) y → Calls Tryd.prog 20 #[.slice a6 n6 c6, .string key] W fun e w' => e = .returned (.tuple #[.agg #[.string xk, .int .u64 xs', .bool xd, .string xv], .bool xb]) ∧ Below W.heap.size W w') := fun W hS => by
                      rw [← hsv]
                      exact refSeek_any a6 c6 n6 y.2 key W hS.sh.en HL6.out.1 (by have := HL6.out.1; have := HY.out.2.2.2.2.2.1; omega) HKY.out HY.out.2.2.2.2.2.2.1
                    clear hky hsv hmt
                    go_wp2_with (first
                      | (go_at_call 19; go_loud (refine HSK.out.mono ?_; rintro e w12 ⟨rfl, hb12⟩; have hba : Below wt.heap.size wt (w12.alloc (.cells #[.string xk, .int .u64 xs', .bool xd, .string xv] 30)) := hb12.alloc hb12.size _; have HS12 : Hid (Os w (w12.alloc (.cells #[.string xk, .int .u64 xs', .bool xd, .string xv] 30)) g c v0 v1 l' T (M, a6, n6, c6) y) := HSt.out.below hba; have HE12 : Hid (EntB (w12.alloc (.cells #[.string xk, .int .u64 xs', .bool xd, .string xv] 30)) w12.heap.size xk xs' xd xv) := entB_new w12 _ _ _ _ _; have kc1 := (hba.cell (p := ⟨kb, ko + m, none⟩) hkb).trans kc0; clear hb12 hba))
                      | (go_at_call 20; go_loud (refine (HRK.out _ HS12.out).mono ?_; rintro e w13 ⟨rfl, hb13⟩; have HS13 : Hid (Os w (w13.alloc (.cells #[.string xk, .int .u64 xs', .bool xd, .string xv] 30)) g c v0 v1 l' T (M, a6, n6, c6) y) := (HS12.out.below hb13).below ((Below.refl _ _).alloc (Nat.le_refl _) _); obtain ⟨elt, e0, e1, e2, e3⟩ := HE12.out.below hb13; have ene : ¬ w12.heap.size = w13.heap.size := (by omega); clear hb13)))
                    go_roundw
                    case rel => exact ⟨m + 1, by omega, by go_num, HS13⟩
                    case measure => simp [intOf]; omega
                  · obtain rfl : m = KN := by omega
                    clear hmt
                    go_wp2
                    go_roundw
                    case rel => exact ⟨r + 1, by omega, by go_num, HSt⟩
                    case measure => simp [intOf]; omega
              · obtain rfl : r = 3 := by omega
                clear hrt
                go_wp2_with (go_at_call 22; go_loud (refine (HHD.out _ _ HSr.out.sl).mono ?_; rintro e w9 ⟨rfl, hw⟩; have hw2 := hw.symm; clear hw; subst hw2))
                go_ret
                exact ⟨rfl, HSr.out.sl.bel⟩
          · by_cases hsm : nn < n6
            · have hn1 : (0 : Int) ≤ nn := by omega
              obtain ⟨k2, hk2⟩ : ∃ k2, nn.toNat = k2 := ⟨_, rfl⟩
              have hcc : nn ≤ (c6 : Int) := by have := HL6.out.2; omega
              have HG : Hid ((gv nn y.2).length = k2 ∧ ∀ W, Erw.IsE W a6 y.2 → Erw.IsE W a6 (gv nn y.2)) := by
                have : gv nn y.2 = y.2.take k2 := by unfold gv; rw [if_neg hneg, hk2]
                rw [this]
                exact ⟨by rw [List.length_take]; have := HL6.out.1; omega, fun _ h => isE_take h k2⟩
              have HGV2 : Hid (∀ W, Os w W g c v0 v1 l' T (M, a6, n6, c6) y → Calls Tryd.prog 18 #[.pointer (some ⟨M, 3, none⟩), .int .i64 nn] W fun e w' => ∃ a c, e = .returned (.slice a k2 c) ∧ Hid (Erw.IsE w' a (gv nn y.2)) ∧ Below W.heap.size W w') := fun W hS => by
                have h1 := given_any W M 3 _ _ nn hS.sh.bl.z (by have := HY.out.2.2.2.1; omega)
                rw [HY.out.2.2.2.2.2.2.2] at h1
                refine h1.mono fun e w' ⟨a, c, e1, e2, _, _, _, e3⟩ => ⟨a, c, by rw [← HG.out.1]; exact e1, e2, e3⟩
              have HSE2 : Hid (∀ W aa cc, Erw.IsE W aa (gv nn y.2) → Os w W g c v0 v1 l' T (M, a6, n6, c6) y → Calls Tryd.prog 17 #[.slice aa k2 cc, .slice a6 k2 c6] W fun e w' => e = .returned (.bool true) ∧ Below W.heap.size W w') := fun W aa cc hi hS =>
                sameEntries_true aa a6 cc c6 k2 k2 (gv nn y.2) W hi (HG.out.2 _ hS.sh.en) HG.out.1.symm HG.out.1.symm (by have := HG.out.1; have := HL6.out.1; have := HY.out.2.2.2.2.2.1; omega)
              go_wp2
              go_loopw [15] (fun i wr => ∃ r : Nat, r ≤ 3 ∧ i = .int .i64 (r : Int) ∧ Hid (Os w wr g c v0 v1 l' T (M, a6, n6, c6) y)) (fun i _ => 3 - (intOf i).toNat)
              case atStart => exact ⟨0, by omega, rfl, HS7⟩
              case round =>
                obtain ⟨r, hr3, rfl, HSr⟩ := hrel
                rename World => wr
                by_cases hrt : r < 3
                · have q3 : (r : Int) < 3 := by omega
                  go_wp2_with (go_at_call 18; fail)
                  refine (HGV1.out _ HSr.out).mono ?_
                  rintro e w8 ⟨a8, c8, rfl, HI8, hb8⟩
                  have HS8 : Hid (Os w w8 g c v0 v1 l' T (M, a6, n6, c6) y) := HSr.out.below hb8
                  clear hb8
                  dsimp only
                  go_wp2_with (go_at_call 17; fail)
                  refine (HSE1.out _ _ _ HI8.out HS8.out).mono ?_
                  rintro e w9 ⟨rfl, hb9⟩
                  have HS9 : Hid (Os w w9 g c v0 v1 l' T (M, a6, n6, c6) y) := HS8.out.below hb9
                  clear hb9
                  dsimp only
                  go_wp2_with (go_at_call 18; fail)
                  refine (HGV2.out _ HS9.out).mono ?_
                  rintro e w10 ⟨a10, c10, rfl, HI10, hb10⟩
                  have HS10 : Hid (Os w w10 g c v0 v1 l' T (M, a6, n6, c6) y) := HS9.out.below hb10
                  clear hb10
                  dsimp only
                  go_wp2_with (go_at_call 17; fail)
                  refine (HSE2.out _ _ _ HI10.out HS10.out).mono ?_
                  rintro e w11 ⟨rfl, hb11⟩
                  have HS11 : Hid (Os w w11 g c v0 v1 l' T (M, a6, n6, c6) y) := HS10.out.below hb11
                  clear hb11
                  dsimp only
                  go_wp2
                  clear HI8 HS8 HS9 HI10 HS10
                  go_loopw [16] (fun i wt => ∃ m : Nat, m ≤ KN ∧ i = .int .i64 (m : Int) ∧ Hid (Os w wt g c v0 v1 l' T (M, a6, n6, c6) y)) (fun i _ => KN - (intOf i).toNat)
                  case atStart => exact ⟨0, Nat.zero_le _, rfl, HS11⟩
                  case round =>
                    obtain ⟨m, hm, rfl, HSt⟩ := hrel
                    rename World => wt
                    by_cases hmt : m < KN
                    · have q2 : (m : Int) < (KN : Int) := by omega
                      obtain ⟨kb, ko, key, rfl, hky, hkb, kc0⟩ := (HK.out.1.below HSt.out.sl.bel).at_ (k := m) (by rw [HK.out.2.1]; exact hmt)
                      have HKY : Hid (key.size ≤ maxLen) := HK.out.2.2 key (List.mem_of_getElem? hky)
                      obtain ⟨xk, xs', xd, xv, xb, hsv⟩ := skV_form (skE y.2 key)
                      have HSK : Hid (Calls Tryd.prog 19 #[.pointer (some ⟨M, 3, none⟩), .string key] wt fun e w' => e = .returned (.tuple #[.agg #[.string xk, .int .u64 xs', .bool xd, .string xv], .bool xb]) ∧ Below wt.heap.size wt w') := by
                        rw [← hsv]
                        exact seek_any wt M 3 y.1 y.2 key HY.out.1 HSt.out.sh.bl.z HY.out.2.1 HY.out.2.2.1 (by have := HY.out.2.2.2.1; omega) (by have := HY.out.2.2.2.2.1; omega)
                      have HRK : Hid (∀ W, Os w W g c v0 v1 l' T (M, a6, n6, c6) y → Calls Tryd.prog 20 #[.slice a6 n6 c6, .string key] W fun e w' => e = .returned (.tuple #[.agg #[.string xk, .int .u64 xs', .bool xd, .string xv], .bool xb]) ∧ Below W.heap.size W w') := fun W hS => by
                        rw [← hsv]
                        exact refSeek_any a6 c6 n6 y.2 key W hS.sh.en HL6.out.1 (by have := HL6.out.1; have := HY.out.2.2.2.2.2.1; omega) HKY.out HY.out.2.2.2.2.2.2.1
                      clear hky hsv hmt
                      go_wp2_with (first
                        | (go_at_call 19; go_loud (refine HSK.out.mono ?_; rintro e w12 ⟨rfl, hb12⟩; have hba : Below wt.heap.size wt (w12.alloc (.cells #[.string xk, .int .u64 xs', .bool xd, .string xv] 30)) := hb12.alloc hb12.size _; have HS12 : Hid (Os w (w12.alloc (.cells #[.string xk, .int .u64 xs', .bool xd, .string xv] 30)) g c v0 v1 l' T (M, a6, n6, c6) y) := HSt.out.below hba; have HE12 : Hid (EntB (w12.alloc (.cells #[.string xk, .int .u64 xs', .bool xd, .string xv] 30)) w12.heap.size xk xs' xd xv) := entB_new w12 _ _ _ _ _; have kc1 := (hba.cell (p := ⟨kb, ko + m, none⟩) hkb).trans kc0; clear hb12 hba))
                        | (go_at_call 20; go_loud (refine (HRK.out _ HS12.out).mono ?_; rintro e w13 ⟨rfl, hb13⟩; have HS13 : Hid (Os w (w13.alloc (.cells #[.string xk, .int .u64 xs', .bool xd, .string xv] 30)) g c v0 v1 l' T (M, a6, n6, c6) y) := (HS12.out.below hb13).below ((Below.refl _ _).alloc (Nat.le_refl _) _); obtain ⟨elt, e0, e1, e2, e3⟩ := HE12.out.below hb13; have ene : ¬ w12.heap.size = w13.heap.size := (by omega); clear hb13)))
                      go_roundw
                      case rel => exact ⟨m + 1, by omega, by go_num, HS13⟩
                      case measure => simp [intOf]; omega
                    · obtain rfl : m = KN := by omega
                      clear hmt
                      go_wp2
                      go_roundw
                      case rel => exact ⟨r + 1, by omega, by go_num, HSt⟩
                      case measure => simp [intOf]; omega
                · obtain rfl : r = 3 := by omega
                  clear hrt
                  go_wp2_with (go_at_call 22; go_loud (refine (HHD.out _ _ HSr.out.sl).mono ?_; rintro e w9 ⟨rfl, hw⟩; have hw2 := hw.symm; clear hw; subst hw2))
                  go_ret
                  exact ⟨rfl, HSr.out.sl.bel⟩
            · have hn1 : (0 : Int) ≤ nn := by omega
              have hn2 : (n6 : Int) ≤ nn := by omega
              have HG : Hid ((gv nn y.2).length = n6 ∧ ∀ W, Erw.IsE W a6 y.2 → Erw.IsE W a6 (gv nn y.2)) := by
                have : gv nn y.2 = y.2 := by unfold gv; rw [if_neg hneg]; exact List.take_of_length_le (by have := HL6.out.1; omega)
                rw [this]
                exact ⟨HL6.out.1.symm, fun _ h => h⟩
              have HGV2 : Hid (∀ W, Os w W g c v0 v1 l' T (M, a6, n6, c6) y → Calls Tryd.prog 18 #[.pointer (some ⟨M, 3, none⟩), .int .i64 nn] W fun e w' => ∃ a c, e = .returned (.slice a n6 c) ∧ Hid (Erw.IsE w' a (gv nn y.2)) ∧ Below W.heap.size W w') := fun W hS => by
                have h1 := given_any W M 3 _ _ nn hS.sh.bl.z (by have := HY.out.2.2.2.1; omega)
                rw [HY.out.2.2.2.2.2.2.2] at h1
                refine h1.mono fun e w' ⟨a, c, e1, e2, _, _, _, e3⟩ => ⟨a, c, by rw [← HG.out.1]; exact e1, e2, e3⟩
              have HSE2 : Hid (∀ W aa cc, Erw.IsE W aa (gv nn y.2) → Os w W g c v0 v1 l' T (M, a6, n6, c6) y → Calls Tryd.prog 17 #[.slice aa n6 cc, .slice a6 n6 c6] W fun e w' => e = .returned (.bool true) ∧ Below W.heap.size W w') := fun W aa cc hi hS =>
                sameEntries_true aa a6 cc c6 n6 n6 (gv nn y.2) W hi (HG.out.2 _ hS.sh.en) HG.out.1.symm HG.out.1.symm (by have := HG.out.1; have := HL6.out.1; have := HY.out.2.2.2.2.2.1; omega)
              go_wp2
              go_loopw [15] (fun i wr => ∃ r : Nat, r ≤ 3 ∧ i = .int .i64 (r : Int) ∧ Hid (Os w wr g c v0 v1 l' T (M, a6, n6, c6) y)) (fun i _ => 3 - (intOf i).toNat)
              case atStart => exact ⟨0, by omega, rfl, HS7⟩
              case round =>
                obtain ⟨r, hr3, rfl, HSr⟩ := hrel
                rename World => wr
                by_cases hrt : r < 3
                · have q3 : (r : Int) < 3 := by omega
                  go_wp2_with (go_at_call 18; fail)
                  refine (HGV1.out _ HSr.out).mono ?_
                  rintro e w8 ⟨a8, c8, rfl, HI8, hb8⟩
                  have HS8 : Hid (Os w w8 g c v0 v1 l' T (M, a6, n6, c6) y) := HSr.out.below hb8
                  clear hb8
                  dsimp only
                  go_wp2_with (go_at_call 17; fail)
                  refine (HSE1.out _ _ _ HI8.out HS8.out).mono ?_
                  rintro e w9 ⟨rfl, hb9⟩
                  have HS9 : Hid (Os w w9 g c v0 v1 l' T (M, a6, n6, c6) y) := HS8.out.below hb9
                  clear hb9
                  dsimp only
                  go_wp2_with (go_at_call 18; fail)
                  refine (HGV2.out _ HS9.out).mono ?_
                  rintro e w10 ⟨a10, c10, rfl, HI10, hb10⟩
                  have HS10 : Hid (Os w w10 g c v0 v1 l' T (M, a6, n6, c6) y) := HS9.out.below hb10
                  clear hb10
                  dsimp only
                  go_wp2_with (go_at_call 17; fail)
                  refine (HSE2.out _ _ _ HI10.out HS10.out).mono ?_
                  rintro e w11 ⟨rfl, hb11⟩
                  have HS11 : Hid (Os w w11 g c v0 v1 l' T (M, a6, n6, c6) y) := HS10.out.below hb11
                  clear hb11
                  dsimp only
                  go_wp2
                  clear HI8 HS8 HS9 HI10 HS10
                  go_loopw [16] (fun i wt => ∃ m : Nat, m ≤ KN ∧ i = .int .i64 (m : Int) ∧ Hid (Os w wt g c v0 v1 l' T (M, a6, n6, c6) y)) (fun i _ => KN - (intOf i).toNat)
                  case atStart => exact ⟨0, Nat.zero_le _, rfl, HS11⟩
                  case round =>
                    obtain ⟨m, hm, rfl, HSt⟩ := hrel
                    rename World => wt
                    by_cases hmt : m < KN
                    · have q2 : (m : Int) < (KN : Int) := by omega
                      obtain ⟨kb, ko, key, rfl, hky, hkb, kc0⟩ := (HK.out.1.below HSt.out.sl.bel).at_ (k := m) (by rw [HK.out.2.1]; exact hmt)
                      have HKY : Hid (key.size ≤ maxLen) := HK.out.2.2 key (List.mem_of_getElem? hky)
                      obtain ⟨xk, xs', xd, xv, xb, hsv⟩ := skV_form (skE y.2 key)
                      have HSK : Hid (Calls Tryd.prog 19 #[.pointer (some ⟨M, 3, none⟩), .string key] wt fun e w' => e = .returned (.tuple #[.agg #[.string xk, .int .u64 xs', .bool xd, .string xv], .bool xb]) ∧ Below wt.heap.size wt w') := by
                        rw [← hsv]
                        exact seek_any wt M 3 y.1 y.2 key HY.out.1 HSt.out.sh.bl.z HY.out.2.1 HY.out.2.2.1 (by have := HY.out.2.2.2.1; omega) (by have := HY.out.2.2.2.2.1; omega)
                      have HRK : Hid (∀ W, Os w W g c v0 v1 l' T (M, a6, n6, c6) y → Calls Tryd.prog 20 #[.slice a6 n6 c6, .string key] W fun e w' => e = .returned (.tuple #[.agg #[.string xk, .int .u64 xs', .bool xd, .string xv], .bool xb]) ∧ Below W.heap.size W w') := fun W hS => by
                        rw [← hsv]
                        exact refSeek_any a6 c6 n6 y.2 key W hS.sh.en HL6.out.1 (by have := HL6.out.1; have := HY.out.2.2.2.2.2.1; omega) HKY.out HY.out.2.2.2.2.2.2.1
                      clear hky hsv hmt
                      go_wp2_with (first
                        | (go_at_call 19; go_loud (refine HSK.out.mono ?_; rintro e w12 ⟨rfl, hb12⟩; have hba : Below wt.heap.size wt (w12.alloc (.cells #[.string xk, .int .u64 xs', .bool xd, .string xv] 30)) := hb12.alloc hb12.size _; have HS12 : Hid (Os w (w12.alloc (.cells #[.string xk, .int .u64 xs', .bool xd, .string xv] 30)) g c v0 v1 l' T (M, a6, n6, c6) y) := HSt.out.below hba; have HE12 : Hid (EntB (w12.alloc (.cells #[.string xk, .int .u64 xs', .bool xd, .string xv] 30)) w12.heap.size xk xs' xd xv) := entB_new w12 _ _ _ _ _; have kc1 := (hba.cell (p := ⟨kb, ko + m, none⟩) hkb).trans kc0; clear hb12 hba))
                        | (go_at_call 20; go_loud (refine (HRK.out _ HS12.out).mono ?_; rintro e w13 ⟨rfl, hb13⟩; have HS13 : Hid (Os w (w13.alloc (.cells #[.string xk, .int .u64 xs', .bool xd, .string xv] 30)) g c v0 v1 l' T (M, a6, n6, c6) y) := (HS12.out.below hb13).below ((Below.refl _ _).alloc (Nat.le_refl _) _); obtain ⟨elt, e0, e1, e2, e3⟩ := HE12.out.below hb13; have ene : ¬ w12.heap.size = w13.heap.size := (by omega); clear hb13)))
                      go_roundw
                      case rel => exact ⟨m + 1, by omega, by go_num, HS13⟩
                      case measure => simp [intOf]; omega
                    · obtain rfl : m = KN := by omega
                      clear hmt
                      go_wp2
                      go_roundw
                      case rel => exact ⟨r + 1, by omega, by go_num, HSt⟩
                      case measure => simp [intOf]; omega
                · obtain rfl : r = 3 := by omega
                  clear hrt
                  go_wp2_with (go_at_call 22; go_loud (refine (HHD.out _ _ HSr.out.sl).mono ?_; rintro e w9 ⟨rfl, hw⟩; have hw2 := hw.symm; clear hw; subst hw2))
                  go_ret
                  exact ⟨rfl, HSr.out.sl.bel⟩
end Qv
end Go.Proofs.YtkebbmdghnplmaaDoor
