import Derived.Test.YtjfhhjkggjflfaaDoorBr1
import Derived.BigRegion
import Derived.Deep.DeepCutAuto
import Derived.Deep.RegionLaw
import Derived.Deep.RegionHeld3
namespace Go.Proofs.YtjfhhjkggjflfaaDoor
namespace Blr
open Go.RowKit CMath Byt Cod Laws Tsr BMath Blo
set_option linter.unusedVariables false
set_option maxRecDepth 20000

/-- What stands while the document's Make goes on. -/
structure Rz (w : World) (L : List Nat) (W : World) : Prop where
  bel : Below w.heap.size w W
  blk : Blk W w.heap.size L
theorem Rz.below {w W W' : World} {L : List Nat} (h : Rz w L W) (hb : Below W.heap.size W W') : Rz w L W' := ⟨h.bel.trans (hb.mono h.bel.size), (hb.block _ h.blk.lt).trans h.blk⟩
theorem Rz.set {w W : World} {L : List Nat} (h : Rz w L W) (i v : Nat) (z : Int) (hz : z = (v : Int)) : Rz w (L.set i v) (W.setCell ⟨w.heap.size, i, none⟩ (.int .u8 z)) := ⟨h.bel.setCell (p := ⟨w.heap.size, i, none⟩) (by simp) _, h.blk.set hz⟩

set_option maxHeartbeats 4000000 in
theorem refMake_any (a : Option Addr) (cap n : Nat) (ks : List ByteArray) (b : Int) (w : World) (h : IsT w a ks) (hb : -9223372036854775808 ≤ b ∧ b ≤ 9223372036854775807) (hlen : ks.length ≤ 140737488355328) (hsz : ∀ s ∈ ks, s.size ≤ 9223372036854775807) (hn : n = ks.length) :
    Calls Tryd.prog 8 #[.slice a n cap, .int .i64 b] w (MakeAns w ks b) := by
  subst hn
  have HI : Hid (IsT w a ks) := h
  have HS : Hid (∀ s ∈ ks, s.size ≤ 9223372036854775807) := hsz
  clear h hsz
  by_cases hbk : b < 1 ∨ ks = []
  · have HM : Hid (mk (ks.map strB) b = []) := by show mk (ks.map strB) b = []; unfold mk; rw [if_pos (by simpa using hbk)]
    have q1 : ¬ b < 1 → (ks.length : Int) = 0 := fun h => by rcases hbk with h1 | h1; exact absurd h1 h; rw [h1]; rfl
    by_cases hb1 : b < 1
    · go_enter Tryd.func8, Tryd.ntmps8
      go_wp2
      go_ret
      exact ⟨none, 0, by rw [HM.out]; rfl, by rw [HM.out]; exact new_nil _ _, Below.refl _ _⟩
    · have q2 := q1 hb1
      clear q1
      go_enter Tryd.func8, Tryd.ntmps8
      go_wp2
      go_ret
      exact ⟨none, 0, by rw [HM.out]; rfl, by rw [HM.out]; exact new_nil _ _, Below.refl _ _⟩
  · have q1 : ¬ b < 1 := fun h => hbk (.inl h)
    have hpos : 0 < ks.length := by
      rcases Nat.eq_zero_or_pos ks.length with h | h
      · exact absurd (.inr (List.eq_nil_of_length_eq_zero h)) hbk
      · exact h
    have q2 : ((ks.length : Int) == 0) = false := by rw [beq_eq_false_iff_ne]; omega
    obtain ⟨bn, hbn⟩ : ∃ bn : Nat, min b 16 = (bn : Int) := ⟨(min b 16).toNat, by omega⟩
    have hb16 : bn ≤ 16 := by omega
    have HMK : Hid (mk (ks.map strB) b = body (ks.map strB) (places ks.length bn) (probesN bn) ++ [probesN bn]) := by
      show mk (ks.map strB) b = _
      unfold mk
      rw [if_neg (by simpa using hbk), List.length_map, hbn, Int.toNat_natCast]
    have HBN : Hid (min b 16 = (bn : Int)) := hbn
    clear hbn hbk
    go_enter Tryd.func8, Tryd.ntmps8
    go_upto_if 19 with (fail)
    go_cut [1] (fun x w' => x = .int .i64 (bn : Int) ∧ w' = w)
    case first =>
      by_cases h16 : 16 < b
      · have q0 : (16 : Int) = (bn : Int) := by have := HBN.out; omega
        go_wp2
        go_meet
        case rel => exact ⟨by rw [← q0], rfl⟩
      · have HQ : Hid (b = (bn : Int)) := by have := HBN.out; show b = (bn : Int); omega
        go_wp2
        go_meet
        case rel => exact ⟨by rw [← HQ.out], rfl⟩
    case rest =>
      obtain ⟨rfl, hw0⟩ := hcut
      obtain rfl := hw0.symm
      clear hw0
      have hp : ks.length * bn ≤ 2251799813685248 := by
        have := Nat.mul_le_mul hlen hb16
        omega
      obtain ⟨m0, hm0⟩ : ∃ m0, ks.length * bn = m0 := ⟨_, rfl⟩
      have hmi : (ks.length : Int) * (bn : Int) = (m0 : Int) := by rw [← hm0]; simp
      rw [hm0] at hp
      have HPL : Hid (places ks.length bn = min ((max m0 64 + 7) / 8 * 8) 1048576) := by show _ = _; unfold places; rw [hm0]
      have hpl8 := places_8 ks.length bn
      clear hm0
      obtain ⟨m1, hm1⟩ : ∃ m1, max m0 64 = m1 := ⟨_, rfl⟩
      obtain ⟨m2, hm2⟩ : ∃ m2, min m1 1048576 = m2 := ⟨_, rfl⟩
      go_upto_if 25 with (fail)
      go_cut [5, 25] (fun x _ w' => x = .int .i64 (m1 : Int) ∧ w' = w)
      case first =>
        by_cases h64 : m0 < 64
        · have q3 : (m0 : Int) < 64 := by omega
          have q0 : (64 : Int) = (m1 : Int) := by omega
          go_wp2
          go_meet
          case rel => exact ⟨by rw [← q0], rfl⟩
        · have q3 : ¬ (m0 : Int) < 64 := by omega
          have HQ : Hid (m0 = m1) := by show m0 = m1; omega
          go_wp2
          go_meet
          case rel => exact ⟨by rw [← HQ.out], rfl⟩
      case rest =>
        obtain ⟨rfl, hw0⟩ := hcut
        obtain rfl := hw0.symm
        clear hw0
        go_upto_if 27 with (fail)
        go_cut [5, 27] (fun x _ w' => x = .int .i64 (m2 : Int) ∧ w' = w)
        case first =>
          by_cases h64 : 1048576 < m1
          · have q3 : (1048576 : Int) < (m1 : Int) := by omega
            have q0 : (1048576 : Int) = (m2 : Int) := by omega
            go_wp2
            go_meet
            case rel => exact ⟨by rw [← q0], rfl⟩
          · have q3 : ¬ (1048576 : Int) < (m1 : Int) := by omega
            have HQ : Hid (m1 = m2) := by show m1 = m2; omega
            go_wp2
            go_meet
            case rel => exact ⟨by rw [← HQ.out], rfl⟩
        case rest =>
          obtain ⟨rfl, hw0⟩ := hcut
          obtain rfl := hw0.symm
          clear hw0
          obtain ⟨k1, k2⟩ := probesN_le hb16
          have HK0 : Hid (max ((bn : Int) * 69 / 100) 1 = ((probesN bn : Nat) : Int)) := by show _ = _; unfold probesN; omega
          have hP8 := hpl8.1
          have hP20 := hpl8.2.2
          have hP64 := hpl8.2.1
          have hPm : m2 ≤ places ks.length bn ∧ places ks.length bn < m2 + 8 := by rw [HPL.out]; omega
          clear hpl8 HPL hm1 hm2 hmi
          generalize places ks.length bn = P at *
          generalize probesN bn = kk at *
          go_wp2_with fail
          go_loopw [5] (fun x wr => ∃ m : Nat, x = .int .i64 (m : Int) ∧ m2 ≤ m ∧ m ≤ P ∧ wr = w) (fun x _ => P - (intOf x).toNat)
          case atStart => exact ⟨m2, rfl, Nat.le_refl _, hPm.1, rfl⟩
          case round =>
            obtain ⟨m, rfl, hmg, hml, hwr⟩ := hrel
            obtain rfl := hwr.symm
            clear hwr
            by_cases hm8 : m % 8 = 0
            · obtain rfl : m = P := by omega
              have q3 : (Int.tmod (m : Int) 8 != 0) = false := by rw [Int.tmod_eq_emod_of_nonneg (by omega)]; simp; omega
              have q4 : ((m : Int) % 8 != 0) = false := by simp; omega
              go_upto_if 37 with (fail)
              go_cut [6, 37] (fun x _ w' => x = .int .i64 (kk : Int) ∧ w' = w)
              case first =>
                by_cases hk1 : (bn : Int) * 69 / 100 < 1
                · have q0 : (1 : Int) = (kk : Int) := by have := HK0.out; omega
                  go_wp2
                  go_meet
                  case rel => exact ⟨by rw [← q0], rfl⟩
                · have HQ : Hid ((bn : Int) * 69 / 100 = (kk : Int)) := by have := HK0.out; show (bn : Int) * 69 / 100 = (kk : Int); omega
                  go_wp2
                  go_meet
                  case rel => exact ⟨by rw [← HQ.out], rfl⟩
              case rest =>
                obtain ⟨rfl, hw0⟩ := hcut
                obtain rfl := hw0.symm
                clear hw0
                obtain ⟨M, hM⟩ : ∃ M, m / 8 = M := ⟨_, rfl⟩
                have hM8 : m = 8 * M := by omega
                subst hM8
                rw [show ((8 * M : Nat) : Int) = 8 * (M : Int) by omega]
                obtain ⟨i0, hi0, hz0, hz1, hz2⟩ := info_parts info8
                obtain ⟨W1, hmk, g1, hb1, hs1⟩ : ∃ W1 : World, (Instr.makeSlice 42 (.int .i64 (M : Int)) (.int .i64 (M : Int))).run Tryd.prog w = .ok (.slice (some ⟨w.heap.size, 0, none⟩) M M) W1 ∧ Blk W1 w.heap.size (List.replicate M 0) ∧ Below w.heap.size w W1 ∧ W1.heap.size = w.heap.size + 1 := by
                  have hr := run_make (P := Tryd.prog) w 42 5 i0 (.int .u8 0) Tryd.underlying42 hi0 hz0 .i64 .i64 (M : Int) (M : Int) (by omega) (by omega) (by rw [hz2]; omega) (by omega)
                  rw [hz1, Int.toNat_natCast, Nat.mul_one] at hr
                  refine ⟨_, hr, ?_, (Below.refl _ _).alloc (Nat.le_refl _) _, by simp⟩
                  have h3 := World.alloc_heap_new w (.cells (madeCells (Value.int .u8 0).cells M) 5)
                  unfold Blk
                  rw [h3]
                  have e1 : madeCells (Value.int .u8 0).cells M = (cellsB (List.replicate M 0)).toArray := by
                    apply Array.toList_inj.1
                    have h4 := toList_madeCells_one (.int .u8 0) M
                    rw [show (Value.int .u8 0).cells = #[Value.int .u8 0] from rfl, h4]
                    simp [cellsB]
                  rw [e1]
                have HZ0 : Hid (Rz w (List.replicate M 0) W1) := ⟨hb1, g1⟩
                have qM : (8 * (M : Int)) / 8 = (M : Int) := by omega
                clear hb1 g1 hs1 q3 q4 HK0 HBN q1 q2 hm8 hP8 hml hmg hPm
                go_wp2_with fail
                clear hmk
                go_loopw [8] (fun i wr => ∃ j : Nat, j ≤ ks.length ∧ i = .int .i64 (j : Int) ∧ Rz w (puts (List.replicate M 0) (allP ((ks.take j).map strB) (8 * M) kk)) wr) (fun i _ => ks.length - (intOf i).toNat)
                case atStart => exact ⟨0, Nat.zero_le _, rfl, HZ0.out⟩
                case round =>
                  clear HZ0
                  rename World => wp
                  obtain ⟨j, hj, rfl, hrz⟩ := hrel
                  have HRZ : Hid (Rz w (puts (List.replicate M 0) (allP ((ks.take j).map strB) (8 * M) kk)) wp) := hrz
                  clear hrz
                  by_cases hlt : j < ks.length
                  · obtain ⟨b1, o1, rfl, hr1⟩ := HI.out (by rintro rfl; simp at hlt)
                    obtain ⟨x, hx⟩ : ∃ x, ks[j]? = some x := ⟨_, List.getElem?_eq_getElem hlt⟩
                    have hxs := HS.out x (List.mem_of_getElem? hx)
                    have c0 := (hr1.below HRZ.out.bel hr1.1).2 j x hx
                    have q3 : (j : Int) < (ks.length : Int) := by omega
                    have HPS : Hid (puts (puts (List.replicate M 0) (allP ((ks.take j).map strB) (8 * M) kk)) (spots (crc (strB x)) (8 * M) kk) = puts (List.replicate M 0) (allP ((ks.take (j + 1)).map strB) (8 * M) kk)) := by
                      show _ = _
                      obtain ⟨hjk, hje⟩ := List.getElem?_eq_some_iff.1 hx
                      rw [List.take_succ_eq_append_getElem hjk, hje, List.map_append, List.map_cons, List.map_nil, allP_snoc, puts_append]
                    have HLL : Hid ((puts (List.replicate M 0) (allP ((ks.take j).map strB) (8 * M) kk)).length = M) := by show _ = _; simp
                    have HBY : Hid (∀ z ∈ puts (List.replicate M 0) (allP ((ks.take j).map strB) (8 * M) kk), z < 256) := puts_byte (by intro z hz; have := (List.mem_replicate.1 hz).2; omega) _
                    generalize puts (List.replicate M 0) (allP ((ks.take j).map strB) (8 * M) kk) = L at *
                    clear hr1 hx
                    go_wp2_with fail
                    refine (spots_any x kk (8 * M) wp (by omega) (by omega) (by omega) hxs).mono ?_
                    rintro e w3 ⟨a3, c3, rfl, hN3, hb3, hg3⟩
                    have hsl := spots_length (crc (strB x)) (8 * M) kk
                    have HSP : Hid (∀ p ∈ spots (crc (strB x)) (8 * M) kk, p < 8 * M) := fun p hp => spots_lt (by omega) hp
                    have HN3 : Hid (IsN w3 a3 (spots (crc (strB x)) (8 * M) kk)) := hN3
                    have HG3 : Hid (∀ b off, a3 = some ⟨b, off, none⟩ → wp.heap.size ≤ b) := hg3
                    have HR3 : Hid (Rz w L w3) := HRZ.out.below hb3
                    have hgl := HRZ.out.blk.lt
                    clear hN3 hb3 hg3 HRZ
                    rw [hsl]
                    generalize spots (crc (strB x)) (8 * M) kk = sp at *
                    go_wp2_with fail
                    go_loopw [10] (fun i wr => ∃ t : Nat, t ≤ kk ∧ i = .int .i64 (t : Int) ∧ Rz w (puts L (sp.take t)) wr ∧ IsN wr a3 sp) (fun i _ => kk - (intOf i).toNat)
                    case atStart => exact ⟨0, Nat.zero_le _, rfl, HR3.out, HN3.out⟩
                    case round =>
                      rename World => wq
                      obtain ⟨t, ht, rfl, hrz, hin⟩ := hrel
                      have HRQ : Hid (Rz w (puts L (sp.take t)) wq) := hrz
                      by_cases htk : t < kk
                      · obtain ⟨p, hp⟩ : ∃ p, sp[t]? = some p := ⟨_, List.getElem?_eq_getElem (by omega)⟩
                        obtain ⟨b2, o2, rfl, hr2⟩ := hin (by rintro rfl; simp at hp)
                        have hb2g := HG3.out b2 o2 rfl
                        have hpl := HSP.out p (List.mem_of_getElem? hp)
                        have HLC : Hid ((puts L (sp.take t)).length = M) := by show _ = _; rw [puts_length, HLL.out]
                        obtain ⟨z, hz⟩ : ∃ z, (puts L (sp.take t))[p / 8]? = some z := ⟨_, List.getElem?_eq_getElem (by rw [HLC.out]; omega)⟩
                        have hz256 : z < 256 := puts_byte HBY.out _ z (List.mem_of_getElem? hz)
                        have d0 := hrz.blk.cell hz
                        have d3 : wq.frozen? ⟨w.heap.size, p / 8, none⟩ = false := hrz.blk.frz
                        have d1 := hr2.2 t p hp
                        have HNX : Hid (∀ y : Int, y = ((z ||| 2 ^ (p % 8) : Nat) : Int) → Rz w (puts L (sp.take (t + 1))) (wq.setCell ⟨w.heap.size, p / 8, none⟩ (.int .u8 y)) ∧ IsN (wq.setCell ⟨w.heap.size, p / 8, none⟩ (.int .u8 y)) (some ⟨b2, o2, none⟩) sp) := fun y hy => by
                          have h1 := hrz.set (p / 8) (z ||| 2 ^ (p % 8)) y hy
                          obtain ⟨hpk, hpe⟩ := List.getElem?_eq_some_iff.1 hp
                          refine ⟨?_, IsN.some (hr2.keep (Below.heap_setCell wq _ _ b2 (by simp; omega)) (by simp))⟩
                          rw [List.take_succ_eq_append_getElem hpk, hpe, puts_append, puts_one]
                          unfold put
                          rw [List.getD_eq_getElem?_getD, hz]
                          exact h1
                        have e1 : bits .or .u8 (z : Int) ((2 : Int) ^ (p % 8) % 256) = ((z ||| 2 ^ (p % 8) : Nat) : Int) := by
                          have hp8 : p % 8 < 8 := Nat.mod_lt p (by omega)
                          rw [pow_int hp8, u8_or_nat z (2 ^ (p % 8)) hz256 (pow_lt hp8)]
                        have q5 : (t : Int) < (kk : Int) := by omega
                        have g1 : (p : Int) / 8 < (M : Int) := by omega
                        generalize z ||| 2 ^ (p % 8) = y at *
                        have z1 : ¬ b2 = w.heap.size := by omega
                        have z2 : ¬ w.heap.size = b2 := by omega
                        clear hz hp hr2 hrz hin
                        go_wp2_with fail
                        go_region
                        all_goals (go_wp2)
                        obtain ⟨n1, n2⟩ := HNX.out _ rfl
                        have hdr : Below (wq.setCell ⟨w.heap.size, p / 8, none⟩ (.int .u8 (y : Int))).heap.size (wq.setCell ⟨w.heap.size, p / 8, none⟩ (.int .u8 (y : Int))) (wq.setCell ⟨w.heap.size, p / 8, none⟩ (.int .u8 (y : Int))).drew := ⟨rfl, rfl, rfl, Nat.le_refl _, fun _ _ => rfl⟩
                        exact ⟨⟨t + 1, by omega, by go_num, n1.below hdr, n2.below hdr⟩, by simp [intOf]; omega⟩
                      · obtain rfl : t = kk := by omega
                        have HR9 : Hid (Rz w (puts (List.replicate M 0) (allP ((ks.take (j + 1)).map strB) (8 * M) t)) wq) := by
                          have h9 := HRQ.out
                          rw [List.take_of_length_le (by omega), HPS.out] at h9
                          exact h9
                        clear hrz hin
                        go_wp2
                        go_roundw
                        case rel => exact ⟨j + 1, by omega, by go_num, HR9.out⟩
                        case measure => simp [intOf]; omega
                  · obtain rfl : j = ks.length := by omega
                    have h9 := HRZ.out
                    rw [List.take_length] at h9
                    have HR9 : Hid (Rz w (body (ks.map strB) (8 * M) kk) wp) := by
                      show Rz _ _ _
                      unfold body
                      rw [hM]
                      exact h9
                    have hbl : (body (ks.map strB) (8 * M) kk).length = M := by rw [body_length, hM]
                    have HBB : Hid (∀ z ∈ body (ks.map strB) (8 * M) kk ++ [kk], z < 256) := by
                      intro z hz
                      rcases List.mem_append.1 hz with hz | hz
                      · exact body_byte _ _ _ z hz
                      · rw [List.mem_singleton.1 hz]; omega
                    have HOW : Hid (wp.ownsRow w.heap.size 5 1 (.slice (some ⟨w.heap.size, 0, none⟩) M M) M (cellsB (body (ks.map strB) (8 * M) kk))) := by
                      have := HR9.out.blk.new (B := w.heap.size) (body_byte _ _ _) (Nat.le_refl _) (by omega)
                      have h2 := this.row
                      rw [hbl] at h2
                      exact h2
                    clear h9 HRZ
                    generalize body (ks.map strB) (8 * M) kk = F at *
                    have hbs := HR9.out.bel.size
                    have e2 : (kk : Int) % 256 = (kk : Int) := by omega
                    go_wp2_with (at_builtin; go_loud (refine wpList_appB (by rfl) (.tmp 83) (.tmp 86) 42 (by rfl) w.heap.size 5 i0 Tryd.underlying42 hi0 hz0 hz1 hz2 _ F M (by rfl) (HOW.out.alloc _) (some ⟨wp.heap.size, 0, none⟩) 1 1 [kk] (by rfl) rfl (by simp) (isB_new (by first | rfl | exact e2) (by omega)) (by omega) (by simp; omega) ?_; intro v2 w2 hown2 hgr2 hnn2; have HG2 : Hid ((wp.alloc _).grownBy w2 _) := hgr2; have HO2 : Hid (w2.ownsRow w.heap.size 5 1 v2 (M + 1) (cellsB (F ++ [kk]))) := hown2; clear hgr2 hown2 hnn2; obtain ⟨a9, c9, hv9, hnew9⟩ := New.of HO2.out HBB.out; subst hv9; have HN9 : Hid (New 5 w.heap.size w2 a9 c9 (F ++ [kk])) := hnew9; have HB9 : Hid (Below w.heap.size w w2) := below_of (HR9.out.bel.alloc hbs _) HG2.out (Nat.le_refl _) (fun j hj => (HOW.out.lt j hj).1); clear hnew9 HO2 HG2))
                    go_ret
                    rw [← HMK.out] at HN9
                    exact ⟨a9, c9, by rw [HMK.out, List.length_append, hbl]; rfl, HN9.out, HB9.out⟩
            · have q3 : (Int.tmod (m : Int) 8 != 0) = true := by rw [Int.tmod_eq_emod_of_nonneg (by omega)]; simp; omega
              have q4 : ((m : Int) % 8 != 0) = true := by simp; omega
              go_wp2
              go_roundw
              case rel => exact ⟨m + 1, by go_num, by omega, by omega, by trivial⟩
              case measure => simp [intOf]; omega
end Blr
end Go.Proofs.YtjfhhjkggjflfaaDoor
