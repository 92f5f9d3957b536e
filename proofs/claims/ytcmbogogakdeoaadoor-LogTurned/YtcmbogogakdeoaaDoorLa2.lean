import Derived.Test.YtcmbogogakdeoaaDoorLa1
import Derived.Deep.DeepCutAuto
import Derived.Deep.RegionLaw
namespace Go.Proofs.YtcmbogogakdeoaaDoor
namespace Lga
open Go.RowKit CMath Byt Cod Lg Laws
set_option linter.unusedVariables false
set_option maxRecDepth 20000

theorem isB_drop {w : World} {b off : Nat} {l : List Nat} (h : IsB w (some ⟨b, off, none⟩) l) (n : Nat) : IsB w (some ⟨b, off + n, none⟩) (l.drop n) := by
  refine ⟨fun hne => ?_, fun x hx => h.2 x (List.mem_of_mem_drop hx)⟩
  obtain ⟨b', off', e, hr⟩ := h.1 (by rintro rfl; simp at hne)
  cases e
  exact ⟨b, off + n, rfl, hr.drop n⟩
theorem zer_cells (n : Nat) : (madeCells (Value.int .u8 0).cells (n * 1)).toList = cellsB (zer n) := by
  rw [Nat.mul_one]
  simp only [madeCells, cellsB, zer, Value.cells]
  rw [List.map_replicate]
  refine List.ext_getElem (by simp) fun i h1 h2 => ?_
  simp [Nat.mod_one]
theorem tab_drew {W : World} (h : Tab W) : Tab W.drew := h.keep rfl (Nat.le_refl _)
set_option maxHeartbeats 1000000 in
theorem append_any (at' : Int) (a : Option Addr) (cap n : Nat) (l : List Nat) (w : World) (hi : IsB w a l) (hc : a = none → cap = 0) (hcap : l.length ≤ cap) (hmx : cap ≤ 9223372036854775807) (ht : Tab w) (hn : n = l.length) (h47 : 8 * l.length + 4096 ≤ 140737488355328) (hat : -9223372036854775808 ≤ at' ∧ at' ≤ 9223372036854775807) :
    Calls Tryd.prog 13 #[.int .i64 at', .slice a n cap] w fun e w' => ∃ v, e = .returned v ∧ Own 5 w.heap.size w' v (app at'.toNat l) ∧ Below w.heap.size w w' := by
  subst hn
  obtain ⟨i8, hinf, hz0, hz1, hz2⟩ := info_parts info8
  have HI : Hid (IsB w a l) := hi
  have HN : Hid (a = none → cap = 0) := hc
  have HT : Hid (Tab w) := ht
  clear hi hc ht
  obtain ⟨A, hA⟩ : ∃ A : Nat, max at' 0 = (A : Int) := ⟨at'.toNat, by omega⟩
  obtain rfl : at'.toNat = A := by omega
  generalize at'.toNat = A at *
  have hA2 : A ≤ 9223372036854775807 := by omega
  obtain ⟨B, hB⟩ : ∃ B, 512 - A % 512 = B := ⟨_, rfl⟩
  have hB1 : 1 ≤ B ∧ B ≤ 512 := by omega
  have HB0 : Hid (app A l = if B < 8 then zer B ++ lay false 512 l else lay false B l) := by show _ = _; rw [← hB]; rfl
  have HBB : Hid (Calls Tryd.prog 20 #[.int .i64 (A : Int)] w fun e w' => e = .returned (.int .i64 (B : Int)) ∧ w' = w) := by
    have h := blockLeft_any A _ w rfl hA2; rw [hB] at h; exact h
  go_enter Tryd.func13, Tryd.ntmps13
  go_upto_if 14 with (go_at_call 20; refine HBB.out.mono ?_; rintro e w1 ⟨rfl, hw1⟩; obtain rfl := hw1.symm)
  go_cut [5, 6] (fun x v w' => ∃ (L : Nat) (q : List Nat), x = .int .i64 (L : Int) ∧ 8 ≤ L ∧ L ≤ 512 ∧ q.length ≤ 8 ∧ Hid (q ++ lay false L l = app A l ∧ (∀ y ∈ q, y < 256) ∧ w'.ownsRow w.heap.size 5 1 v q.length (cellsB q) ∧ Below w.heap.size w w'))
  case first =>
    by_cases h8 : B < 8
    · have q1 : (B : Int) < 8 := by omega
      go_wp2_with (at_make; refine wpList_make_full _ (by rfl) (.tmp 15) (.tmp 15) 23 (by rfl) w.heap.size 5 i8 _ 1 Tryd.underlying23 hinf hz0 hz1 .i64 .i64 _ _ B (by rfl) (by rfl) rfl rfl (by rw [hz2]; omega) (by unfold maxLen; omega) (Nat.le_refl _) ?_; intro w1 hown1 hgr1; have HG1 : Hid (w1.ownsRow w.heap.size 5 1 (.slice (some ⟨w.heap.size, 0, none⟩) B B) B (cellsB (zer B)) ∧ Below w.heap.size w w1) := ⟨by rw [← zer_cells]; exact hown1, below_of (Below.refl _ _) hgr1 (Nat.le_refl _) (by simp)⟩; clear hown1 hgr1)
      go_meet
      case rel =>
        refine ⟨512, zer B, rfl, by omega, by omega, by rw [zer_length]; omega, ?_⟩
        refine ⟨by rw [HB0.out, if_pos h8], ?_, by rw [zer_length]; exact HG1.out.1, HG1.out.2⟩
        intro y hy
        obtain ⟨_, rfl⟩ := List.mem_replicate.1 hy
        omega
    · have q1 : ¬ (B : Int) < 8 := by omega
      go_wp2
      go_meet
      case rel => exact ⟨B, [], rfl, by omega, by omega, by simp, by rw [HB0.out, if_neg h8]; rfl, by simp, World.ownsRow_nil _ _ _ _, Below.refl _ _⟩
  case rest =>
    obtain ⟨L, q, rfl, hL8, hL5, hq8, HQ⟩ := hcut
    rename World => w1
    clear hA HB0 HBB hB hB1 hat hA2
    go_wp2
    go_loopw [1, 5, 6, 7] (fun vr vl v vb wr => ∃ (r pre : List Nat) (a' : Option Addr) (c' left : Nat) (begun : Bool), vr = .slice a' r.length c' ∧ vl = .int .i64 (left : Int) ∧ vb = .bool begun ∧ 8 ≤ left ∧ left ≤ 512 ∧ r.length ≤ l.length ∧ r.length ≤ c' ∧ c' ≤ 9223372036854775807 ∧ pre.length + 8 * r.length ≤ 8 * l.length + 8 ∧ (a' = none → c' = 0) ∧ Hid (IsB w a' r ∧ pre ++ lay begun left r = app A l ∧ (∀ y ∈ pre, y < 256) ∧ wr.ownsRow w.heap.size 5 1 v pre.length (cellsB pre) ∧ Below w.heap.size w wr)) (fun vr _ _ _ _ => match vr with | .slice _ n _ => n | _ => 0)
    case atStart => exact ⟨l, q, a, cap, L, false, rfl, rfl, rfl, hL8, hL5, Nat.le_refl _, hcap, hmx, by omega, HN.out, HI.out, HQ.out.1, HQ.out.2.1, HQ.out.2.2.1, HQ.out.2.2.2⟩
    case round =>
      clear hL8 hL5 hq8 HQ
      obtain ⟨r, pre, a', c', left, begun, rfl, rfl, rfl, h8, h5, hrl, hrc, hc', hpl, hna, HR⟩ := hrel
      rename World => wr
      obtain ⟨m, hm⟩ : ∃ m : Nat, (left : Int) - 7 = (m : Int) := ⟨left - 7, by omega⟩
      have hml : left - 7 = m := by omega
      by_cases hle : r.length ≤ m
      · have q1 : min (r.length : Int) (m : Int) = (r.length : Int) := by omega
        have HL : Hid (lay begun left r = pie (kd begun true) r) := lay_end (by omega)
        have HF : Hid (IsB wr.drew a' r) := HR.out.1.below HR.out.2.2.2.2.drew
        cases a' with
        | none =>
          obtain rfl : c' = 0 := hna rfl
          have hr0 := HR.out.1.none
          subst hr0
          have q2 : min (0 : Int) (m : Int) = 0 := by omega
          have HAP : Hid (Calls Tryd.prog 21 #[_, .int .u8 ((kd begun true : Nat) : Int), .slice none 0 0] wr.drew fun e w' => ∃ v, e = .returned v ∧ Own 5 w.heap.size w' v (pre ++ pie (kd begun true) []) ∧ Below w.heap.size wr.drew w') := appendPiece_any w.heap.size _ pre (kd begun true) none 0 _ [] wr.drew HR.out.2.2.2.1.drew HR.out.2.2.1 (kd_lt _ _) (HF.out) hna (by simp; try omega) (HT.out.below HR.out.2.2.2.2.drew HT.out.lt) HR.out.2.2.2.2.size HT.out.lt (by simp; omega)
          go_upto_region 10 with (fail)
          go_region_law (first
                      | (go_simp; go_at_call 22; refine (kindOf_any begun true wr.drew).mono ?_; rintro e w3 ⟨rfl, hw3⟩; obtain rfl := hw3)
                      | (go_simp; go_at_call 21; refine (HAP.out).mono ?_; rintro e w4 ⟨v4, rfl, ho4, hb4⟩; have HO4 : Hid (Own 5 w.heap.size w4 v4 (pre ++ pie (kd begun true) []) ∧ Below w.heap.size w w4) := ⟨ho4, HR.out.2.2.2.2.drew.trans hb4⟩; clear ho4 hb4))
          go_wp2_with fail
          go_ret
          refine ⟨v4, rfl, ?_, HO4.out.2⟩
          rw [← HR.out.2.1, HL.out]
          exact HO4.out.1
        | some ad =>
          have q2 : (r.length : Int) ≤ (c' : Int) := by omega
          have HAP : Hid (Calls Tryd.prog 21 #[_, .int .u8 ((kd begun true : Nat) : Int), .slice (some ad) r.length c'] wr.drew fun e w' => ∃ v, e = .returned v ∧ Own 5 w.heap.size w' v (pre ++ pie (kd begun true) r) ∧ Below w.heap.size wr.drew w') := appendPiece_any w.heap.size _ pre (kd begun true) (some ad) c' _ r wr.drew HR.out.2.2.2.1.drew HR.out.2.2.1 (kd_lt _ _) (HF.out) hna (by simp; try omega) (HT.out.below HR.out.2.2.2.2.drew HT.out.lt) HR.out.2.2.2.2.size HT.out.lt (by simp; omega)
          go_upto_region 10 with (fail)
          go_region_law (first
                      | (go_simp; go_at_call 22; refine (kindOf_any begun true wr.drew).mono ?_; rintro e w3 ⟨rfl, hw3⟩; obtain rfl := hw3)
                      | (go_simp; go_at_call 21; refine (HAP.out).mono ?_; rintro e w4 ⟨v4, rfl, ho4, hb4⟩; have HO4 : Hid (Own 5 w.heap.size w4 v4 (pre ++ pie (kd begun true) r) ∧ Below w.heap.size w w4) := ⟨ho4, HR.out.2.2.2.2.drew.trans hb4⟩; clear ho4 hb4))
          go_wp2_with fail
          go_ret
          refine ⟨v4, rfl, ?_, HO4.out.2⟩
          rw [← HR.out.2.1, HL.out]
          exact HO4.out.1
      · have q1 : min (r.length : Int) (m : Int) = (m : Int) := by omega
        have q2 : ((m : Int) == (r.length : Int)) = false := by simp; omega
        have q3 : ¬ (m : Int) = (r.length : Int) := by omega
        have q4 : ¬ m = r.length := by omega
        have q5 : (m : Int) ≤ (c' : Int) := by omega
        have q6 : (m : Int) ≤ (r.length : Int) := by omega
        have hne : r ≠ [] := by intro e; rw [e] at hle; simp at hle
        obtain ⟨b, off, rfl, _⟩ := HR.out.1.1 hne
        have HL : Hid (lay begun left r = pie (kd begun false) (r.take m) ++ lay true 512 (r.drop m)) := by show _ = _; rw [← hml]; exact lay_on (by omega) h8
        have HF : Hid (IsB wr.drew (some ⟨b, off, none⟩) (r.take m)) := (HR.out.1.below HR.out.2.2.2.2.drew).take m
        have htk : (r.take m).length = m := by simp; omega
        have hdl : (r.drop m).length = r.length - m := by simp
        have HAP : Hid (Calls Tryd.prog 21 #[_, .int .u8 ((kd begun false : Nat) : Int), .slice (some ⟨b, off, none⟩) m c'] wr.drew fun e w' => ∃ v, e = .returned v ∧ Own 5 w.heap.size w' v (pre ++ pie (kd begun false) (r.take m)) ∧ Below w.heap.size wr.drew w') := appendPiece_any w.heap.size _ pre (kd begun false) (some ⟨b, off, none⟩) c' _ (r.take m) wr.drew HR.out.2.2.2.1.drew HR.out.2.2.1 (kd_lt _ _) (HF.out) hna (by simp; try omega) (HT.out.below HR.out.2.2.2.2.drew HT.out.lt) HR.out.2.2.2.2.size HT.out.lt (by simp; omega)
        go_upto_region 10 with (fail)
        go_region_law (first
                    | (go_simp; go_at_call 22; refine (kindOf_any begun false wr.drew).mono ?_; rintro e w3 ⟨rfl, hw3⟩; obtain rfl := hw3)
                    | (go_simp; go_at_call 21; refine (HAP.out).mono ?_; rintro e w4 ⟨v4, rfl, ho4, hb4⟩; have HO4 : Hid (Own 5 w.heap.size w4 v4 (pre ++ pie (kd begun false) (r.take m)) ∧ Below w.heap.size w w4) := ⟨ho4, HR.out.2.2.2.2.drew.trans hb4⟩; clear ho4 hb4))
        go_wp2_with fail
        go_roundw
        case rel =>
          refine ⟨r.drop m, pre ++ pie (kd begun false) (r.take m), some ⟨b, off + m, none⟩, c' - m, 512, true, ?_, rfl, rfl, by omega, by omega, by omega, by omega, by omega, ?_, by simp, isB_drop HR.out.1 m, ?_, ?_, ?_, HO4.out.2⟩
          · rw [hdl]
          · rw [List.length_append, pie_length]; omega
          · rw [← HR.out.2.1, HL.out, List.append_assoc]
          · exact HO4.out.1.byte
          · exact HO4.out.1.row
        case measure => show r.length - m < r.length; omega

end Lga
end Go.Proofs.YtcmbogogakdeoaaDoor
