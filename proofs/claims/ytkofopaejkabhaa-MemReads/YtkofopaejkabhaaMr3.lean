import Derived.Test.YtkofopaejkabhaaMr2
namespace Go.Proofs.Ytkofopaejkabhaa
namespace Mem
open Go.RowKit Laws Irw Erw KMath Skm Byt Sk Grp Crw
set_option linter.unusedVariables false
set_option maxRecDepth 100000
set_option linter.unusedSimpArgs false

theorem set3_cells {w : World} {L : Nat} {a0 a1 a2 v0 v1 v2 : Value} (h : w.cell? ⟨L, 0, none⟩ = some a0 ∧ w.cell? ⟨L, 1, none⟩ = some a1 ∧ w.cell? ⟨L, 2, none⟩ = some a2) :
    (((w.setCell ⟨L, 0, none⟩ v0).setCell ⟨L, 1, none⟩ v1).setCell ⟨L, 2, none⟩ v2).cell? ⟨L, 0, none⟩ = some v0 ∧ (((w.setCell ⟨L, 0, none⟩ v0).setCell ⟨L, 1, none⟩ v1).setCell ⟨L, 2, none⟩ v2).cell? ⟨L, 1, none⟩ = some v1 ∧ (((w.setCell ⟨L, 0, none⟩ v0).setCell ⟨L, 1, none⟩ v1).setCell ⟨L, 2, none⟩ v2).cell? ⟨L, 2, none⟩ = some v2 := by
  obtain ⟨h0, h1, h2⟩ := h
  refine ⟨?_, ?_, ?_⟩
  · rw [World.cell?_setCell_other _ _ _ _ (by simp), World.cell?_setCell_other _ _ _ _ (by simp), World.cell?_setCell_same _ _ _ h0]
  · rw [World.cell?_setCell_other _ _ _ _ (by simp)]
    exact World.cell?_setCell_same _ _ _ (by rw [World.cell?_setCell_other _ _ _ _ (by simp)]; exact h1)
  · exact World.cell?_setCell_same _ _ _ (by rw [World.cell?_setCell_other _ _ _ _ (by simp), World.cell?_setCell_other _ _ _ _ (by simp)]; exact h2)
/-- last's two boxes -/
structure Lb (w wr : World) (x : En) : Prop where
  below : Below w.heap.size w wr
  b0 : wr.cell? ⟨w.heap.size + 1, 0, none⟩ = some (.string x.1)
  b1 : wr.cell? ⟨w.heap.size + 1, 1, none⟩ = some (.bool x.2.2.1)
  b2 : wr.cell? ⟨w.heap.size + 1, 2, none⟩ = some (.string x.2.2.2)
  r0 : wr.cell? ⟨w.heap.size, 0, none⟩ = some (.string ⟨#[]⟩)
  r1 : wr.cell? ⟨w.heap.size, 1, none⟩ = some (.bool false)
  r2 : wr.cell? ⟨w.heap.size, 2, none⟩ = some (.string ⟨#[]⟩)
  fb : ∀ j, wr.frozen? ⟨w.heap.size + 1, j, none⟩ = false
  fr : ∀ j, wr.frozen? ⟨w.heap.size, j, none⟩ = false
theorem Lb.set {w wr : World} {x : En} (h : Lb w wr x) (k : ByteArray) (s : Int) (d : Bool) (v : ByteArray) : Lb w (((wr.setCell ⟨w.heap.size + 1, 0, none⟩ (.string k)).setCell ⟨w.heap.size + 1, 1, none⟩ (.bool d)).setCell ⟨w.heap.size + 1, 2, none⟩ (.string v)) (k, s, d, v) := by
  obtain ⟨q0, q1, q2⟩ := set3_cells (v0 := .string k) (v1 := .bool d) (v2 := .string v) ⟨h.b0, h.b1, h.b2⟩
  have oth : ∀ j, (((wr.setCell ⟨w.heap.size + 1, 0, none⟩ (.string k)).setCell ⟨w.heap.size + 1, 1, none⟩ (.bool d)).setCell ⟨w.heap.size + 1, 2, none⟩ (.string v)).cell? ⟨w.heap.size, j, none⟩ = wr.cell? ⟨w.heap.size, j, none⟩ := fun j => by
    rw [World.cell?_of_block (a := ⟨w.heap.size, j, none⟩) (Below.heap_setCell _ _ _ _ (by simp)), World.cell?_of_block (a := ⟨w.heap.size, j, none⟩) (Below.heap_setCell _ _ _ _ (by simp)), World.cell?_of_block (a := ⟨w.heap.size, j, none⟩) (Below.heap_setCell _ _ _ _ (by simp))]
  exact ⟨((h.below.setCell (p := ⟨w.heap.size + 1, 0, none⟩) (by simp) _).setCell (p := ⟨w.heap.size + 1, 1, none⟩) (by simp) _).setCell (p := ⟨w.heap.size + 1, 2, none⟩) (by simp) _, q0, q1, q2, (oth 0).trans h.r0, (oth 1).trans h.r1, (oth 2).trans h.r2, fun j => by rw [World.frozen?_setCell, World.frozen?_setCell, World.frozen?_setCell]; exact h.fb j, fun j => by rw [World.frozen?_setCell, World.frozen?_setCell, World.frozen?_setCell]; exact h.fr j⟩
theorem lb_new {w : World} {u : TypeId} : Lb w ((w.alloc (.cells #[.string ⟨#[]⟩, .bool false, .string ⟨#[]⟩] u)).alloc (.cells #[.string ⟨#[]⟩, .bool false, .string ⟨#[]⟩] u)) ez := by
  have g1 : ((w.alloc (.cells #[.string ⟨#[]⟩, .bool false, .string ⟨#[]⟩] u)).alloc (.cells #[.string ⟨#[]⟩, .bool false, .string ⟨#[]⟩] u)).heap[w.heap.size]? = some (.cells #[.string ⟨#[]⟩, .bool false, .string ⟨#[]⟩] u) := (Below.heap_alloc _ _ _ (by simp)).trans (World.alloc_heap_new _ _)
  have g2 : ((w.alloc (.cells #[.string ⟨#[]⟩, .bool false, .string ⟨#[]⟩] u)).alloc (.cells #[.string ⟨#[]⟩, .bool false, .string ⟨#[]⟩] u)).heap[w.heap.size + 1]? = some (.cells #[.string ⟨#[]⟩, .bool false, .string ⟨#[]⟩] u) := by
    have := World.alloc_heap_new (w.alloc (.cells #[.string ⟨#[]⟩, .bool false, .string ⟨#[]⟩] u)) (.cells #[.string ⟨#[]⟩, .bool false, .string ⟨#[]⟩] u)
    rwa [World.size_alloc] at this
  exact ⟨((Below.refl _ _).alloc (Nat.le_refl _) _).alloc (by simp) _, by rw [cell_of_obj g2]; rfl, by rw [cell_of_obj g2]; rfl, by rw [cell_of_obj g2]; rfl, by rw [cell_of_obj g1]; rfl, by rw [cell_of_obj g1]; rfl, by rw [cell_of_obj g1]; rfl, fun j => froz_of_obj g2, fun j => froz_of_obj g1⟩
def lastV (o : Option En) : Value := .tuple #[.agg #[.string (o.getD ez).1, .bool (o.getD ez).2.2.1, .string (o.getD ez).2.2.2], .int .u64 (o.getD ez).2.1, .bool o.isSome]
set_option maxHeartbeats 2000000 in
theorem last_any (w : World) (f : Nat) (hf : f ≤ 1000) (a : Option Addr) (cap n : Nat) (gs : List (List Chk.Wr)) (hn : gs.length = n) (hb : Bs gs) (hw : IsG w a gs) (key : ByteArray) (s : Int) :
    Calls Try.prog 24 #[.slice a n cap, .int .u64 (f : Int), .string key, .int .u64 s] w fun r w' => r = .returned (lastV (lastE key s (fwd f gs n))) ∧ Below w.heap.size w w' := by
  have HW : Hid (IsG w a gs) := hw
  have HN : Hid (gs.length = n ∧ Bs gs) := ⟨hn, hb⟩
  have hn60 : (n : Int) ≤ 60 := by have := hb.len; omega
  have HLB : Hid (Lb w ((w.alloc (.cells #[.string ⟨#[]⟩, .bool false, .string ⟨#[]⟩] 73)).alloc (.cells #[.string ⟨#[]⟩, .bool false, .string ⟨#[]⟩] 73)) ez) := lb_new
  clear hw hn hb
  go_enter Try.func24, Try.ntmps24
  go_wp2
  go_loopw [12, 13, 14, 15, 16] (fun nn fd k i _ wr => ∃ (p : Nat), p ≤ n ∧ i = .int .i64 (p : Int) ∧ k = .int .u64 ((f + Grp.off gs p : Nat) : Int) ∧ nn = .int .u64 ((lastE key s (fwd f gs p)).getD ez).2.1 ∧ fd = .bool (lastE key s (fwd f gs p)).isSome ∧ Hid (Lb w wr ((lastE key s (fwd f gs p)).getD ez))) (fun _ _ _ i _ _ => n - (intOf i).toNat)
  case atStart => exact ⟨0, Nat.zero_le _, rfl, by simp [Grp.off], rfl, rfl, HLB⟩
  case round =>
    clear HLB
    obtain ⟨p, hp, rfl, rfl, rfl, rfl, HK⟩ := hrel
    rename World => wr
    by_cases hlt : p < n
    · have q1 : (p : Int) < (n : Int) := by omega
      have hkl : p < gs.length := by rw [HN.out.1]; exact hlt
      obtain ⟨bg, og, ad1, c1, rfl, hbg, g1, hw1⟩ := HW.out.rd hkl
      obtain ⟨m1, hm1⟩ : ∃ m, (gs.getD p []).length = m := ⟨_, rfl⟩
      rw [hm1] at g1
      have HW1 : Hid (Chk.IsWr w ad1 (gs.getD p []) ∧ (gs.getD p []).length = m1 ∧ w.cell? ⟨bg, og + p, none⟩ = some (.slice ad1 m1 c1) ∧ bg < w.heap.size) := ⟨hw1, hm1, g1, hbg⟩
      have hm16 : (m1 : Int) ≤ 16 := by have := HN.out.2.l16 _ (Bs.mem hkl); omega
      have hoff : (f + Grp.off gs p : Nat) ≤ 2000 := by
        have := off_le HN.out.2.l16 p (by omega)
        have := HN.out.2.len
        omega
      have hoi : ((f + Grp.off gs p : Nat) : Int) ≤ 2000 := by omega
      have HOF : Hid (f + Grp.off gs (p + 1) = f + Grp.off gs p + m1) := by show _ = _; rw [off_succ hkl, hm1]; omega
      clear hw1 hm1 g1 hbg hkl
      rw [← upto_zero f gs p] at HK ⊢
      go_wp2
      go_loopw [12, 13, 14, 16] (fun nn fd k j wq => ∃ (m : Nat), m ≤ m1 ∧ j = .int .i64 (m : Int) ∧ k = .int .u64 ((f + Grp.off gs p + m : Nat) : Int) ∧ nn = .int .u64 ((lastE key s (upto f gs p m)).getD ez).2.1 ∧ fd = .bool (lastE key s (upto f gs p m)).isSome ∧ Hid (Lb w wq ((lastE key s (upto f gs p m)).getD ez))) (fun _ _ _ j _ => m1 - (intOf j).toNat)
      case atStart => exact ⟨0, Nat.zero_le _, rfl, rfl, rfl, rfl, HK⟩
      case round =>
        clear HK
        obtain ⟨m, hm, rfl, rfl, rfl, rfl, HQ⟩ := hrel
        rename World => wq
        have g1 := (HQ.out.below.cell (p := ⟨bg, og + p, none⟩) HW1.out.2.2.2).trans HW1.out.2.2.1
        by_cases hlm : m < m1
        · have hml : m < (gs.getD p []).length := by rw [HW1.out.2.1]; exact hlm
          obtain ⟨bw_, ow, rfl, hr⟩ := (HW1.out.1.below HQ.out.below).1 (by intro e; rw [e] at hml; simp at hml)
          obtain ⟨c0, c1', c2'⟩ := hr.2 m _ (List.getElem?_eq_getElem hml)
          have HUS := upto_succ HN.out.2 hf (by rw [HN.out.1]; exact hlt) hml
          obtain ⟨K9, hK9⟩ : ∃ K : Int, ((f + Grp.off gs p + m : Nat) : Int) = K := ⟨_, rfl⟩
          have HK9 : Hid (((f + Grp.off gs p + (m + 1) : Nat) : Int) = K9 + 1) := by show _ = _; omega
          have r1 : 0 ≤ K9 := by omega
          have r2 : K9 ≤ 2016 := by omega
          rw [hK9] at HUS ⊢
          have p1 : (m : Int) < (m1 : Int) := by omega
          generalize (gs.getD p [])[m] = y at *
          obtain ⟨yk, yd, yv⟩ := y
          dsimp only at c0 c1' c2' HUS
          have HLS := lastE_snoc key s (upto f gs p m) (yk, K9, yd, yv)
          rw [← HUS] at HLS
          dsimp only at HLS
          generalize lastE key s (upto f gs p m) = o at *
          have HB := HQ.out.b0
          have HB1 := HQ.out.b1
          have HB2 := HQ.out.b2
          have HFB := HQ.out.fb
          clear hr hK9 HUS hml
          by_cases h1 : yk = key
          · have h1' : (yk.toList == key.toList) = true := by rw [h1]; simp
            by_cases h2 : K9 ≤ s
            · rw [if_pos ⟨h1, h2⟩] at HLS
              have HLH : Hid (lastE key s (upto f gs p (m + 1)) = some (yk, K9, yd, yv)) := HLS
              clear h1 HLS
              go_wp2
              go_roundw
              case rel =>
                refine ⟨m + 1, by omega, by go_num, by rw [HK9.out], by rw [HLH.out]; rfl, by rw [HLH.out]; rfl, ?_⟩
                rw [HLH.out]
                exact HQ.out.set yk K9 yd yv
              case measure => simp [intOf]; omega
            · rw [if_neg fun h => h2 h.2] at HLS
              have HLH : Hid (lastE key s (upto f gs p (m + 1)) = o) := HLS
              clear h1 HLS
              go_wp2
              go_roundw
              case rel =>
                refine ⟨m + 1, by omega, by go_num, by rw [HK9.out], by rw [HLH.out], by rw [HLH.out], ?_⟩
                rw [HLH.out]
                exact HQ
              case measure => simp [intOf]; omega
          · have h1' : (yk.toList == key.toList) = false := by
              rw [beq_eq_false_iff_ne]
              exact fun e => h1 (toList_inj e)
            rw [if_neg fun h => h1 h.1] at HLS
            have HLH : Hid (lastE key s (upto f gs p (m + 1)) = o) := HLS
            clear h1 HLS
            go_wp2
            go_roundw
            case rel =>
              refine ⟨m + 1, by omega, by go_num, by rw [HK9.out], by rw [HLH.out], by rw [HLH.out], ?_⟩
              rw [HLH.out]
              exact HQ
            case measure => simp [intOf]; omega
        · obtain rfl : m = m1 := by omega
          have HUE : Hid (upto f gs p m = fwd f gs (p + 1)) := by show _ = _; rw [← HW1.out.2.1, upto_end]
          rw [HUE.out] at HQ ⊢
          go_wp2
          go_roundw
          case rel => exact ⟨p + 1, by omega, by go_num, by rw [HOF.out], rfl, rfl, HQ⟩
          case measure => simp [intOf]; omega
    · obtain rfl : p = n := by omega
      obtain ⟨o, ho⟩ : ∃ o, lastE key s (fwd f gs p) = o := ⟨_, rfl⟩
      have HO : Hid (lastE key s (fwd f gs p) = o) := ho
      rw [ho] at HK ⊢
      clear ho
      have b0 := HK.out.b0
      have b1 := HK.out.b1
      have b2 := HK.out.b2
      have r0 := HK.out.r0
      have r1 := HK.out.r1
      have r2 := HK.out.r2
      have fr := HK.out.fr
      obtain ⟨x, hx⟩ : ∃ x, o.getD ez = x := ⟨_, rfl⟩
      have HX : Hid (o.getD ez = x) := hx
      rw [hx] at HK b0 b1 b2 ⊢
      obtain ⟨xk, xs, xd, xv⟩ := x
      dsimp only at b0 b1 b2 ⊢
      clear hx
      go_wp2
      obtain ⟨q0, q1, q2⟩ := set3_cells (v0 := .string xk) (v1 := .bool xd) (v2 := .string xv) ⟨r0, r1, r2⟩
      have hb5 : Below w.heap.size w (((wr.setCell ⟨w.heap.size, 0, none⟩ (.string xk)).setCell ⟨w.heap.size, 1, none⟩ (.bool xd)).setCell ⟨w.heap.size, 2, none⟩ (.string xv)) := ((HK.out.below.setCell (p := ⟨w.heap.size, 0, none⟩) (Nat.le_refl _) _).setCell (p := ⟨w.heap.size, 1, none⟩) (Nat.le_refl _) _).setCell (p := ⟨w.heap.size, 2, none⟩) (Nat.le_refl _) _
      generalize ((wr.setCell ⟨w.heap.size, 0, none⟩ (.string xk)).setCell ⟨w.heap.size, 1, none⟩ (.bool xd)).setCell ⟨w.heap.size, 2, none⟩ (.string xv) = W4 at *
      refine bodyPost_ret (v := lastV o) ?_ rfl ⟨by rw [HO.out], hb5⟩
      unfold lastV
      rw [HX.out]
      simp [results, Try.results24, go_sem, q0, q1, q2]
end Mem
end Go.Proofs.Ytkofopaejkabhaa
