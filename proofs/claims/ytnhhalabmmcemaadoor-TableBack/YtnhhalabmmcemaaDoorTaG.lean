import Derived.Test.YtnhhalabmmcemaaDoorTaD
import Derived.Test.YtnhhalabmmcemaaDoorQc6
namespace Go.Proofs.YtnhhalabmmcemaaDoor
namespace Tbl
open Go.RowKit CMath Byt Laws Irw Crw Cod Qb
set_option linter.unusedVariables false
set_option linter.unusedSimpArgs false
set_option maxRecDepth 20000

set_option maxHeartbeats 1000000 in
theorem openBlock_ok (a : Option Addr) (cap N : Nat) (l : List Nat) (x : Nat × List En) (w : World) (ht : Tab w) (ha : IsB w a l) (hN : N = l.length) (hcap : N ≤ cap) (hc12 : cap ≤ 9223372036854775807) (hl : l.length ≤ 4000000) (hc0 : a = none → cap = 0) (hx : opn l = some x) :
    Calls Tryd.prog 47 #[.slice a N cap] w fun e w' => ∃ M, e = .returned (.pointer (some ⟨M, 3, none⟩)) ∧ BlkF w.heap.size w' M 3 (pushes x.1 st0 x.2).b (pushes x.1 st0 x.2).p ∧ Below w.heap.size w w' := by
  have HO : Hid (Calls Tryd.prog 70 #[.slice a N cap] w fun e w' => ∃ M, e = .returned (.tuple #[.pointer (some ⟨M, 3, none⟩), .int .i64 0]) ∧ BlkF w.heap.size w' M 3 (pushes x.1 st0 x.2).b (pushes x.1 st0 x.2).p ∧ Below w.heap.size w w') := by
    apply Qb.hid
    refine (open_any a cap N l w ht ha hN hcap hc12 hl hc0).mono ?_
    rintro e w' ⟨hb, hm⟩
    rw [hx] at hm
    obtain ⟨M, rfl, hk⟩ := hm
    exact ⟨M, rfl, hk, hb⟩
  clear ha ht hx hN hcap hc12 hl hc0
  generalize (pushes x.1 st0 x.2).b = eb at *
  generalize (pushes x.1 st0 x.2).p = pb at *
  generalize hR : (fun (e : Ending) (w' : World) => ∃ M, e = .returned (.pointer (some ⟨M, 3, none⟩)) ∧ BlkF w.heap.size w' M 3 eb pb ∧ Below w.heap.size w w') = R
  go_enter Tryd.func47, Tryd.ntmps47
  go_wp2_with (first
    | (go_at_call 70; go_loud (refine HO.out.mono ?_; rintro e w1 ⟨M, rfl, hk, hb⟩; have HK := Qb.hid hk; have HB := Qb.hid hb; clear hk hb))
    | (go_at_call 48; go_loud (refine (demand_ok _).mono ?_; rintro e w' ⟨rfl, hw⟩; have hw2 := hw.symm; clear hw; subst hw2)))
  rw [← hR]
  exact ⟨M, rfl, HK.out, HB.out⟩

end Tbl
end Go.Proofs.YtnhhalabmmcemaaDoor
namespace Go.Proofs.YtnhhalabmmcemaaDoor
namespace Tbl
open Go.RowKit CMath Byt Laws Irw Crw Cod Qb
set_option linter.unusedVariables false
set_option linter.unusedSimpArgs false
set_option maxRecDepth 20000

theorem isB_rest {w : World} {a y : Option Addr} {l : List Nat} {c p : Nat} (h : IsB w a l) (hc : l.length ≤ c) (hp : p ≤ l.length) (hy : y = a.map (fun x => x.add p) ∨ (p = c ∧ y = a)) : IsB w y (l.drop p) := by
  rcases hy with rfl | ⟨rfl, rfl⟩
  · refine ⟨fun hne => ?_, fun x hx => h.2 x (List.mem_of_mem_drop hx)⟩
    obtain ⟨b, off, e, hr⟩ := h.1 (by intro e; rw [e] at hne; simp at hne)
    subst e
    have hd := (isB_drop h p).1 hne
    obtain ⟨b', off', e', hr'⟩ := hd
    cases e'
    exact ⟨b, off + p, by simp [Addr.add], hr'⟩
  · have : l.drop p = [] := List.drop_eq_nil_of_le (by omega)
    rw [this]
    exact IsB.nil _ _

/-- What stands while numbers' loop goes on. -/
structure Nu (w : World) (l : List Nat) (x y : Int) (p : Nat) (xa : Option Addr) (xc : Nat) (W : World) : Prop where
  below : Below w.heap.size w W
  size : W.heap.size = w.heap.size + 1 + 1
  b0 : W.heap[w.heap.size]? = some (.cells #[.int .u64 0, .int .u64 0] 118)
  b1 : W.heap[w.heap.size + 1]? = some (.cells #[.int .u64 x, .int .u64 y] 118)
  is : IsB w xa (l.drop p)
  cap : (l.drop p).length ≤ xc ∧ xc ≤ 9223372036854775807
theorem nu_next {w wr : World} {l : List Nat} {x y x' y' : Int} {p P j : Nat} {xa : Option Addr} {xc : Nat} {v : Value} (h : Nu w l x y p xa xc wr) (hP : P ≤ (l.drop p).length) (hv : (#[Value.int .u64 x, .int .u64 y] : Array Value).setIfInBounds j v = #[.int .u64 x', .int .u64 y']) : Nu w l x' y' (p + P) (if xc = P then xa else Option.map (fun x => x.add P) xa) (xc - P) (wr.setCell ⟨w.heap.size + 1, j, none⟩ v) := by
  have hb : Below w.heap.size w (wr.setCell ⟨w.heap.size + 1, j, none⟩ v) := h.below.setCell (p := ⟨w.heap.size + 1, j, none⟩) (by show w.heap.size ≤ w.heap.size + 1; omega) _
  refine ⟨hb, by simpa using h.size, (Below.heap_setCell _ _ _ _ (by show w.heap.size ≠ w.heap.size + 1; omega)).trans h.b0, ?_, ?_, ?_⟩
  · simp only [World.setCell, Array.getElem?_modify, if_true, h.b1, Option.map_some]
    rw [hv]
    simp
  · rw [← List.drop_drop]
    refine isB_rest h.is h.cap.1 hP ?_
    by_cases hc : xc = P
    · rw [if_pos hc]; exact .inr ⟨hc.symm, rfl⟩
    · rw [if_neg hc]; exact .inl rfl
  · have := h.cap
    rw [List.length_drop] at this hP ⊢
    omega
theorem nu_first {w : World} {a : Option Addr} {l : List Nat} {cap : Nat} (ha : IsB w a l) (hcap : l.length ≤ cap) (hlen : cap ≤ 9223372036854775807) : Nu w l 0 0 0 a cap ((w.alloc (.cells #[.int .u64 0, .int .u64 0] 118)).alloc (.cells #[.int .u64 0, .int .u64 0] 118)) := by
  have h1 := World.alloc_heap_new w (.cells #[.int .u64 0, .int .u64 0] 118)
  have b1 : Below w.heap.size w (w.alloc (.cells #[.int .u64 0, .int .u64 0] 118)) := (Below.refl _ _).alloc (Nat.le_refl _) _
  have s1 : (w.alloc (.cells #[.int .u64 0, .int .u64 0] 118)).heap.size = w.heap.size + 1 := by simp
  generalize w.alloc (.cells #[.int .u64 0, .int .u64 0] 118) = W1 at *
  have h2 := World.alloc_heap_new W1 (.cells #[.int .u64 0, .int .u64 0] 118)
  have b2 : Below W1.heap.size W1 (W1.alloc (.cells #[.int .u64 0, .int .u64 0] 118)) := (Below.refl _ _).alloc (Nat.le_refl _) _
  have bb := b1.trans (b2.mono b1.size)
  rw [s1] at h2
  exact ⟨bb, by simp [s1], (b2.block _ (by omega)).trans h1, h2, ha, hcap, hlen⟩
set_option maxHeartbeats 1000000 in
theorem numbers_ok (a : Option Addr) (cap n : Nat) (l : List Nat) (X P Y Q : Nat) (w : World) (ha : IsB w a l) (hcap : l.length ≤ cap) (hlen : cap ≤ 9223372036854775807) (hn : n = l.length) (h1 : rd l 0 0 = (X, P, 0)) (h2 : rd (l.drop P) 0 0 = (Y, Q, 0)) (hP : P ≤ l.length) (hQ : P + Q ≤ l.length) :
    Calls Tryd.prog 67 #[.slice a n cap] w fun e w' => e = .returned (.agg #[.int .u64 (X : Int), .int .u64 (Y : Int)]) ∧ Below w.heap.size w w' := by
  subst hn
  have HR0 : Hid (rd (l.drop 0) 0 0 = (X, P, 0)) := Qb.hid h1
  have HR1 : Hid (rd (l.drop P) 0 0 = (Y, Q, 0)) := Qb.hid h2
  have HL0 : Hid (P ≤ (l.drop 0).length) := Qb.hid hP
  have HL1 : Hid (Q ≤ (l.drop P).length) := by apply Qb.hid; rw [List.length_drop]; omega
  go_enter Tryd.func67, Tryd.ntmps67
  go_wp2
  go_loopw [0, 8] (fun v i wr => ∃ (k : Nat) (x y : Int) (p : Nat) (xa : Option Addr) (xc : Nat), i = .int .i64 (k : Int) ∧ v = .slice xa (l.drop p).length xc ∧ ((k = 0 ∧ x = 0 ∧ y = 0 ∧ p = 0) ∨ (k = 1 ∧ x = X ∧ y = 0 ∧ p = P) ∨ (k = 2 ∧ x = X ∧ y = Y ∧ p = P + Q)) ∧ Hid (Nu w l x y p xa xc wr)) (fun _ i _ => 2 - (intOf i).toNat)
  case atStart => exact ⟨0, 0, 0, 0, a, cap, rfl, rfl, .inl ⟨rfl, rfl, rfl, rfl⟩, Qb.hid (nu_first ha hcap hlen)⟩
  case round =>
    obtain ⟨k, x, y, p, xa, xc, rfl, rfl, hk, HI⟩ := hrel
    rename World => wr
    rcases hk with ⟨rfl, rfl, rfl, rfl⟩ | ⟨rfl, rfl, rfl, hp⟩ | ⟨rfl, rfl, rfl, hp⟩
    · have hr := HR0.out
      have hrl := HL0.out
      have m0 : wr.cell? ⟨w.heap.size + 1, 0, none⟩ = some (.int .u64 0) := cell_of HI.out.b1 0
      have f0 : wr.frozen? ⟨w.heap.size + 1, 0, none⟩ = false := froz_of HI.out.b1 0
      have hcp := HI.out.cap
      have q1 : (P : Int) ≤ ((l.drop (0)).length : Int) := by omega
      have q2 : (P : Int) ≤ (xc : Int) := by omega
      have q3 : ((l.drop (0)).length : Int) ≤ (xc : Int) := by omega
      have HU : Hid (Calls Tryd.prog 85 #[.slice xa (l.drop (0)).length xc] wr fun e w' => e = .returned (.tuple #[.int .u64 (X : Int), .int .i64 (P : Int), .int .i64 0]) ∧ w' = wr) := by
        have h := uint_any xa xc (l.drop (0)).length (l.drop (0)) wr (HI.out.is.below HI.out.below) hcp.1 hcp.2 rfl
        rw [hr] at h
        exact Qb.hid h
      generalize hLL : (l.drop (0)).length = LL at *
      go_wp2_with (first
        | (go_at_call 85; go_loud (refine HU.out.mono ?_; rintro e w' ⟨rfl, hw⟩; have hw2 := hw.symm; clear hw; subst hw2))
        | (go_at_call 48; go_loud (refine (demand_ok _).mono ?_; rintro e w' ⟨rfl, hw⟩; have hw2 := hw.symm; clear hw; subst hw2)))
      all_goals go_roundw
      case rel => exact ⟨1, X, 0, P, (if xc = P then xa else Option.map (fun x => x.add P) xa), xc - P, rfl, by rw [← hLL]; simp, .inr (.inl ⟨rfl, rfl, rfl, rfl⟩), Qb.hid (by have h := nu_next (x' := (X : Int)) (y' := 0) (P := P) (j := 0) (v := .int .u64 (X : Int)) HI.out (by rw [hLL]; exact hrl) rfl; rw [Nat.zero_add] at h; exact h)⟩
      case measure => simp [intOf]
    · rw [← hp] at HR1 HL1
      have hr := HR1.out
      have hrl := HL1.out
      have m0 : wr.cell? ⟨w.heap.size + 1, 1, none⟩ = some (.int .u64 0) := cell_of HI.out.b1 1
      have f0 : wr.frozen? ⟨w.heap.size + 1, 1, none⟩ = false := froz_of HI.out.b1 1
      have hcp := HI.out.cap
      have q1 : (Q : Int) ≤ ((l.drop (p)).length : Int) := by omega
      have q2 : (Q : Int) ≤ (xc : Int) := by omega
      have q3 : ((l.drop (p)).length : Int) ≤ (xc : Int) := by omega
      have HU : Hid (Calls Tryd.prog 85 #[.slice xa (l.drop (p)).length xc] wr fun e w' => e = .returned (.tuple #[.int .u64 (Y : Int), .int .i64 (Q : Int), .int .i64 0]) ∧ w' = wr) := by
        have h := uint_any xa xc (l.drop (p)).length (l.drop (p)) wr (HI.out.is.below HI.out.below) hcp.1 hcp.2 rfl
        rw [hr] at h
        exact Qb.hid h
      generalize hLL : (l.drop (p)).length = LL at *
      go_wp2_with (first
        | (go_at_call 85; go_loud (refine HU.out.mono ?_; rintro e w' ⟨rfl, hw⟩; have hw2 := hw.symm; clear hw; subst hw2))
        | (go_at_call 48; go_loud (refine (demand_ok _).mono ?_; rintro e w' ⟨rfl, hw⟩; have hw2 := hw.symm; clear hw; subst hw2)))
      all_goals go_roundw
      case rel => exact ⟨2, X, Y, p + Q, (if xc = Q then xa else Option.map (fun x => x.add Q) xa), xc - Q, rfl, by rw [← hLL]; simp; try omega, .inr (.inr ⟨rfl, rfl, rfl, by omega⟩), Qb.hid (nu_next (x' := (X : Int)) (y' := (Y : Int)) (P := Q) (j := 1) (v := .int .u64 (Y : Int)) HI.out (by rw [hLL]; exact hrl) rfl)⟩
      case measure => simp [intOf]
    · have y0 : wr.cell? ⟨w.heap.size + 1, 0, none⟩ = some (.int .u64 (X : Int)) := cell_of HI.out.b1 0
      have y1 : wr.cell? ⟨w.heap.size + 1, 1, none⟩ = some (.int .u64 (Y : Int)) := cell_of HI.out.b1 1
      have z0 : wr.cell? ⟨w.heap.size, 0, none⟩ = some (.int .u64 0) := cell_of HI.out.b0 0
      have z1 : wr.cell? ⟨w.heap.size, 1, none⟩ = some (.int .u64 0) := cell_of HI.out.b0 1
      have g0 : wr.frozen? ⟨w.heap.size, 0, none⟩ = false := froz_of HI.out.b0 0
      have g1 : wr.frozen? ⟨w.heap.size, 1, none⟩ = false := froz_of HI.out.b0 1
      have HBW := Qb.hid HI.out.below
      go_wp2
      exact bodyPost_ret (v := .agg #[.int .u64 (X : Int), .int .u64 (Y : Int)]) (by simp [results, Tryd.results67, go_sem, z0, z1]) rfl ⟨rfl, (HBW.out.setCell (p := ⟨w.heap.size, 0, none⟩) (Nat.le_refl _) _).setCell (p := ⟨w.heap.size, 1, none⟩) (Nat.le_refl _) _⟩

end Tbl
end Go.Proofs.YtnhhalabmmcemaaDoor
