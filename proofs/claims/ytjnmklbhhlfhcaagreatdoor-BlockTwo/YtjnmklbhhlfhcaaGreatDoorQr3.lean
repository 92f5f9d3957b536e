import Derived.Test.YtjnmklbhhlfhcaaGreatDoorQw2
import Derived.Test.YtjnmklbhhlfhcaaGreatDoorQcM
import Derived.Test.YtjnmklbhhlfhcaaGreatDoorQb4
namespace Go.Proofs.YtjnmklbhhlfhcaaGreatDoor
namespace Qb
open Go.RowKit CMath Byt Laws Irw Crw Cod
set_option linter.unusedVariables false
set_option linter.unusedSimpArgs false
set_option maxRecDepth 20000

set_option maxHeartbeats 1000000 in
theorem refShared_any (x y : ByteArray) (w : World) (hx : x.size ≤ 1000000) (hy : y.size ≤ 1000000) :
    Calls Tryz.prog 67 #[.string x, .string y] w fun e w' => e = .returned (.int .i64 ((shr (strB x) (strB y) : Nat) : Int)) ∧ ∃ n, w' = w.drewN n := by
  go_enter Tryz.func67, Tryz.ntmps67
  go_wp2
  go_loopw [5] (fun i wr => ∃ k n : Nat, k ≤ x.size ∧ k ≤ y.size ∧ i = .int .i64 (k : Int) ∧ Hid ((strB x).take k = (strB y).take k) ∧ wr = w.drewN n) (fun i _ => x.size - (intOf i).toNat)
  case atStart => exact ⟨0, 0, Nat.zero_le _, Nat.zero_le _, rfl, by show _ = _; simp, rfl⟩
  case round =>
    obtain ⟨k, n, hk1, hk2, rfl, HT, rfl⟩ := hrel
    by_cases h1 : k < x.size
    · have q1 : (k : Int) < (x.size : Int) := by omega
      by_cases h2 : k < y.size
      · have q2 : (k : Int) < (y.size : Int) := by omega
        have HX : Hid ((strB x)[k]? = some x[k].toNat) := (strB_get h1)
        have HY : Hid ((strB y)[k]? = some y[k].toNat) := (strB_get h2)
        by_cases he : x[k].toNat = y[k].toNat
        · have he' : ((x[k].toNat : Int) == (y[k].toNat : Int)) = true := by simp [he]
          have he2 : (x[k].toNat == y[k].toNat) = true := by simp [he]
          go_wp2
          go_quiet (fail)
          go_wp2
          refine ⟨⟨k + 1, _, by omega, by omega, by go_num, ?_, rfl⟩, by simp [intOf]; omega⟩
          refine take_same HT.out (by rw [strB_length]; exact h1) (by rw [strB_length]; exact h2) ?_
          rw [HX.out, HY.out, he]
        · have he' : ((x[k].toNat : Int) == (y[k].toNat : Int)) = false := by rw [beq_eq_false_iff_ne]; omega
          go_wp2
          go_quiet (fail)
          go_wp2
          go_ret
          refine ⟨?_, by simp only [World.drewN_drewN]; exact ⟨_, rfl⟩⟩
          rw [shr_at (strB x) (strB y) k HT.out (by rw [strB_length]; exact h1) (by rw [strB_length]; exact h2) (by
            rw [HX.out, HY.out]
            intro e
            simp only [Option.some.injEq] at e
            exact he e)]
          rfl
      · go_wp2
        go_quiet (fail)
        go_wp2
        go_ret
        refine ⟨?_, by simp only [World.drewN_drewN]; exact ⟨_, rfl⟩⟩
        rw [shr_end (strB x) (strB y) k (by rw [strB_length, strB_length]; omega) HT.out]
        rfl
    · go_wp2
      go_quiet (fail)
      go_wp2
      go_ret
      refine ⟨?_, by simp only [World.drewN_drewN]; exact ⟨_, rfl⟩⟩
      rw [shr_end (strB x) (strB y) k (by rw [strB_length, strB_length]; omega) HT.out]
      rfl
theorem number_nil (n : Nat) (w : World) (hn : n < 18446744073709551616) :
    Calls Tryz.prog 68 #[.int .u64 (n : Int)] w fun e w' => ∃ g c, e = .returned (.slice (some ⟨g, 0, none⟩) (num n).length c) ∧ IsB w' (some ⟨g, 0, none⟩) (num n) ∧ Below w.heap.size w w' := by
  refine (number_any n w hn).mono ?_
  rintro e w' ⟨v, rfl, ho, hb⟩
  obtain ⟨g, c, rfl, _, _, _, hi⟩ := ho.isB
  exact ⟨g, c, rfl, hi, hb⟩
theorem number_z (n : Nat) (z : Int) (hz : z = n) (w : World) (hn : n < 18446744073709551616) :
    Calls Tryz.prog 68 #[.int .u64 z] w fun e w' => ∃ g c, e = .returned (.slice (some ⟨g, 0, none⟩) (num n).length c) ∧ IsB w' (some ⟨g, 0, none⟩) (num n) ∧ Below w.heap.size w w' := by
  subst hz
  exact number_nil n w hn
theorem words_nil (s : ByteArray) (w : World) (hn : s.size ≤ 1000000) :
    Calls Tryz.prog 69 #[.string s] w fun e w' => ∃ g c, e = .returned (.slice (some ⟨g, 0, none⟩) (words (strB s)).length c) ∧ IsB w' (some ⟨g, 0, none⟩) (words (strB s)) ∧ Below w.heap.size w w' := by
  refine (words_any s w (by omega)).mono ?_
  rintro e w' ⟨v, rfl, ho, hb⟩
  obtain ⟨g, c, rfl, _, _, _, hi⟩ := ho.isB
  exact ⟨g, c, rfl, hi, hb⟩
theorem refFour_any (n : Nat) (w : World) (hn : n < 4294967296) :
    Calls Tryz.prog 28 #[.int .i64 (n : Int)] w fun e w' => ∃ g c, e = .returned (.slice (some ⟨g, 0, none⟩) 4 c) ∧ IsB w' (some ⟨g, 0, none⟩) (four n) ∧ Below w.heap.size w w' := by
  have hw : IntKind.u32.wrap (n : Int) = (n : Int) := by rw [IntKind.wrap_u32]; omega
  go_enter Tryz.func28, Tryz.ntmps28
  go_wp2_with (go_at_call 29; refine (four_any n w hn).mono ?_; rintro e w1 ⟨v, rfl, ho, hb⟩; obtain ⟨g, c, rfl, _, _, _, hi⟩ := ho.isB; have HF : Hid (IsB w1 (some ⟨g, 0, none⟩) (four n) ∧ Below w.heap.size w w1) := ⟨hi, hb⟩; clear ho hi hb)
  go_ret
  exact ⟨g, c, rfl, HF.out⟩
end Qb
end Go.Proofs.YtjnmklbhhlfhcaaGreatDoor
namespace Go.Proofs.YtjnmklbhhlfhcaaGreatDoor
namespace Qb
open Go.RowKit CMath Byt Laws Irw Crw Cod
set_option linter.unusedVariables false
set_option linter.unusedSimpArgs false
set_option maxRecDepth 20000

theorem infoI : (Tryz.prog.info? 3).map (fun i => (i.zero, i.size, i.bytes)) = some (some (.int .i64 0), 1, 8) := by kernel_rfl
theorem isI_new {w : World} {x : Int} {u : TypeId} : IsI (w.alloc (.cells #[.int .i64 x] u)) (some ⟨w.heap.size, 0, none⟩) [x] := by
  refine IsI.of ⟨by simp, fun i z hz => ?_⟩
  rw [World.cell?_alloc_at _ _ _ _ rfl]
  cases i with
  | zero => simp at hz; subst hz; rfl
  | succ i => simp at hz
/-- What the document's body lays: tag 1 the bytes, tag 2 the places; a box beside. -/
def uB : Nat → Prop := fun x => x = 1 ∨ x = 2
def ints (ps : List Nat) : List Int := ps.map fun (x : Nat) => (x : Int)
theorem ints_len (ps : List Nat) : (ints ps).length = ps.length := by simp [ints]
structure RS (w0 : World) (T : Nat → Nat) (w : World) (v6 v7 : Value) (o ps : List Nat) : Prop where
  own : OwnB 1 T w v6 o
  pl : OwnL 2 T w v7 (ints ps)
  go : Goes uB (fun _ => 0) w0 T w
  hi : Hi T w
structure RX (w0 : World) (T : Nat → Nat) (w : World) (v6 v7 : Value) (o ps : List Nat) (E : Nat) (arr : Array Value) : Prop where
  rs : RS w0 T w v6 v7 o ps
  lt : E < w.heap.size
  tag : T E = 0
  cell : ∀ j, w.cell? ⟨E, j, none⟩ = arr[j]?
theorem RS.below {w0 : World} {T : Nat → Nat} {w w' : World} {v6 v7 : Value} {o ps : List Nat} (h : RS w0 T w v6 v7 o ps) (hb : Below w.heap.size w w') : RS w0 T w' v6 v7 o ps :=
  ⟨h.own.below hb, h.pl.below hb, h.go.trans (Goes.below hb), h.hi.below hb.size⟩
theorem RX.below {w0 : World} {T : Nat → Nat} {w w' : World} {v6 v7 : Value} {o ps : List Nat} {E : Nat} {arr : Array Value} (h : RX w0 T w v6 v7 o ps E arr) (hb : Below w.heap.size w w') : RX w0 T w' v6 v7 o ps E arr :=
  ⟨h.rs.below hb, Nat.lt_of_lt_of_le h.lt hb.size, h.tag, fun j => (hb.cell (p := ⟨E, j, none⟩) h.lt).trans (h.cell j)⟩
theorem RX.app {w0 : World} {T T' : Nat → Nat} {w w' : World} {v6 v7 v' : Value} {o o' ps : List Nat} {E : Nat} {arr : Array Value} (h : RX w0 T w v6 v7 o ps E arr) (ho : OwnB 1 T' w' v' o') (hg : Goes (· = 1) T w T' w') : RX w0 T' w' v' v7 o' ps E arr :=
  ⟨⟨ho, h.rs.pl.goes hg (by omega), h.rs.go.trans (hg.mono fun x hx => .inl hx), h.rs.hi.goes hg⟩, Nat.lt_of_lt_of_le h.lt hg.size, (hg.tag E h.lt (by rw [h.tag]; omega)).trans h.tag, fun j => (hg.cell h.lt (by rw [h.tag]; omega)).trans (h.cell j)⟩
theorem RX.app2 {w0 : World} {T T' : Nat → Nat} {w w' : World} {v6 v7 v' : Value} {o ps ps' : List Nat} {E : Nat} {arr : Array Value} (h : RX w0 T w v6 v7 o ps E arr) (ho : OwnL 2 T' w' v' (ints ps')) (hg : Goes (· = 2) T w T' w') : RX w0 T' w' v6 v' o ps' E arr :=
  ⟨⟨h.rs.own.goes hg (by omega), ho, h.rs.go.trans (hg.mono fun x hx => .inr hx), h.rs.hi.goes hg⟩, Nat.lt_of_lt_of_le h.lt hg.size, (hg.tag E h.lt (by rw [h.tag]; omega)).trans h.tag, fun j => (hg.cell h.lt (by rw [h.tag]; omega)).trans (h.cell j)⟩
theorem RS.below0 {w0 : World} {T : Nat → Nat} {w : World} {v6 v7 : Value} {o ps : List Nat} (h : RS w0 T w v6 v7 o ps) : Below w0.heap.size w0 w :=
  ⟨h.go.os, h.go.tape, h.go.output, h.go.size, fun b hb => h.go.block b hb (by unfold uB; omega)⟩
theorem RS.box {w0 : World} {T : Nat → Nat} {w : World} {v6 v7 : Value} {o ps : List Nat} (h : RS w0 T w v6 v7 o ps) (arr : Array Value) (ty : TypeId) : RX w0 T (w.alloc (.cells arr ty)) v6 v7 o ps w.heap.size arr :=
  ⟨h.below ((Below.refl _ _).alloc (Nat.le_refl _) _), by simp, h.hi _ (Nat.le_refl _), fun j => by rw [World.cell?_alloc_at _ _ _ _ rfl]⟩
/-- The places of restart points, as numbers and as bytes. -/
def placeB (ps : List Nat) : List Nat := (ps.map four).flatten
theorem placeB_snoc (ps : List Nat) (x : Nat) : placeB (ps ++ [x]) = placeB ps ++ four x := by simp [placeB]
def BodyIs (w : World) (R : Nat) (l : List En) (e : Ending) (w' : World) : Prop :=
  ∃ a1 B c1 a2 P c2 T ps, e = .returned (.tuple #[.slice a1 B c1, .slice a2 P c2]) ∧ RS w T w' (.slice a1 B c1) (.slice a2 P c2) (pushes R st0 l).b ps ∧ placeB ps = (pushes R st0 l).p ∧ (∀ x ∈ ps, x ≤ (pushes R st0 l).b.length)
theorem pushes_lastK (R : Nat) (l : List En) : (pushes R st0 l).last = lastK l := by
  rcases List.eq_nil_or_concat l with rfl | ⟨l', e, rfl⟩
  · rfl
  · rw [List.concat_eq_append, pushes_snoc, lastK_snoc]; rfl
end Qb
end Go.Proofs.YtjnmklbhhlfhcaaGreatDoor
