import Derived.Test.YtjfhhjkggjflfaaGreatDoorProg
import Derived.Test.YtjfhhjkggjflfaaGreatDoorTsr
import Derived.Test.YtjfhhjkggjflfaaGreatDoorSum
import Derived.Test.YtjfhhjkggjflfaaGreatDoorBlM
import Derived.Lib.MinMax
namespace Go.Proofs.YtjfhhjkggjflfaaGreatDoor
namespace Blo
open Go.RowKit CMath Byt Cod Laws Tsr BMath
set_option linter.unusedVariables false
set_option maxRecDepth 20000

theorem rot_or {h : Nat} (hh : h < 4294967296) : (h * 32768 % 4294967296) ||| (h / 131072) = turned h := by
  have e1 : h * 32768 % 4294967296 = 2 ^ 15 * (h % 131072) := by omega
  have h1 : h / 131072 < 2 ^ 15 := by omega
  rw [e1, ← Nat.two_pow_add_eq_or_of_lt h1]
  unfold turned
  omega
theorem rot32 {h : Nat} (hh : h < 4294967296) : bits .or .u32 ((h : Int) * 32768 % 4294967296) ((h : Int) / 131072) = ((turned h : Nat) : Int) := by
  have h2 := u32_or_nat (h * 32768 % 4294967296) (h / 131072) (by omega) (by omega)
  rw [show ((h * 32768 % 4294967296 : Nat) : Int) = (h : Int) * 32768 % 4294967296 by omega, show ((h / 131072 : Nat) : Int) = (h : Int) / 131072 by omega, rot_or hh] at h2
  exact h2

theorem and31 : bits .and .u64 (IntKind.u64.wrap (-17)) 31 = 15 := by decide
set_option maxHeartbeats 1000000 in
theorem rotate_any (h : Nat) (w : World) (hh : h < 4294967296) :
    Calls Tryz.prog 37 #[.int .u32 (h : Int), .int .i64 (-17)] w fun e w' => e = .returned (.int .u32 ((turned h : Nat) : Int)) ∧ w' = w := by
  have e1 := rot32 hh
  have e0 := and31
  go_enter Tryz.func37, Tryz.ntmps37
  go_wp2
  go_ret
  exact ⟨rfl, rfl⟩

set_option maxHeartbeats 1000000 in
theorem probesFor_any (b : Nat) (w : World) (hb : b ≤ 16) :
    Calls Tryz.prog 13 #[.int .i64 (b : Int)] w fun e w' => e = .returned (.int .i64 ((probesN b : Nat) : Int)) ∧ w' = w := by
  have e1 : max (((b : Int) * 69) / 100) 1 = ((probesN b : Nat) : Int) := by unfold probesN; omega
  go_enter Tryz.func13, Tryz.ntmps13
  go_wp2
  go_ret
  exact ⟨rfl, rfl⟩

theorem places_eq (p : Nat) (hp : p ≤ 2251799813685248) : min (IntKind.u64.wrap (IntKind.u64.wrap ((IntKind.u64.wrap (IntKind.u64.wrap (max (IntKind.u64.wrap (p : Int)) 64 + 8) - 1)).tdiv 8) * 8)) 1048576 = ((min ((max p 64 + 7) / 8 * 8) 1048576 : Nat) : Int) := by
  have h1 : IntKind.u64.wrap (p : Int) = (p : Int) := IntWalk.u64_in _ (by omega)
  rw [h1, IntWalk.u64_in (max (p : Int) 64 + 8) (by omega), IntWalk.u64_in (max (p : Int) 64 + 8 - 1) (by omega), Int.tdiv_eq_ediv_of_nonneg (by omega), IntWalk.u64_in ((max (p : Int) 64 + 8 - 1) / 8) (by omega), IntWalk.u64_in _ (by omega)]
  omega
set_option maxHeartbeats 1000000 in
theorem placesFor_any (n b : Nat) (w : World) (hb : b ≤ 16) (hn : n ≤ 140737488355328) :
    Calls Tryz.prog 12 #[.int .i64 (n : Int), .int .i64 (b : Int)] w fun e w' => e = .returned (.int .u64 ((places n b : Nat) : Int)) ∧ w' = w := by
  have hp : n * b ≤ 2251799813685248 := by
    have := Nat.mul_le_mul hn hb
    omega
  have HP : Hid (((places n b : Nat) : Int) = min (IntKind.u64.wrap (IntKind.u64.wrap ((IntKind.u64.wrap (IntKind.u64.wrap (max (IntKind.u64.wrap ((n * b : Nat) : Int)) 64 + 8) - 1)).tdiv 8) * 8)) 1048576) := (places_eq (n * b) hp).symm
  clear hp
  go_enter Tryz.func12, Tryz.ntmps12
  go_wp2
  go_ret
  rw [HP.out, Int.natCast_mul]
  exact ⟨rfl, rfl⟩

/-- What the probes of a key read: four boxes. -/
structure Box (w : World) (bk bh bd bm k h m : Nat) : Prop where
  ck : w.cell? ⟨bk, 0, none⟩ = some (.int .i64 (k : Int))
  ch : w.cell? ⟨bh, 0, none⟩ = some (.int .u32 (h : Int))
  cd : w.cell? ⟨bd, 0, none⟩ = some (.int .u32 ((turned h : Nat) : Int))
  cm : w.cell? ⟨bm, 0, none⟩ = some (.int .u64 (m : Int))
def Kp (bk bh bd bm : Nat) (W W' : World) : Prop := W'.heap[bk]? = W.heap[bk]? ∧ W'.heap[bh]? = W.heap[bh]? ∧ W'.heap[bd]? = W.heap[bd]? ∧ W'.heap[bm]? = W.heap[bm]?
theorem Kp.trans {bk bh bd bm : Nat} {A B C : World} (h : Kp bk bh bd bm A B) (k : Kp bk bh bd bm B C) : Kp bk bh bd bm A C := ⟨k.1.trans h.1, k.2.1.trans h.2.1, k.2.2.1.trans h.2.2.1, k.2.2.2.trans h.2.2.2⟩
theorem Box.keep {w w' : World} {bk bh bd bm k h m : Nat} (x : Box w bk bh bd bm k h m) (hk : Kp bk bh bd bm w w') : Box w' bk bh bd bm k h m :=
  ⟨(World.cell?_of_block (a := ⟨bk, 0, none⟩) hk.1).trans x.ck, (World.cell?_of_block (a := ⟨bh, 0, none⟩) hk.2.1).trans x.ch, (World.cell?_of_block (a := ⟨bd, 0, none⟩) hk.2.2.1).trans x.cd, (World.cell?_of_block (a := ⟨bm, 0, none⟩) hk.2.2.2).trans x.cm⟩
theorem Box.lt {w : World} {bk bh bd bm k h m : Nat} (x : Box w bk bh bd bm k h m) : bk < w.heap.size ∧ bh < w.heap.size ∧ bd < w.heap.size ∧ bm < w.heap.size := ⟨World.block_lt_of_cell? w _ x.ck, World.block_lt_of_cell? w _ x.ch, World.block_lt_of_cell? w _ x.cd, World.block_lt_of_cell? w _ x.cm⟩
theorem Kp.below {w w' : World} {bk bh bd bm B : Nat} (hb : Below B w w') (h : bk < B ∧ bh < B ∧ bd < B ∧ bm < B) : Kp bk bh bd bm w w' := ⟨hb.block _ h.1, hb.block _ h.2.1, hb.block _ h.2.2.1, hb.block _ h.2.2.2⟩

/-- The answer of 'probes'. -/
def ProbAns (w : World) (k h m : Nat) (e : Ending) (w' : World) : Prop := ∃ bk bh bd bm, e = .returned (.func (.func 38) #[] #[.pointer (some ⟨bk, 0, none⟩), .pointer (some ⟨bh, 0, none⟩), .pointer (some ⟨bd, 0, none⟩), .pointer (some ⟨bm, 0, none⟩)]) ∧ (w.heap.size ≤ bk ∧ w.heap.size ≤ bh ∧ w.heap.size ≤ bd ∧ w.heap.size ≤ bm) ∧ Box w' bk bh bd bm k h m ∧ Below w.heap.size w w'

set_option maxHeartbeats 1000000 in
theorem probes_any (s : ByteArray) (k m : Nat) (w : World) (ht : Tab w) (hs : s.size ≤ 9223372036854775807) :
    Calls Tryz.prog 14 #[.string s, .int .i64 (k : Int), .int .u64 (m : Int)] w (ProbAns w k (crc (strB s)) m) := by
  have HT : Hid (Tab w) := ht
  have hc32 : crc (strB s) < 4294967296 := crc_lt _ (strB_byte s)
  have hcv : ∀ w', (convert 9 25 (.string s)).run Tryz.prog w' = .ok (.slice (some ⟨w'.heap.size, 0, none⟩) s.size (grownCap w' s.size 0 5)) (Lib.bytesWorld w' 5 s) := fun w' => Lib.run_convert_string_bytes w' _ _ _ s Tryz.underlying9 Tryz.underlying25 Tryz.underlying5
  clear ht
  go_enter Tryz.func14, Tryz.ntmps14
  go_wp2_with fail
  obtain ⟨w1, hw1⟩ : ∃ w1, ((w.alloc (.cells #[.int .i64 (k : Int)] 3)).alloc (.cells #[.int .u64 (m : Int)] 55)) = w1 := ⟨_, rfl⟩
  rw [hw1]
  have hb1 : Below w.heap.size w w1 := by rw [← hw1]; exact ((Below.refl _ _).alloc (Nat.le_refl _) _).alloc (by simp) _
  have hz1 : w1.heap.size = w.heap.size + 1 + 1 := by rw [← hw1]; simp
  have hc1 : w1.cell? ⟨w.heap.size, 0, none⟩ = some (.int .i64 (k : Int)) := by
    rw [← hw1, World.cell?_of_block (Below.heap_alloc _ _ _ (by simp)), World.cell?_alloc_at _ _ _ _ rfl]; rfl
  have hc2 : w1.cell? ⟨w.heap.size + 1, 0, none⟩ = some (.int .u64 (m : Int)) := by
    rw [← hw1, World.cell?_alloc_at _ _ _ _ (by simp)]; rfl
  have hb2 := conv_below w1 5 s
  have hz2 := Lib.bytesWorld_size w1 5 s
  have HB : Hid (IsB (Lib.bytesWorld w1 5 s) (some ⟨w.heap.size + 1 + 1, 0, none⟩) (strB s)) := by
    show IsB _ _ _
    rw [← hz1]
    exact conv_isB _ _ _
  clear hw1 hcv
  generalize Lib.bytesWorld w1 5 s = w2 at *
  refine (sum_any _ _ _ (strB s) w2 HB.out ((HT.out.below hb1 HT.out.lt).below hb2 (by omega)) (by rw [strB_length]; exact hs) (strB_length s).symm).mono ?_
  rintro e w' ⟨rfl, rfl⟩
  generalize crc (strB s) = h at *
  go_wp2_with fail
  refine (rotate_any h _ hc32).mono ?_
  rintro e w' ⟨rfl, rfl⟩
  go_wp2_with fail
  go_ret
  have hz3 : w'.heap.size = w.heap.size + 1 + 1 + 1 := by omega
  have hb3 : Below w'.heap.size w' ((w'.alloc (.cells #[.int .u32 (h : Int)] 61)).alloc (.cells #[.int .u32 ((turned h : Nat) : Int)] 61)) := ((Below.refl _ _).alloc (Nat.le_refl _) _).alloc (by simp) _
  refine ⟨w.heap.size, w.heap.size + 1 + 1 + 1, w.heap.size + 1 + 1 + 1 + 1, w.heap.size + 1, rfl, ⟨by omega, by omega, by omega, by omega⟩, ⟨?_, ?_, ?_, ?_⟩, (hb1.trans (hb2.mono (by omega))).trans (hb3.mono (by omega))⟩
  · exact (hb3.cell (p := ⟨w.heap.size, 0, none⟩) (by simp; omega)).trans ((hb2.cell (p := ⟨w.heap.size, 0, none⟩) (by simp; omega)).trans hc1)
  · rw [← hz3, World.cell?_of_block (Below.heap_alloc _ _ _ (by simp)), World.cell?_alloc_at _ _ _ _ rfl]; rfl
  · rw [← hz3, World.cell?_alloc_at _ _ _ _ (by simp)]; rfl
  · exact (hb3.cell (p := ⟨w.heap.size + 1, 0, none⟩) (by simp; omega)).trans ((hb2.cell (p := ⟨w.heap.size + 1, 0, none⟩) (by simp; omega)).trans hc2)
end Blo
end Go.Proofs.YtjfhhjkggjflfaaGreatDoor
