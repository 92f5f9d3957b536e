import Derived.Test.YtnhhalabmmcemaaDoorProg
import Derived.Test.YtnhhalabmmcemaaDoorTsr
import Derived.Test.YtnhhalabmmcemaaDoorSum
import Derived.Test.YtnhhalabmmcemaaDoorBlM
import Derived.Lib.MinMax
import Derived.RangeFuncNested
import Derived.RangeFuncBound
import Derived.RangeFuncCalls
import Derived.RangeFuncLeaves
import Derived.Shelf.Abstract
import Derived.Shelf.RegionOpen
import Derived.WalkKit
import Derived.OwnWalkIn
import Derived.TacticsInMore
import Derived.LoopNIn
import Derived.LoopIn
import Derived.Sort.LoopGhostIn
import Derived.RegionIn
import Derived.Laws.MakeOwn
import Derived.Laws.OwnMore
namespace Go.Proofs.YtnhhalabmmcemaaDoor
namespace Blo
open Go.RowKit CMath Byt Cod Laws Tsr BMath
set_option linter.unusedVariables false
set_option maxRecDepth 20000

theorem rot_or {h : Nat} (hh : h < 4294967296) : (h * 32768 % 4294967296) ||| (h / 131072) = turned h := by
  have e1 : h * 32768 % 4294967296 = 2 ^ 15 * (h % 131072) := by omega
  have h1 : h / 131072 < 2 ^ 15 := by omega
  rw [e1, ← Nat.two_pow_add_eq_or_of_lt h1]
  unfold turned
  omega
theorem rot32 {h : Nat} (hh : h < 4294967296) : bits .or .u32 ((h : Int) * 32768 % 4294967296) ((h : Int) / 131072) = ((turned h : Nat) : Int) := by
  have h2 := u32_or_nat (h * 32768 % 4294967296) (h / 131072) (by omega) (by omega)
  rw [show ((h * 32768 % 4294967296 : Nat) : Int) = (h : Int) * 32768 % 4294967296 by omega, show ((h / 131072 : Nat) : Int) = (h : Int) / 131072 by omega, rot_or hh] at h2
  exact h2

theorem and31 : bits .and .u64 (IntKind.u64.wrap (-17)) 31 = 15 := by decide
set_option maxHeartbeats 1000000 in
theorem rotate_any (h : Nat) (w : World) (hh : h < 4294967296) :
    Calls Tryd.prog 72 #[.int .u32 (h : Int), .int .i64 (-17)] w fun e w' => e = .returned (.int .u32 ((turned h : Nat) : Int)) ∧ w' = w := by
  have e1 := rot32 hh
  have e0 := and31
  go_enter Tryd.func72, Tryd.ntmps72
  go_wp2
  go_ret
  exact ⟨rfl, rfl⟩

set_option maxHeartbeats 1000000 in
theorem probesFor_any (b : Nat) (w : World) (hb : b ≤ 16) :
    Calls Tryd.prog 63 #[.int .i64 (b : Int)] w fun e w' => e = .returned (.int .i64 ((probesN b : Nat) : Int)) ∧ w' = w := by
  have e1 : max (((b : Int) * 69) / 100) 1 = ((probesN b : Nat) : Int) := by unfold probesN; omega
  go_enter Tryd.func63, Tryd.ntmps63
  go_wp2
  go_ret
  exact ⟨rfl, rfl⟩

theorem places_eq (p : Nat) (hp : p ≤ 2251799813685248) : min (IntKind.u64.wrap (IntKind.u64.wrap ((IntKind.u64.wrap (IntKind.u64.wrap (max (IntKind.u64.wrap (p : Int)) 64 + 8) - 1)).tdiv 8) * 8)) 1048576 = ((min ((max p 64 + 7) / 8 * 8) 1048576 : Nat) : Int) := by
  have h1 : IntKind.u64.wrap (p : Int) = (p : Int) := IntWalk.u64_in _ (by omega)
  rw [h1, IntWalk.u64_in (max (p : Int) 64 + 8) (by omega), IntWalk.u64_in (max (p : Int) 64 + 8 - 1) (by omega), Int.tdiv_eq_ediv_of_nonneg (by omega), IntWalk.u64_in ((max (p : Int) 64 + 8 - 1) / 8) (by omega), IntWalk.u64_in _ (by omega)]
  omega
set_option maxHeartbeats 1000000 in
theorem placesFor_any (n b : Nat) (w : World) (hb : b ≤ 16) (hn : n ≤ 140737488355328) :
    Calls Tryd.prog 62 #[.int .i64 (n : Int), .int .i64 (b : Int)] w fun e w' => e = .returned (.int .u64 ((places n b : Nat) : Int)) ∧ w' = w := by
  have hp : n * b ≤ 2251799813685248 := by
    have := Nat.mul_le_mul hn hb
    omega
  have HP : Hid (((places n b : Nat) : Int) = min (IntKind.u64.wrap (IntKind.u64.wrap ((IntKind.u64.wrap (IntKind.u64.wrap (max (IntKind.u64.wrap ((n * b : Nat) : Int)) 64 + 8) - 1)).tdiv 8) * 8)) 1048576) := (places_eq (n * b) hp).symm
  clear hp
  go_enter Tryd.func62, Tryd.ntmps62
  go_wp2
  go_ret
  rw [HP.out, Int.natCast_mul]
  exact ⟨rfl, rfl⟩

/-- What the probes of a key read: four boxes. -/
structure Box (w : World) (bk bh bd bm k h m : Nat) : Prop where
  ck : w.cell? ⟨bk, 0, none⟩ = some (.int .i64 (k : Int))
  ch : w.cell? ⟨bh, 0, none⟩ = some (.int .u32 (h : Int))
  cd : w.cell? ⟨bd, 0, none⟩ = some (.int .u32 ((turned h : Nat) : Int))
  cm : w.cell? ⟨bm, 0, none⟩ = some (.int .u64 (m : Int))
def Kp (bk bh bd bm : Nat) (W W' : World) : Prop := W'.heap[bk]? = W.heap[bk]? ∧ W'.heap[bh]? = W.heap[bh]? ∧ W'.heap[bd]? = W.heap[bd]? ∧ W'.heap[bm]? = W.heap[bm]?
theorem Kp.trans {bk bh bd bm : Nat} {A B C : World} (h : Kp bk bh bd bm A B) (k : Kp bk bh bd bm B C) : Kp bk bh bd bm A C := ⟨k.1.trans h.1, k.2.1.trans h.2.1, k.2.2.1.trans h.2.2.1, k.2.2.2.trans h.2.2.2⟩
theorem Box.keep {w w' : World} {bk bh bd bm k h m : Nat} (x : Box w bk bh bd bm k h m) (hk : Kp bk bh bd bm w w') : Box w' bk bh bd bm k h m :=
  ⟨(World.cell?_of_block (a := ⟨bk, 0, none⟩) hk.1).trans x.ck, (World.cell?_of_block (a := ⟨bh, 0, none⟩) hk.2.1).trans x.ch, (World.cell?_of_block (a := ⟨bd, 0, none⟩) hk.2.2.1).trans x.cd, (World.cell?_of_block (a := ⟨bm, 0, none⟩) hk.2.2.2).trans x.cm⟩
theorem Box.lt {w : World} {bk bh bd bm k h m : Nat} (x : Box w bk bh bd bm k h m) : bk < w.heap.size ∧ bh < w.heap.size ∧ bd < w.heap.size ∧ bm < w.heap.size := ⟨World.block_lt_of_cell? w _ x.ck, World.block_lt_of_cell? w _ x.ch, World.block_lt_of_cell? w _ x.cd, World.block_lt_of_cell? w _ x.cm⟩
theorem Kp.below {w w' : World} {bk bh bd bm B : Nat} (hb : Below B w w') (h : bk < B ∧ bh < B ∧ bd < B ∧ bm < B) : Kp bk bh bd bm w w' := ⟨hb.block _ h.1, hb.block _ h.2.1, hb.block _ h.2.2.1, hb.block _ h.2.2.2⟩

/-- The answer of 'probes'. -/
def ProbAns (w : World) (k h m : Nat) (e : Ending) (w' : World) : Prop := ∃ bk bh bd bm, e = .returned (.func (.func 73) #[] #[.pointer (some ⟨bk, 0, none⟩), .pointer (some ⟨bh, 0, none⟩), .pointer (some ⟨bd, 0, none⟩), .pointer (some ⟨bm, 0, none⟩)]) ∧ (w.heap.size ≤ bk ∧ w.heap.size ≤ bh ∧ w.heap.size ≤ bd ∧ w.heap.size ≤ bm) ∧ Box w' bk bh bd bm k h m ∧ Below w.heap.size w w'

set_option maxHeartbeats 1000000 in
theorem probes_any (s : ByteArray) (k m : Nat) (w : World) (ht : Tab w) (hs : s.size ≤ 9223372036854775807) :
    Calls Tryd.prog 53 #[.string s, .int .i64 (k : Int), .int .u64 (m : Int)] w (ProbAns w k (crc (strB s)) m) := by
  have HT : Hid (Tab w) := ht
  have hc32 : crc (strB s) < 4294967296 := crc_lt _ (strB_byte s)
  have hcv : ∀ w', (convert 9 25 (.string s)).run Tryd.prog w' = .ok (.slice (some ⟨w'.heap.size, 0, none⟩) s.size (grownCap w' s.size 0 5)) (Lib.bytesWorld w' 5 s) := fun w' => Lib.run_convert_string_bytes w' _ _ _ s Tryd.underlying9 Tryd.underlying25 Tryd.underlying5
  clear ht
  go_enter Tryd.func53, Tryd.ntmps53
  go_wp2_with fail
  obtain ⟨w1, hw1⟩ : ∃ w1, ((w.alloc (.cells #[.int .i64 (k : Int)] 3)).alloc (.cells #[.int .u64 (m : Int)] 26)) = w1 := ⟨_, rfl⟩
  rw [hw1]
  have hb1 : Below w.heap.size w w1 := by rw [← hw1]; exact ((Below.refl _ _).alloc (Nat.le_refl _) _).alloc (by simp) _
  have hz1 : w1.heap.size = w.heap.size + 1 + 1 := by rw [← hw1]; simp
  have hc1 : w1.cell? ⟨w.heap.size, 0, none⟩ = some (.int .i64 (k : Int)) := by
    rw [← hw1, World.cell?_of_block (Below.heap_alloc _ _ _ (by simp)), World.cell?_alloc_at _ _ _ _ rfl]; rfl
  have hc2 : w1.cell? ⟨w.heap.size + 1, 0, none⟩ = some (.int .u64 (m : Int)) := by
    rw [← hw1, World.cell?_alloc_at _ _ _ _ (by simp)]; rfl
  have hb2 := conv_below w1 5 s
  have hz2 := Lib.bytesWorld_size w1 5 s
  have HB : Hid (IsB (Lib.bytesWorld w1 5 s) (some ⟨w.heap.size + 1 + 1, 0, none⟩) (strB s)) := by
    show IsB _ _ _
    rw [← hz1]
    exact conv_isB _ _ _
  clear hw1 hcv
  generalize Lib.bytesWorld w1 5 s = w2 at *
  refine (sum_any _ _ _ (strB s) w2 HB.out ((HT.out.below hb1 HT.out.lt).below hb2 (by omega)) (by rw [strB_length]; exact hs) (strB_length s).symm).mono ?_
  rintro e w' ⟨rfl, rfl⟩
  generalize crc (strB s) = h at *
  go_wp2_with fail
  refine (rotate_any h _ hc32).mono ?_
  rintro e w' ⟨rfl, rfl⟩
  go_wp2_with fail
  go_ret
  have hz3 : w'.heap.size = w.heap.size + 1 + 1 + 1 := by omega
  have hb3 : Below w'.heap.size w' ((w'.alloc (.cells #[.int .u32 (h : Int)] 47)).alloc (.cells #[.int .u32 ((turned h : Nat) : Int)] 47)) := ((Below.refl _ _).alloc (Nat.le_refl _) _).alloc (by simp) _
  refine ⟨w.heap.size, w.heap.size + 1 + 1 + 1, w.heap.size + 1 + 1 + 1 + 1, w.heap.size + 1, rfl, ⟨by omega, by omega, by omega, by omega⟩, ⟨?_, ?_, ?_, ?_⟩, (hb1.trans (hb2.mono (by omega))).trans (hb3.mono (by omega))⟩
  · exact (hb3.cell (p := ⟨w.heap.size, 0, none⟩) (by simp; omega)).trans ((hb2.cell (p := ⟨w.heap.size, 0, none⟩) (by simp; omega)).trans hc1)
  · rw [← hz3, World.cell?_of_block (Below.heap_alloc _ _ _ (by simp)), World.cell?_alloc_at _ _ _ _ rfl]; rfl
  · rw [← hz3, World.cell?_alloc_at _ _ _ _ (by simp)]; rfl
  · exact (hb3.cell (p := ⟨w.heap.size + 1, 0, none⟩) (by simp; omega)).trans ((hb2.cell (p := ⟨w.heap.size + 1, 0, none⟩) (by simp; omega)).trans hc2)
end Blo
end Go.Proofs.YtnhhalabmmcemaaDoor
namespace Go.Proofs.YtnhhalabmmcemaaDoor
namespace Blo
open Go.RowKit Go.Shelf CMath Byt Cod Laws Tsr BMath
set_option linter.unusedVariables false
set_option maxRecDepth 100000
attribute [local go_sem] Oper.semAt_some

/-- Places. -/
abbrev Pl (m : Nat) := { p : Nat // p < m }
def encP {m : Nat} (x : Pl m) : Array Value := #[.int .u64 (x.1 : Int)]
def prob (h m : Nat) (hm : 0 < m) (i : Nat) : Pl m := ⟨probe h m i, Nat.mod_lt _ hm⟩
def upto (h m : Nat) (hm : 0 < m) (k : Nat) : List (Pl m) := (List.range k).map (prob h m hm)
theorem upto_succ (h m : Nat) (hm : 0 < m) (k : Nat) : upto h m hm (k + 1) = upto h m hm k ++ [prob h m hm k] := by simp [upto, List.range_succ]
theorem upto_val (h m : Nat) (hm : 0 < m) (k : Nat) : (upto h m hm k).map Subtype.val = spots h m k := by simp [upto, spots, prob, Function.comp_def]
theorem upto_length (h m : Nat) (hm : 0 < m) (k : Nat) : (upto h m hm k).length = k := by simp [upto]

set_option maxHeartbeats 2000000 in
theorem probes1_in (n : Nat) (hn : 1 ≤ n) (l bk bh bd bm k h m : Nat) (hm : 0 < m) (hm64 : m < 18446744073709551616) (hk : k ≤ 255) (hh : h < 4294967296) (J Jx : List (Pl m) → World → Prop) (B : Nat) (hJ : AbidesFrom B J)
    (hY : ∀ pre x W, J pre W → pre.length < k → YieldAt Fence.wide (n - 1) Tryd.prog l (encP x) W fun e W' =>
      (e = .returned (.bool true) ∧ J (pre ++ [x]) W' ∧ Kp bk bh bd bm W W') ∨ (e = .returned (.bool false) ∧ Jx (pre ++ [x]) W'))
    (W : World) (hB : Box W bk bh bd bm k h m) (h0 : J [] W) :
    CallsIn Fence.wide n Tryd.prog 73 #[.func (.yield l) #[] #[], .pointer (some ⟨bk, 0, none⟩), .pointer (some ⟨bh, 0, none⟩), .pointer (some ⟨bd, 0, none⟩), .pointer (some ⟨bm, 0, none⟩)] W fun e W' => (∃ v, e = .returned v) ∧
      ((∃ ys : List (Pl m), ys.map Subtype.val = spots h m k ∧ J ys W') ∨ (∃ pre : List (Pl m), pre.map Subtype.val <+: spots h m k ∧ Jx pre W')) := by
  refine callsIn_of_wp Tryd.func73 rfl trivial ?_ rfl
  simp only [Tryd.ntmps73, List.size_toArray, List.length_cons, List.length_nil, Nat.reduceAdd, Nat.reduceSub, Array.replicate_succ, Array.replicate_zero, List.push_toArray, List.append_toArray, List.nil_append, List.cons_append]
  have ck := hB.ck
  have HY : Hid (∀ pre x W, J pre W → pre.length < k → YieldAt Fence.wide (n - 1) Tryd.prog l (encP x) W fun e W' =>
      (e = .returned (.bool true) ∧ J (pre ++ [x]) W' ∧ Kp bk bh bd bm W W') ∨ (e = .returned (.bool false) ∧ Jx (pre ++ [x]) W')) := hY
  have HB : Hid (Box W bk bh bd bm k h m) := hB
  have H0 : Hid (J [] W) := h0
  clear hY hB h0
  have HJ : Hid (∀ pre W, J pre W → J pre W.drew) := fun pre W h => hJ pre W W.drew none h ⟨rfl, rfl, rfl, Nat.le_refl _, fun _ _ _ => rfl⟩ (fun r e => by cases e)
  clear hJ
  gi_wp2
  gi_loopw [9] (fun i wr => ∃ j : Nat, j ≤ k ∧ i = .int .u32 (j : Int) ∧ J (upto h m hm j) wr ∧ Kp bk bh bd bm W wr) (fun i _ => k - (intOf i).toNat)
  case atStart => exact ⟨0, Nat.zero_le _, rfl, H0.out, rfl, rfl, rfl, rfl⟩
  case round =>
    obtain ⟨j, hj, rfl, hJs, hkp⟩ := hrel
    by_cases hlt : j < k
    · have hbx := HB.out.keep hkp
      have c1 := hbx.ch
      have c2 := hbx.cd
      have c3 := hbx.cm
      have q1 : (j : Int) < (k : Int) := by omega
      obtain ⟨fn, tmps, assign, body, hy, hR⟩ := HY.out _ (prob h m hm j) wr hJs (by rw [upto_length]; exact hlt)
      have e1 : (((prob h m hm j).1 : Nat) : Int) = ((h : Int) + (j : Int) * ((turned h : Nat) : Int)) % 4294967296 % (m : Int) := by
        show ((probe h m j : Nat) : Int) = _
        unfold probe
        simp
      simp only [encP, e1] at hy
      have HU : Hid (upto h m hm j ++ [prob h m hm j] = upto h m hm (j + 1)) := (upto_succ h m hm j).symm
      have HPR : Hid ((upto h m hm j ++ [prob h m hm j]).map Subtype.val <+: spots h m k) := by
        show List.map Subtype.val _ <+: _
        rw [← upto_succ, upto_val]
        exact spots_pre (by omega)
      have HKP : Hid (Kp bk bh bd bm W wr) := hkp
      clear e1 hkp hbx
      generalize turned h = d at *
      gi_wp2
      refine hR.mono ?_
      rintro e W3 (⟨rfl, hJ3, hk3⟩ | ⟨rfl, hJx3⟩)
      · have HJ3 : Hid (J (upto h m hm (j + 1)) W3) := by show J _ _; rw [← HU.out]; exact hJ3
        have HK3 : Hid (Kp bk bh bd bm W W3) := HKP.out.trans hk3
        clear hJ3 hk3 hR hy
        gi_wp2
        go_roundw
        case rel => exact ⟨j + 1, by omega, by go_num, HJ3.out, HK3.out⟩
        case measure => simp [intOf]; omega
      · clear hR hy
        gi_wp2
        refine bodyPost_ret (results_none rfl _ _ _) rfl ?_
        exact ⟨⟨_, rfl⟩, .inr ⟨_, HPR.out, hJx3⟩⟩
    · obtain rfl : j = k := by omega
      gi_wp2
      go_end0
      exact ⟨⟨_, rfl⟩, .inl ⟨_, upto_val _ _ hm _, hJs⟩⟩

theorem probes_stops (n : Nat) (hn : 1 ≤ n) (bk bh bd bm k h m : Nat) (hm : 0 < m) (hm64 : m < 18446744073709551616) (hk : k ≤ 255) (hh : h < 4294967296) (w : World) (hB : Box w bk bh bd bm k h m) :
    SeqStopsK Fence.wide n Tryd.prog 73 #[.pointer (some ⟨bk, 0, none⟩), .pointer (some ⟨bh, 0, none⟩), .pointer (some ⟨bd, 0, none⟩), .pointer (some ⟨bm, 0, none⟩)] (encP (m := m)) (Kp bk bh bd bm) (fun ys => ys.map Subtype.val = spots h m k) (fun pre => pre.map Subtype.val <+: spots h m k) k w := fun l J Jx W hW hJ hJx hY h0 =>
  probes1_in n hn l bk bh bd bm k h m hm hm64 hk hh J Jx W.heap.size hJ hY W (hB.keep (Kp.below hW hB.lt)) h0
end Blo
end Go.Proofs.YtnhhalabmmcemaaDoor
namespace Go.Proofs.YtnhhalabmmcemaaDoor
namespace Blo
open Go.RowKit Go.Shelf CMath Byt Cod Laws Tsr BMath
set_option linter.unusedVariables false
set_option maxRecDepth 100000
attribute [local go_sem] Oper.semAt_some

theorem bit_all : ∀ x : Fin 256, ∀ q : Fin 8, ((x.1 &&& 2 ^ q.1 == 0) = !x.1.testBit q.1) ∧ (x.1 / 2 ^ q.1 % 2 == 0) = !x.1.testBit q.1 := by decide +kernel
theorem bit_and {x q : Nat} (hx : x < 256) (hq : q < 8) : (bits .and .u8 (x : Int) ((2 ^ q : Nat) : Int) == 0) = !x.testBit q := by
  rw [u8_and_nat x (2 ^ q) hx (pow_lt hq), ← (bit_all ⟨x, hx⟩ ⟨q, hq⟩).1]
  rw [Bool.eq_iff_iff]
  simp only [beq_iff_eq]
  omega
theorem pow_int {q : Nat} (hq : q < 8) : (2 : Int) ^ q % 256 = ((2 ^ q : Nat) : Int) := by
  have := pow_lt hq
  have e : (2 : Int) ^ q = ((2 ^ q : Nat) : Int) := by simp
  rw [e]
  clear e
  generalize 2 ^ q = t at *
  omega
theorem bit_and' {x q : Nat} (hx : x < 256) (hq : q < 8) : (bits .and .u8 (x : Int) ((2 : Int) ^ q % 256) == 0) = !x.testBit q := by
  rw [pow_int hq]; exact bit_and hx hq
def mark (D : Nat) : Deferred := { target := .collected D, args := #[] }
/-- Marks that a function leaves behind: they are taken in, one by one. -/
theorem leaves_marks {F : Fence} {n : Nat} {P : Program} {fn : Func} {tmps : Array Value} {R : Ending → World → Prop} {B0 : Nat} : ∀ (Ds : List Nat) (w : World), (∀ D ∈ Ds, B0 ≤ D ∧ w.heap[D]? = some (.deferred (some []))) → Ds.Nodup →
    (∀ w', Below B0 w w' → (∀ b, b ∉ Ds → w'.heap[b]? = w.heap[b]?) → LeavesIn F n P fn tmps R [] .returning w') → LeavesInM F n P fn tmps R (Ds.map fun D => { target := .collected D, args := #[] }) .returning w
  | [], w, _, _, h => h w (Below.refl _ _) (fun _ _ => rfl)
  | D :: Ds, w, hD, hnd, h => by
    obtain ⟨hnD, hnd'⟩ := List.nodup_cons.1 hnd
    obtain ⟨hle, hobj⟩ := hD D List.mem_cons_self
    have hb1 : Below B0 w (w.putObj D (.deferred none)) := ⟨rfl, rfl, rfl, by simp, fun k hk => World.putObj_heap_other (by omega)⟩
    refine ⟨by simp, .inl ⟨_, _, rfl, run_takeDeferred hobj, ?_⟩⟩
    refine leaves_marks Ds _ (fun E hE => ⟨(hD E (List.mem_cons_of_mem _ hE)).1, ?_⟩) hnd' (fun w' hb hk => h w' (hb1.trans hb) fun b hb' => ?_)
    · rw [World.putObj_heap_other (by rintro rfl; exact hnD hE)]
      exact (hD E (List.mem_cons_of_mem _ hE)).2
    · rw [List.mem_cons, not_or] at hb'
      rw [hk b hb'.2, World.putObj_heap_other hb'.1]
theorem not_mark {w : World} {Ds : List Nat} {B0 : Nat} (hD : ∀ D ∈ Ds, B0 ≤ D ∧ w.heap[D]? = some (.deferred (some []))) {b o : Nat} {v : Value} (h : w.cell? ⟨b, o, none⟩ = some v) : b ∉ Ds := fun hm => by
  have := (hD b hm).2
  simp [World.cell?, this] at h
/-- What stands while May goes on: its two boxes. -/
structure Mf (w0 : World) (a : Option Addr) (n c : Nat) (W : World) : Prop where
  below : Below w0.heap.size w0 W
  box : W.cell? ⟨w0.heap.size, 0, none⟩ = some (.slice a n c)
  res : W.cell? ⟨w0.heap.size + 1, 0, none⟩ = some (.bool false)
  frz : W.frozen? ⟨w0.heap.size + 1, 0, none⟩ = false
theorem Mf.lt {w0 : World} {a : Option Addr} {n c : Nat} {W : World} (h : Mf w0 a n c W) : w0.heap.size + 1 < W.heap.size := World.block_lt_of_cell? W _ h.res
theorem Mf.keep {w0 : World} {a : Option Addr} {n c : Nat} {W W' : World} (h : Mf w0 a n c W) (hb : Below w0.heap.size W W') (h0 : W'.heap[w0.heap.size]? = W.heap[w0.heap.size]?) (h1 : W'.heap[w0.heap.size + 1]? = W.heap[w0.heap.size + 1]?) : Mf w0 a n c W' :=
  ⟨h.below.trans hb, (World.cell?_of_block (a := ⟨w0.heap.size, 0, none⟩) h0).trans h.box, (World.cell?_of_block (a := ⟨w0.heap.size + 1, 0, none⟩) h1).trans h.res, (World.frozen?_of_block (a := ⟨w0.heap.size + 1, 0, none⟩) h1).trans h.frz⟩
theorem Mf.under {w0 : World} {a : Option Addr} {n c : Nat} {W W' : World} (h : Mf w0 a n c W) (hb : Below W.heap.size W W') : Mf w0 a n c W' :=
  h.keep (hb.mono h.below.size) (hb.block _ (by have := h.lt; omega)) (hb.block _ h.lt)
theorem Mf.own {w0 : World} {a : Option Addr} {n c Bd : Nat} {A B : World} {row : Option Nat} (h : Mf w0 a n c A) (hg : A.grownBy B row) (hr : ∀ r, row = some r → Bd ≤ r) (hB : w0.heap.size + 2 ≤ Bd) : Mf w0 a n c B := by
  have hk : ∀ b, b < Bd → b < A.heap.size → B.heap[b]? = A.heap[b]? := fun b h1 h2 => hg.block b h2 (fun e => by have := hr b e.symm; omega)
  have hlt := h.lt
  exact h.keep ⟨hg.os, hg.tape, hg.output, hg.size, fun b hb => hk b (by omega) (by omega)⟩ (hk _ (by omega) (by omega)) (hk _ (by omega) hlt)
theorem Mf.set {w0 : World} {a : Option Addr} {n c : Nat} {W : World} (h : Mf w0 a n c W) : Mf w0 a n c (W.setCell ⟨w0.heap.size + 1, 0, none⟩ (.bool false)) :=
  ⟨h.below.setCell (p := ⟨w0.heap.size + 1, 0, none⟩) (by simp) _, (World.cell?_of_block (a := ⟨w0.heap.size, 0, none⟩) (Below.heap_setCell W _ _ _ (by simp))).trans h.box, World.cell?_setCell_same _ _ _ h.res, by rw [World.frozen?_setCell]; exact h.frz⟩
theorem mf_new (w : World) (a : Option Addr) (n c : Nat) (T1 T2 : TypeId) : Mf w a n c ((w.alloc (.cells #[.slice a n c] T1)).alloc (.cells #[.bool false] T2)) := by
  refine ⟨((Below.refl _ _).alloc (Nat.le_refl _) _).alloc (by simp) _, ?_, ?_, ?_⟩
  · rw [World.cell?_of_block (Below.heap_alloc _ _ _ (by simp)), World.cell?_alloc_at _ _ _ _ rfl]; rfl
  · rw [World.cell?_alloc_at _ _ _ _ (by simp)]; rfl
  · exact World.frozen?_alloc_at _ _ _ _ (by simp)

set_option maxHeartbeats 2000000 in
theorem may_in (a : Option Addr) (cap n : Nat) (l : List Nat) (s : ByteArray) (w : World) (h : IsB w a l) (ht : Tab w) (hlen : l.length ≤ 1000000000000000) (hs : s.size ≤ 9223372036854775807) (hn : n = l.length) :
    CallsIn Fence.wide 6 Tryd.prog 29 #[.slice a n cap, .string s] w fun e w' => e = .returned (.bool (may l (strB s))) ∧ Below w.heap.size w w' := by
  subst hn
  refine callsIn_of_wp_marks Tryd.func29 rfl trivial ?_ rfl
  simp only [Tryd.ntmps29, List.size_toArray, List.length_cons, List.length_nil, Nat.reduceAdd, Nat.reduceSub, Array.replicate_succ, Array.replicate_zero, List.push_toArray, List.append_toArray, List.nil_append, List.cons_append]
  have HI : Hid (IsB w a l) := h
  have HT : Hid (Tab w) := ht
  clear h ht
  have hfB : Fence.wide.fn 53 := trivial
  by_cases hl9 : l.length < 9
  · have q1 : (l.length : Int) - 1 < 8 := by omega
    have HM : Hid (may l (strB s) = true) := by show may l (strB s) = true; unfold may; rw [if_pos (.inl hl9)]
    gi_wp2
    refine leaves_marks (B0 := w.heap.size) [] _ (by simp) List.nodup_nil (fun w' hb hk => ?_)
    have hk0 := hk (w.heap.size + 1) (by simp)
    have hb0 : Below w.heap.size w ((w.alloc (.cells #[.slice a l.length cap] 25)).alloc (.cells #[.bool true] 4)) := ((Below.refl _ _).alloc (Nat.le_refl _) _).alloc (by simp) _
    have c0 : w'.cell? ⟨w.heap.size + 1, 0, none⟩ = some (.bool true) := by
      rw [World.cell?_of_block (a := ⟨w.heap.size + 1, 0, none⟩) hk0, World.cell?_alloc_at _ _ _ _ (by simp)]; rfl
    refine ⟨.bool true, ?_, by rw [HM.out], hb0.trans hb⟩
    clear hk hk0 hb
    simp [results, Tryd.results29, go_sem, c0]
  · obtain ⟨N, hN⟩ : ∃ N, l.length = N + 1 := ⟨l.length - 1, by omega⟩
    obtain ⟨b1, o1, rfl, hr1⟩ := HI.out.1 (by rintro rfl; simp at hN)
    obtain ⟨x, hx⟩ : ∃ x, l[N]? = some x := ⟨_, List.getElem?_eq_getElem (by omega)⟩
    have hx256 : x < 256 := HI.out.2 x (List.mem_of_getElem? hx)
    have hxd : l.getD (l.length - 1) 0 = x := by rw [hN, Nat.add_sub_cancel, List.getD_eq_getElem?_getD, hx]; rfl
    have c0 := hr1.2 N x hx
    have hb1 := hr1.1
    have z1 : ¬ b1 = w.heap.size := by omega
    have z2 : ¬ b1 = w.heap.size + 1 := by omega
    have z3 : ¬ w.heap.size = b1 := by omega
    have z4 : ¬ w.heap.size + 1 = b1 := by omega
    have z5 : b1 < w.heap.size + 1 := by omega
    have q1 : ¬ (N : Int) < 8 := by omega
    have HRW : Hid (BRow w b1 o1 l) := hr1
    clear hr1
    rw [hN] at hlen ⊢
    by_cases hxk : x = 0 ∨ 11 < x
    · have HM : Hid (may l (strB s) = true) := by show may l (strB s) = true; unfold may; rw [hxd, if_pos (.inr hxk)]
      by_cases hx0 : x = 0
      · subst hx0
        gi_wp2
        refine leaves_marks (B0 := w.heap.size) [] _ (by simp) List.nodup_nil (fun w' hb hk => ?_)
        have hk0 := hk (w.heap.size + 1) (by simp)
        have hb0 : Below w.heap.size w ((w.alloc (.cells #[.slice (some ⟨b1, o1, none⟩) (N + 1) cap] 25)).alloc (.cells #[.bool true] 4)) := ((Below.refl _ _).alloc (Nat.le_refl _) _).alloc (by simp) _
        have c9 : w'.cell? ⟨w.heap.size + 1, 0, none⟩ = some (.bool true) := by
          rw [World.cell?_of_block (a := ⟨w.heap.size + 1, 0, none⟩) hk0, World.cell?_alloc_at _ _ _ _ (by simp)]; rfl
        refine ⟨.bool true, ?_, by rw [HM.out], hb0.trans hb⟩
        clear hk hk0 hb
        simp [results, Tryd.results29, go_sem, c9]
      · have q2 : (11 : Int) < (x : Int) := by omega
        have q3 : ¬ (x : Int) = 0 := by omega
        gi_wp2
        refine leaves_marks (B0 := w.heap.size) [] _ (by simp) List.nodup_nil (fun w' hb hk => ?_)
        have hk0 := hk (w.heap.size + 1) (by simp)
        have hb0 : Below w.heap.size w ((w.alloc (.cells #[.slice (some ⟨b1, o1, none⟩) (N + 1) cap] 25)).alloc (.cells #[.bool true] 4)) := ((Below.refl _ _).alloc (Nat.le_refl _) _).alloc (by simp) _
        have c9 : w'.cell? ⟨w.heap.size + 1, 0, none⟩ = some (.bool true) := by
          rw [World.cell?_of_block (a := ⟨w.heap.size + 1, 0, none⟩) hk0, World.cell?_alloc_at _ _ _ _ (by simp)]; rfl
        refine ⟨.bool true, ?_, by rw [HM.out], hb0.trans hb⟩
        clear hk hk0 hb
        simp [results, Tryd.results29, go_sem, c9]
    · have q2 : ¬ (11 : Int) < (x : Int) := by omega
      have q3 : ¬ (x : Int) = 0 := by omega
      gi_wp2
      have hM0 := mf_new w (some ⟨b1, o1, none⟩) (N + 1) cap 25 4
      generalize ((w.alloc (.cells #[.slice (some ⟨b1, o1, none⟩) (N + 1) cap] 25)).alloc (.cells #[.bool false] 4)) = W1 at *
      refine (callsIn_wide.2 (probes_any s x (8 * N) W1 (HT.out.below hM0.below HT.out.lt) hs)).mono ?_
      rintro e W2 ⟨bk, bh, bd, bm, rfl, hbs, hbox, hbel⟩
      have hM2 := hM0.under hbel
      have hlt1 := hM0.lt
      have hsz2 := hbel.size
      have hbl := hbox.lt
      have hc32 : crc (strB s) < 4294967296 := crc_lt _ (strB_byte s)
      gi_wp2
      refine wpIn_rangeFunc_ownF rfl (by decide) (gf := 73) (lb := #[.pointer (some ⟨bk, 0, none⟩), .pointer (some ⟨bh, 0, none⟩), .pointer (some ⟨bd, 0, none⟩), .pointer (some ⟨bm, 0, none⟩)]) rfl trivial (enters_of Tryd.func73 (by kernel_rfl) rfl)
        (probes_stops (6 - 1) (by decide) bk bh bd bm x (crc (strB s)) (8 * N) (by omega) (by omega) (by omega) hc32 W2 hbox) Kp.trans ?kb (Below.refl _ _) (fun _ => rfl)
        (fun come W => Mf w (some ⟨b1, o1, none⟩) (N + 1) cap W ∧ W2.heap.size ≤ W.heap.size ∧ ∀ p ∈ come, bit l p.1 = true)
        (fun c come W => c = .ret ∧ Mf w (some ⟨b1, o1, none⟩) (N + 1) cap W ∧ ∃ p ∈ come, bit l p.1 = false)
        ?own1 ?own2 ⟨hM2, Nat.le_refl _, by simp⟩
        (fun y => { tmps := #[.slice (some ⟨b1, o1, none⟩) (N + 1) cap, .string s, .pointer (some ⟨w.heap.size, 0, none⟩), undef, .pointer (some ⟨w.heap.size + 1, 0, none⟩), .int .i64 (N : Int), .int .i64 (x : Int), .int .u64 (y.1 : Int), .slice (some ⟨b1, o1, none⟩) (N + 1) cap, .int .i64 ((N : Int) + 1), .int .i64 (N : Int), .int .i64 (N : Int), .bool false, .slice (some ⟨b1, o1, none⟩) (N + 1) cap, .int .i64 (N : Int), .pointer (some ⟨b1, o1 + N, none⟩), .int .u8 (x : Int), .int .i64 (x : Int), .int .i64 (x : Int), .bool false, .bool false, .int .i64 (x : Int), .bool false, .bool false, .string s, .int .i64 (x : Int), .int .i64 (N : Int), .int .u64 (N : Int), .int .u64 (8 * (N : Int)), .func (.func 73) #[] #[.pointer (some ⟨bk, 0, none⟩), .pointer (some ⟨bh, 0, none⟩), .pointer (some ⟨bd, 0, none⟩), .pointer (some ⟨bm, 0, none⟩)], .int .u64 (y.1 : Int), undef, undef, undef, undef, undef, undef, undef, undef, undef, undef], defers := [] }) ?assign ?body ?done ?stop
      case kb =>
        intro W' q o o' hq hob _ _
        exact ⟨World.putObj_heap_other (by omega), World.putObj_heap_other (by omega), World.putObj_heap_other (by omega), World.putObj_heap_other (by omega)⟩
      case own1 =>
        intro come A B' row hs' hg hr
        exact ⟨hs'.1.own hg (fun r e => (hr r e).1) (by omega), Nat.le_trans hs'.2.1 hg.size, hs'.2.2⟩
      case own2 =>
        rintro c come A B' row ⟨h1, h2, h3⟩ hg hr
        exact ⟨h1, h2.own hg (fun r e => (hr r e).1) (by omega), h3⟩
      case assign =>
        intro l1 y W' K' hK'
        simp only [encP]
        gi_wp2
        exact hK'
      case body =>
        rintro l1 come y W' ⟨hf', hs1, hall⟩ _
        obtain ⟨p, hp⟩ := y
        obtain ⟨z, hz⟩ : ∃ z, l[p / 8]? = some z := ⟨_, List.getElem?_eq_getElem (by omega)⟩
        have hz256 : z < 256 := HI.out.2 z (List.mem_of_getElem? hz)
        have d0 := (HRW.out.below hf'.below hb1).2 (p / 8) z hz
        have d1 := hf'.box
        have d2 := hf'.res
        have d3 := hf'.frz
        have hbit : bit l p = z.testBit (p % 8) := by unfold bit; rw [List.getD_eq_getElem?_getD, hz]; rfl
        have HBT : Hid (bit l p = z.testBit (p % 8)) := hbit
        have e1 := bit_and' hz256 (Nat.mod_lt p (show 0 < 8 by omega))
        have HMF : Hid (Mf w (some ⟨b1, o1, none⟩) (N + 1) cap W') := hf'
        have HALL : Hid (∀ p ∈ come, bit l p.1 = true) := hall
        clear hbit hf' hall hz hbox hbel hM0 hM2
        have g1 : (p : Int) / 8 < (N : Int) + 1 := by omega
        dsimp only
        have z6 : ¬ bk = w.heap.size + 1 := by omega
        have z7 : ¬ bh = w.heap.size + 1 := by omega
        have z8 : ¬ bd = w.heap.size + 1 := by omega
        have z9 : ¬ bm = w.heap.size + 1 := by omega
        cases ht : z.testBit (p % 8) with
        | true =>
          rw [ht] at e1
          have HBT' : Hid (bit l p = true) := HBT.out.trans ht
          simp only [Bool.not_true] at e1
          clear ht
          gi_wp2
          refine ⟨KeepsOthers.refl _, ⟨rfl, rfl, rfl, rfl⟩, HMF.out, hs1, fun q hq => ?_⟩
          rcases List.mem_append.1 hq with hq | hq
          · exact HALL.out q hq
          · rw [List.mem_singleton.1 hq]; exact HBT'.out
        | false =>
          rw [ht] at e1
          have HBT' : Hid (bit l p = false) := HBT.out.trans ht
          simp only [Bool.not_false] at e1
          clear ht
          gi_wp2
          exact ⟨KeepsOthers.setCell _ _ _, rfl, HMF.out.set, ⟨p, hp⟩, by simp, HBT'.out⟩
      case done =>
        rintro D come W' hD hcome ⟨hf', hs1, hall⟩ hDd
        have HM : Hid (may l (strB s) = true) := by
          show may l (strB s) = true
          unfold may
          rw [hxd, if_neg (by omega), hN, Nat.add_sub_cancel, List.all_eq_true]
          intro q hq
          rw [← hcome] at hq
          obtain ⟨y, hy, rfl⟩ := List.mem_map.1 hq
          exact hall y hy
        have d2 := hf'.res
        have d3 := hf'.frz
        have HMF : Hid (Mf w (some ⟨b1, o1, none⟩) (N + 1) cap W') := hf'
        clear hf' hall hcome hbox hbel hM0 hM2
        dsimp only
        gi_wp2
        refine leaves_marks (B0 := w.heap.size) [D] _ (by
          intro E hE
          rw [List.mem_singleton.1 hE]
          exact ⟨by omega, (Below.heap_setCell W' _ _ D (by simp; omega)).trans hDd⟩) (by simp) (fun w' hb hk => ?_)
        have hk0 := hk (w.heap.size + 1) (by simp; omega)
        have c9 : w'.cell? ⟨w.heap.size + 1, 0, none⟩ = some (.bool true) := by
          rw [World.cell?_of_block (a := ⟨w.heap.size + 1, 0, none⟩) hk0]
          exact World.cell?_setCell_same _ _ _ HMF.out.res
        refine ⟨.bool true, ?_, by rw [HM.out], (HMF.out.below.setCell (p := ⟨w.heap.size + 1, 0, none⟩) (by simp) _).trans hb⟩
        clear hk hk0 hb
        simp [results, Tryd.results29, go_sem, c9]
      case stop =>
        rintro D c come W' hD hcome ⟨rfl, hf', q, hq, hqb⟩ hDd
        have HM : Hid (may l (strB s) = false) := by
          show may l (strB s) = false
          unfold may
          rw [hxd, if_neg (by omega), hN, Nat.add_sub_cancel, List.all_eq_false]
          exact ⟨q.1, hcome.subset (List.mem_map.2 ⟨q, hq, rfl⟩), by rw [hqb]; simp⟩
        have HMF : Hid (Mf w (some ⟨b1, o1, none⟩) (N + 1) cap W') := hf'
        clear hf' hcome hbox hbel hM0 hM2
        dsimp only
        gi_wp2
        refine leaves_marks (B0 := w.heap.size) [D] _ (by
          intro E hE
          rw [List.mem_singleton.1 hE]
          exact ⟨by omega, hDd⟩) (by simp) (fun w' hb hk => ?_)
        have hk0 := hk (w.heap.size + 1) (by simp; omega)
        have c9 : w'.cell? ⟨w.heap.size + 1, 0, none⟩ = some (.bool false) := by
          rw [World.cell?_of_block (a := ⟨w.heap.size + 1, 0, none⟩) hk0]
          exact HMF.out.res
        refine ⟨.bool false, ?_, by rw [HM.out], HMF.out.below.trans hb⟩
        clear hk hk0 hb
        simp [results, Tryd.results29, go_sem, c9]
theorem may_any (a : Option Addr) (cap n : Nat) (l : List Nat) (s : ByteArray) (w : World) (h : IsB w a l) (ht : Tab w) (hlen : l.length ≤ 1000000000000000) (hs : s.size ≤ 9223372036854775807) (hn : n = l.length) :
    Calls Tryd.prog 29 #[.slice a n cap, .string s] w fun e w' => e = .returned (.bool (may l (strB s))) ∧ Below w.heap.size w w' := callsIn_wide.1 (may_in a cap n l s w h ht hlen hs hn)
end Blo
end Go.Proofs.YtnhhalabmmcemaaDoor
namespace Go.Proofs.YtnhhalabmmcemaaDoor
namespace Blo
open Go.RowKit Go.Shelf CMath Byt Cod Laws Tsr BMath
set_option linter.unusedVariables false
set_option maxRecDepth 100000
attribute [local go_sem] Oper.semAt_some

theorem cell_of_obj {W : World} {b i : Nat} {cs : Array Value} {t : TypeId} (h : W.heap[b]? = some (.cells cs t)) : W.cell? ⟨b, i, none⟩ = cs[i]? := by simp [World.cell?, h]
theorem froz_of_obj {W : World} {b i : Nat} {cs : Array Value} {t : TypeId} (h : W.heap[b]? = some (.cells cs t)) : W.frozen? ⟨b, i, none⟩ = false := by simp [World.frozen?, h]
/-- The bytes l are a block. -/
def Blk (W : World) (g : Nat) (l : List Nat) : Prop := W.heap[g]? = some (.cells (cellsB l).toArray 5)
theorem Blk.cell {W : World} {g i x : Nat} {l : List Nat} (h : Blk W g l) (hx : l[i]? = some x) : W.cell? ⟨g, i, none⟩ = some (.int .u8 (x : Int)) := by
  rw [cell_of_obj h]
  simp [cellsB, hx]
theorem Blk.frz {W : World} {g i : Nat} {l : List Nat} (h : Blk W g l) : W.frozen? ⟨g, i, none⟩ = false := froz_of_obj h
theorem Blk.lt {W : World} {g : Nat} {l : List Nat} (h : Blk W g l) : g < W.heap.size := (Array.getElem?_eq_some_iff.1 h).1
theorem Blk.set {W : World} {g i v : Nat} {l : List Nat} {z : Int} (h : Blk W g l) (hz : z = (v : Int)) : Blk (W.setCell ⟨g, i, none⟩ (.int .u8 z)) g (l.set i v) := by
  subst hz
  unfold Blk at h ⊢
  simp only [World.setCell, Array.getElem?_modify, if_true, h, Option.map_some]
  simp [cellsB, List.map_set]
theorem Blk.new {W : World} {B g : Nat} {l : List Nat} (h : Blk W g l) (hb : ∀ x ∈ l, x < 256) (hg : B ≤ g) (hl : l.length ≤ 1000000) : New 5 B W (some ⟨g, 0, none⟩) l.length l :=
  ⟨⟨by simp [cellsB], .inr ⟨g, l.length, _, rfl, hg, h, Nat.le_refl _, by unfold maxLen; omega, by simp [cellsB], by rw [Nat.mul_one]; exact List.take_of_length_le (by simp [cellsB])⟩⟩, hb⟩

/-- What stands while Make goes on. -/
structure Mz (w0 : World) (M : Nat) (l : List Nat) (Ds : List Nat) (W : World) : Prop where
  below : Below w0.heap.size w0 W
  blk : Blk W w0.heap.size l
  box : W.cell? ⟨w0.heap.size + 1, 0, none⟩ = some (.slice (some ⟨w0.heap.size, 0, none⟩) M M)
  marks : ∀ D ∈ Ds, w0.heap.size + 2 ≤ D ∧ W.heap[D]? = some (.deferred (some []))
theorem Mz.lt {w0 : World} {M : Nat} {l Ds : List Nat} {W : World} (h : Mz w0 M l Ds W) : w0.heap.size + 1 < W.heap.size := World.block_lt_of_cell? W _ h.box
theorem Mz.mlt {w0 : World} {M : Nat} {l Ds : List Nat} {W : World} (h : Mz w0 M l Ds W) {D : Nat} (hD : D ∈ Ds) : D < W.heap.size := (Array.getElem?_eq_some_iff.1 (h.marks D hD).2).1
theorem Mz.keep {w0 : World} {M : Nat} {l Ds : List Nat} {W W' : World} (h : Mz w0 M l Ds W) (hb : Below w0.heap.size W W') (h0 : W'.heap[w0.heap.size]? = W.heap[w0.heap.size]?) (h1 : W'.heap[w0.heap.size + 1]? = W.heap[w0.heap.size + 1]?) (hm : ∀ D ∈ Ds, W'.heap[D]? = W.heap[D]?) : Mz w0 M l Ds W' :=
  ⟨h.below.trans hb, h0.trans h.blk, (World.cell?_of_block (a := ⟨w0.heap.size + 1, 0, none⟩) h1).trans h.box, fun D hD => ⟨(h.marks D hD).1, (hm D hD).trans (h.marks D hD).2⟩⟩
theorem Mz.under {w0 : World} {M : Nat} {l Ds : List Nat} {W W' : World} (h : Mz w0 M l Ds W) (hb : Below W.heap.size W W') : Mz w0 M l Ds W' :=
  h.keep (hb.mono h.below.size) (hb.block _ (by have := h.lt; omega)) (hb.block _ h.lt) (fun D hD => hb.block D (h.mlt hD))
theorem Mz.own {w0 : World} {M : Nat} {l Ds : List Nat} {Bd : Nat} {A B : World} {row : Option Nat} (h : Mz w0 M l Ds A) (hg : A.grownBy B row) (hr : ∀ r, row = some r → Bd ≤ r) (hB : w0.heap.size + 2 ≤ Bd) (hD : ∀ D ∈ Ds, D < Bd) : Mz w0 M l Ds B := by
  have hk : ∀ b, b < Bd → b < A.heap.size → B.heap[b]? = A.heap[b]? := fun b h1 h2 => hg.block b h2 (fun e => by have := hr b e.symm; omega)
  have hlt := h.lt
  exact h.keep ⟨hg.os, hg.tape, hg.output, hg.size, fun b hb => hk b (by omega) (by omega)⟩ (hk _ (by omega) (by omega)) (hk _ (by omega) hlt) (fun D hm => hk D (hD D hm) (h.mlt hm))
theorem Mz.set {w0 : World} {M : Nat} {l Ds : List Nat} {W : World} (h : Mz w0 M l Ds W) (i v : Nat) (z : Int) (hz : z = (v : Int)) : Mz w0 M (l.set i v) Ds (W.setCell ⟨w0.heap.size, i, none⟩ (.int .u8 z)) :=
  ⟨h.below.setCell (p := ⟨w0.heap.size, i, none⟩) (by simp) _, h.blk.set hz, (World.cell?_of_block (a := ⟨w0.heap.size + 1, 0, none⟩) (Below.heap_setCell W _ _ _ (by simp))).trans h.box, fun D hD => ⟨(h.marks D hD).1, (Below.heap_setCell W _ _ D (by have := (h.marks D hD).1; simp; omega)).trans (h.marks D hD).2⟩⟩
theorem Mz.more {w0 : World} {M : Nat} {l Ds : List Nat} {W : World} (h : Mz w0 M l Ds W) {D : Nat} (h1 : w0.heap.size + 2 ≤ D) (h2 : W.heap[D]? = some (.deferred (some []))) : Mz w0 M l (D :: Ds) W :=
  ⟨h.below, h.blk, h.box, fun E hE => by
    rcases List.mem_cons.1 hE with rfl | hE
    · exact ⟨h1, h2⟩
    · exact h.marks E hE⟩
/-- The answer of a Make. -/
def MakeAns (w : World) (ks : List ByteArray) (b : Int) (e : Ending) (w' : World) : Prop := ∃ a c, e = .returned (.slice a (mk (ks.map strB) b).length c) ∧ New 5 w.heap.size w' a c (mk (ks.map strB) b) ∧ Below w.heap.size w w'
theorem new_nil (B : Nat) (w : World) : New 5 B w none 0 [] := ⟨World.ownsRow_nil _ _ _ _, by simp⟩

set_option maxHeartbeats 2000000 in
theorem make_in (a : Option Addr) (cap n : Nat) (ks : List ByteArray) (b : Int) (w : World) (h : IsT w a ks) (ht : Tab w) (hb : -9223372036854775808 ≤ b ∧ b ≤ 9223372036854775807) (hlen : ks.length ≤ 140737488355328) (hsz : ∀ s ∈ ks, s.size ≤ 9223372036854775807) (hn : n = ks.length) :
    CallsIn Fence.wide 6 Tryd.prog 39 #[.slice a n cap, .int .i64 b] w (MakeAns w ks b) := by
  subst hn
  refine callsIn_of_wp_marks Tryd.func39 rfl trivial ?_ rfl
  simp only [Tryd.ntmps39, List.size_toArray, List.length_cons, List.length_nil, Nat.reduceAdd, Nat.reduceSub, Array.replicate_succ, Array.replicate_zero, List.push_toArray, List.append_toArray, List.nil_append, List.cons_append]
  have HI : Hid (IsT w a ks) := h
  have HT : Hid (Tab w) := ht
  have HS : Hid (∀ s ∈ ks, s.size ≤ 9223372036854775807) := hsz
  clear h ht hsz
  have hfB : Fence.wide.fn 53 := trivial
  have hfC : Fence.wide.fn 62 := trivial
  have hfD : Fence.wide.fn 63 := trivial
  by_cases hbk : b < 1 ∨ ks = []
  · have HM : Hid (mk (ks.map strB) b = []) := by show mk (ks.map strB) b = []; unfold mk; rw [if_pos (by simpa using hbk)]
    have q1 : ¬ b < 1 → (ks.length : Int) = 0 := fun h => by rcases hbk with h1 | h1; exact absurd h1 h; rw [h1]; rfl
    by_cases hb1 : b < 1
    · gi_wp2
      refine leaves_marks (B0 := w.heap.size) [] _ (by simp) List.nodup_nil (fun w' hb' hk => ?_)
      refine ⟨_, results_tmp rfl _ _ _, none, 0, by rw [HM.out]; rfl, by rw [HM.out]; exact new_nil _ _, hb'⟩
    · have q2 := q1 hb1
      gi_wp2
      refine leaves_marks (B0 := w.heap.size) [] _ (by simp) List.nodup_nil (fun w' hb' hk => ?_)
      refine ⟨_, results_tmp rfl _ _ _, none, 0, by rw [HM.out]; rfl, by rw [HM.out]; exact new_nil _ _, hb'⟩
  · have q1 : ¬ b < 1 := fun h => hbk (.inl h)
    have hpos : 0 < ks.length := by
      rcases Nat.eq_zero_or_pos ks.length with h | h
      · exact absurd (.inr (List.eq_nil_of_length_eq_zero h)) hbk
      · exact h
    have q2 : ¬ (ks.length : Int) = 0 := by omega
    obtain ⟨bn, hbn⟩ : ∃ bn : Nat, min b 16 = (bn : Int) := ⟨(min b 16).toNat, by omega⟩
    have hb16 : bn ≤ 16 := by omega
    gi_wp2
    refine (callsIn_wide.2 (placesFor_any ks.length bn w hb16 hlen)).mono ?_
    rintro e w' ⟨rfl, rfl⟩
    gi_wp2
    refine (callsIn_wide.2 (probesFor_any bn w' hb16)).mono ?_
    rintro e w ⟨rfl, rfl⟩
    have HMK : Hid (mk (ks.map strB) b = body (ks.map strB) (places ks.length bn) (probesN bn) ++ [probesN bn]) := by
      show mk (ks.map strB) b = _
      unfold mk
      rw [if_neg (by simpa using hbk), List.length_map, hbn, Int.toNat_natCast]
    obtain ⟨h8, h64, h20⟩ := places_8 ks.length bn
    obtain ⟨k1, k2⟩ := probesN_le hb16
    generalize places ks.length bn = m at *
    generalize probesN bn = k at *
    obtain ⟨M, hM⟩ : ∃ M, m / 8 = M := ⟨_, rfl⟩
    have hM8 : m = 8 * M := by omega
    subst hM8
    have qM : (8 * (M : Int)) / 8 + 1 = ((M + 1 : Nat) : Int) := by omega
    obtain ⟨i0, hi0, hz0, hz1, hz2⟩ := info_parts info8
    obtain ⟨W1, hmk, g1, hb1, hs1⟩ : ∃ W1 : World, (Instr.makeSlice 25 (.int .u64 ((M : Int) + 1)) (.int .u64 ((M : Int) + 1))).run Tryd.prog w = .ok (.slice (some ⟨w.heap.size, 0, none⟩) (M + 1) (M + 1)) W1 ∧ Blk W1 w.heap.size (List.replicate (M + 1) 0) ∧ Below w.heap.size w W1 ∧ W1.heap.size = w.heap.size + 1 := by
      have hr := run_make (P := Tryd.prog) w 25 5 i0 (.int .u8 0) Tryd.underlying25 hi0 hz0 .u64 .u64 ((M : Int) + 1) ((M : Int) + 1) (by omega) (by omega) (by rw [hz2]; omega) (by omega)
      rw [hz1] at hr
      have e0 : ((M : Int) + 1).toNat = M + 1 := by omega
      rw [e0, Nat.mul_one] at hr
      refine ⟨_, hr, ?_, (Below.refl _ _).alloc (Nat.le_refl _) _, by simp⟩
      have h3 := World.alloc_heap_new w (.cells (madeCells (Value.int .u8 0).cells (M + 1)) 5)
      unfold Blk
      rw [h3]
      have e1 : madeCells (Value.int .u8 0).cells (M + 1) = (cellsB (List.replicate (M + 1) 0)).toArray := by
        apply Array.toList_inj.1
        have h4 := toList_madeCells_one (.int .u8 0) (M + 1)
        rw [show (Value.int .u8 0).cells = #[Value.int .u8 0] from rfl, h4]
        simp [cellsB]
      rw [e1]
    gi_wp2
    have HZ0 : Hid (Mz w (M + 1) (List.replicate (M + 1) 0) [] (W1.alloc (.cells #[.slice (some ⟨w.heap.size, 0, none⟩) (M + 1) (M + 1)] 25))) := by
      have hb2 : Below W1.heap.size W1 (W1.alloc (.cells #[.slice (some ⟨w.heap.size, 0, none⟩) (M + 1) (M + 1)] 25)) := (Below.refl _ _).alloc (Nat.le_refl _) _
      refine ⟨hb1.trans (hb2.mono (by omega)), (hb2.block _ (by omega)).trans g1, ?_, by simp⟩
      rw [← hs1, World.cell?_alloc_at _ _ _ _ rfl]; rfl
    generalize W1.alloc (.cells #[.slice (some ⟨w.heap.size, 0, none⟩) (M + 1) (M + 1)] 25) = W0 at *
    clear hmk g1 hb1 hs1 qM hi0 hz0 hz1 hz2
    obtain ⟨B, hBe⟩ : ∃ B, w.heap.size = B := ⟨_, rfl⟩
    rw [hBe]
    refine wpIn_loop_ghost_k (fun n a' W => ∃ j, n + j = ks.length ∧ ∃ (Ds : List Nat) (u9 u33 u34 u35 u36 u37 u38 u39 u51 : Value), Ds.Nodup ∧ Mz w (M + 1) (puts (List.replicate (M + 1) 0) (allP ((ks.take j).map strB) (8 * M) k)) Ds W ∧ a' = { tmps := #[.slice a ks.length cap, .int .i64 (bn : Int), undef, undef, .slice none 0 0, .int .u64 (8 * (M : Int)), .int .i64 (k : Int), .pointer (some ⟨B + 1, 0, none⟩), undef, u9, undef, .int .i64 b, .bool false, .bool false, .slice a ks.length cap, .int .i64 (ks.length : Int), .bool false, .bool false, .int .i64 b, .int .i64 (bn : Int), .slice a ks.length cap, .int .i64 (ks.length : Int), .int .i64 (bn : Int), .int .u64 (8 * (M : Int)), .int .i64 (bn : Int), .int .i64 (k : Int), .int .u64 (8 * (M : Int)), .int .u64 (M : Int), .int .u64 ((M : Int) + 1), .slice (some ⟨B, 0, none⟩) (M + 1) (M + 1), .slice a ks.length cap, .int .i64 (ks.length : Int), .int .i64 (j : Int), u33, u34, u35, u36, u37, u38, u39, undef, undef, undef, undef, undef, undef, undef, undef, undef, undef, undef, u51, undef, undef, undef, undef, undef, undef, undef, undef], defers := Ds.map mark }) ks.length ?_ ?_
    · exact ⟨0, rfl, [], undef, undef, undef, undef, undef, undef, undef, undef, undef, List.nodup_nil, HZ0.out, rfl⟩
    · clear HZ0
      rintro n a' W ⟨j, hj, Ds, u9, u33, u34, u35, u36, u37, u38, u39, u51, hnd, hmz, rfl⟩ J K hJ hK
      cases n with
      | zero =>
        have hj' : j = ks.length := by omega
        subst hj'
        rw [List.take_length] at hmz
        have HMZ : Hid (Mz w (M + 1) (puts (List.replicate (M + 1) 0) (allP (ks.map strB) (8 * M) k)) Ds W) := hmz
        have HND : Hid Ds.Nodup := hnd
        have d1 := hmz.box
        rw [hBe] at d1
        obtain ⟨z, hz⟩ : ∃ z, (puts (List.replicate (M + 1) 0) (allP (ks.map strB) (8 * M) k))[M]? = some z := ⟨_, List.getElem?_eq_getElem (by simp)⟩
        have d2 := hmz.blk.cell hz
        have d3 : W.frozen? ⟨w.heap.size, M, none⟩ = false := hmz.blk.frz
        rw [hBe] at d2 d3
        have z1 : ¬ B + 1 = B := by omega
        have z2 : ¬ B = B + 1 := by omega
        clear hmz hz hnd
        gi_wp2
        have hZ := HMZ.out.set M k (k : Int) rfl
        have hfin : (puts (List.replicate (M + 1) 0) (allP (ks.map strB) (8 * M) k)).set M k = mk (ks.map strB) b := by
          rw [HMK.out, show List.replicate (M + 1) 0 = List.replicate M 0 ++ [0] by rw [List.replicate_succ'], puts_tail _ _ _ (fun q hq => by have := allP_lt (by omega) hq; simp; omega)]
          unfold body
          rw [hM, List.set_append_right _ _ (by simp)]
          simp
        rw [hfin] at hZ
        have hle : (mk (ks.map strB) b).length = M + 1 := by rw [HMK.out]; simp [hM]
        rw [← hBe]
        refine leaves_marks (B0 := w.heap.size) Ds _ (fun D hD => ⟨by have := (hZ.marks D hD).1; omega, (hZ.marks D hD).2⟩) HND.out (fun w' hb' hk => ?_)
        have hbl : Blk w' w.heap.size (mk (ks.map strB) b) := (hk w.heap.size (fun hm => by have := (hZ.marks _ hm).1; omega)).trans hZ.blk
        refine ⟨_, results_tmp rfl _ _ _, some ⟨w.heap.size, 0, none⟩, M + 1, by rw [hle]; rfl, ?_, hZ.below.trans hb'⟩
        have := hbl.new (B := w.heap.size) (mk_byte _ _) (Nat.le_refl _) (by omega)
        rw [hle] at this
        exact this
      | succ n =>
        have hjl : j < ks.length := by omega
        obtain ⟨b1, o1, rfl, hr1⟩ := HI.out (by rintro rfl; simp at hjl)
        obtain ⟨x, hx⟩ : ∃ x, ks[j]? = some x := ⟨_, List.getElem?_eq_getElem hjl⟩
        have hxs := HS.out x (List.mem_of_getElem? hx)
        have c0 := (hr1.below hmz.below hr1.1).2 j x hx
        have q3 : (j : Int) < (ks.length : Int) := by omega
        have HMZ : Hid (Mz w (M + 1) (puts (List.replicate (M + 1) 0) (allP ((ks.take j).map strB) (8 * M) k)) Ds W) := hmz
        have HND : Hid Ds.Nodup := hnd
        have HK : Hid (∀ a' w', Handed J (n + 1) a' w' → K a' w') := hK
        have HPS : Hid (puts (puts (List.replicate (M + 1) 0) (allP ((ks.take j).map strB) (8 * M) k)) (spots (crc (strB x)) (8 * M) k) = puts (List.replicate (M + 1) 0) (allP ((ks.take (j + 1)).map strB) (8 * M) k)) := by
          show _ = _
          obtain ⟨hjk, hje⟩ := List.getElem?_eq_some_iff.1 hx
          rw [List.take_succ_eq_append_getElem hjk, hje, List.map_append, List.map_cons, List.map_nil, allP_snoc, puts_append]
        have HLL : Hid ((puts (List.replicate (M + 1) 0) (allP ((ks.take j).map strB) (8 * M) k)).length = M + 1) := by show _ = _; simp
        have HBY : Hid (∀ z ∈ puts (List.replicate (M + 1) 0) (allP ((ks.take j).map strB) (8 * M) k), z < 256) := puts_byte (by intro z hz; have := (List.mem_replicate.1 hz).2; omega) _
        have HTW : Hid (Tab W) := HT.out.below hmz.below HT.out.lt
        generalize puts (List.replicate (M + 1) 0) (allP ((ks.take j).map strB) (8 * M) k) = L at *
        clear hmz hnd hK hr1 hx
        gi_wp2
        refine (callsIn_wide.2 (probes_any x k (8 * M) W HTW.out hxs)).mono ?_
        rintro e W2 ⟨bk, bh, bd, bm, rfl, hbs, hbox, hbel⟩
        have hM2 := HMZ.out.under hbel
        have hlt1 := HMZ.out.lt
        have hsz2 := hbel.size
        have hbl := hbox.lt
        have hDl : ∀ D ∈ Ds, D < W2.heap.size := fun D hD => by have := HMZ.out.mlt hD; omega
        have hc32 : crc (strB x) < 4294967296 := crc_lt _ (strB_byte x)
        gi_wp2
        refine wpIn_rangeFunc_ownF rfl (by decide) (gf := 73) (lb := #[.pointer (some ⟨bk, 0, none⟩), .pointer (some ⟨bh, 0, none⟩), .pointer (some ⟨bd, 0, none⟩), .pointer (some ⟨bm, 0, none⟩)]) rfl trivial (enters_of Tryd.func73 (by kernel_rfl) rfl)
          (probes_stops (6 - 1) (by decide) bk bh bd bm k (crc (strB x)) (8 * M) (by omega) (by omega) (by omega) hc32 W2 hbox) Kp.trans ?kb (Below.refl _ _) (fun _ => rfl)
          (fun come W' => Mz w (M + 1) (puts L (come.map Subtype.val)) Ds W' ∧ W2.heap.size ≤ W'.heap.size)
          (fun c come W' => False)
          ?own1 ?own2 ⟨hM2, Nat.le_refl _⟩
          (fun y => { tmps := #[.slice (some ⟨b1, o1, none⟩) ks.length cap, .int .i64 (bn : Int), undef, undef, .slice none 0 0, .int .u64 (8 * (M : Int)), .int .i64 (k : Int), .pointer (some ⟨B + 1, 0, none⟩), undef, .string x, .int .u64 (y.1 : Int), .int .i64 b, .bool false, .bool false, .slice (some ⟨b1, o1, none⟩) ks.length cap, .int .i64 (ks.length : Int), .bool false, .bool false, .int .i64 b, .int .i64 (bn : Int), .slice (some ⟨b1, o1, none⟩) ks.length cap, .int .i64 (ks.length : Int), .int .i64 (bn : Int), .int .u64 (8 * (M : Int)), .int .i64 (bn : Int), .int .i64 (k : Int), .int .u64 (8 * (M : Int)), .int .u64 (M : Int), .int .u64 ((M : Int) + 1), .slice (some ⟨B, 0, none⟩) (M + 1) (M + 1), .slice (some ⟨b1, o1, none⟩) ks.length cap, .int .i64 (ks.length : Int), .int .i64 (j : Int), .bool true, .pointer (some ⟨b1, o1 + j, none⟩), .string x, .string x, .int .i64 (k : Int), .int .u64 (8 * (M : Int)), .func (.func 73) #[] #[.pointer (some ⟨bk, 0, none⟩), .pointer (some ⟨bh, 0, none⟩), .pointer (some ⟨bd, 0, none⟩), .pointer (some ⟨bm, 0, none⟩)], .int .u64 (y.1 : Int), undef, undef, undef, undef, undef, undef, undef, undef, undef, undef, u51, undef, undef, undef, undef, undef, undef, undef, undef], defers := [] }) ?assign ?body ?done ?stop
        case kb =>
          intro W' q o o' hq hob _ _
          exact ⟨World.putObj_heap_other (by omega), World.putObj_heap_other (by omega), World.putObj_heap_other (by omega), World.putObj_heap_other (by omega)⟩
        case own1 =>
          intro come A B' row hs' hg hr
          exact ⟨hs'.1.own hg (fun r e => (hr r e).1) (by omega) hDl, Nat.le_trans hs'.2 hg.size⟩
        case own2 => exact fun _ _ _ _ _ hs _ _ => hs
        case assign =>
          intro l1 y W' K' hK'
          simp only [encP]
          gi_wp2
          exact hK'
        case body =>
          rintro l1 come y W' ⟨hf', hs1⟩ _
          obtain ⟨p, hp⟩ := y
          have HLC : Hid ((puts L (come.map Subtype.val)).length = M + 1) := by show _ = _; rw [puts_length, HLL.out]
          obtain ⟨z, hz⟩ : ∃ z, (puts L (come.map Subtype.val))[p / 8]? = some z := ⟨_, List.getElem?_eq_getElem (by rw [HLC.out]; omega)⟩
          have hz256 : z < 256 := puts_byte HBY.out _ z (List.mem_of_getElem? hz)
          have d0 := hf'.blk.cell hz
          have d1 := hf'.box
          have d3 : W'.frozen? ⟨w.heap.size, p / 8, none⟩ = false := hf'.blk.frz
          rw [hBe] at d0 d1 d3
          have HPT : Hid (puts L ((come ++ [(⟨p, hp⟩ : Pl (8 * M))]).map Subtype.val) = (puts L (come.map Subtype.val)).set (p / 8) (z ||| 2 ^ (p % 8))) := by
            show _ = _
            rw [List.map_append, puts_append, List.map_cons, List.map_nil, puts_one]
            unfold put
            rw [List.getD_eq_getElem?_getD, hz]
            rfl
          have HE : Hid (bits .or .u8 (z : Int) ((2 : Int) ^ (p % 8) % 256) = ((z ||| 2 ^ (p % 8) : Nat) : Int)) := by
            show _ = _
            have hp8 : p % 8 < 8 := Nat.mod_lt p (by omega)
            rw [pow_int hp8, u8_or_nat z (2 ^ (p % 8)) hz256 (pow_lt hp8)]
          have HMF : Hid (Mz w (M + 1) (puts L (come.map Subtype.val)) Ds W') := hf'
          clear hf' hz hbox hbel hM2
          have g1 : (p : Int) / 8 < (M : Int) + 1 := by omega
          have z1 : ¬ bk = B := by omega
          have z2 : ¬ bh = B := by omega
          have z3 : ¬ bd = B := by omega
          have z4 : ¬ bm = B := by omega
          dsimp only
          gi_wp2
          refine ⟨KeepsOthers.setCell _ _ _, ⟨Below.heap_setCell W' _ _ _ z1, Below.heap_setCell W' _ _ _ z2, Below.heap_setCell W' _ _ _ z3, Below.heap_setCell W' _ _ _ z4⟩, ?_, by simpa using hs1⟩
          rw [HPT.out]
          have := HMF.out.set (p / 8) (z ||| 2 ^ (p % 8)) _ HE.out
          rw [hBe] at this
          exact this
        case done =>
          rintro D come W' hD hcome ⟨hf', hs1⟩ hDd
          rw [hcome, HPS.out] at hf'
          have HMF : Hid (Mz w (M + 1) (puts (List.replicate (M + 1) 0) (allP ((ks.take (j + 1)).map strB) (8 * M) k)) (D :: Ds) W') := hf'.more (by omega) hDd
          have HND' : Hid ((D :: Ds).Nodup) := List.nodup_cons.2 ⟨fun hm => by have := hDl D hm; omega, HND.out⟩
          clear hf' hcome hbox hbel hM2
          dsimp only
          gi_wp2
          refine HK.out _ _ ⟨n, Nat.lt_succ_self n, hJ n _ _ ⟨j + 1, by omega, D :: Ds, _, _, _, _, _, _, _, _, _, HND'.out, HMF.out, rfl⟩⟩
        case stop => exact fun _ _ _ _ _ _ h _ => h.elim
theorem make_any (a : Option Addr) (cap n : Nat) (ks : List ByteArray) (b : Int) (w : World) (h : IsT w a ks) (ht : Tab w) (hb : -9223372036854775808 ≤ b ∧ b ≤ 9223372036854775807) (hlen : ks.length ≤ 140737488355328) (hsz : ∀ s ∈ ks, s.size ≤ 9223372036854775807) (hn : n = ks.length) :
    Calls Tryd.prog 39 #[.slice a n cap, .int .i64 b] w (MakeAns w ks b) := callsIn_wide.1 (make_in a cap n ks b w h ht hb hlen hsz hn)
end Blo
end Go.Proofs.YtnhhalabmmcemaaDoor
