import Derived.Test.YtjfhhjkggjflfaaGreatDoorBl3
import Derived.Laws.MakeOwn
import Derived.Laws.OwnMore
namespace Go.Proofs.YtjfhhjkggjflfaaGreatDoor
namespace Blo
open Go.RowKit Go.Shelf CMath Byt Cod Laws Tsr BMath
set_option linter.unusedVariables false
set_option maxRecDepth 100000
attribute [local go_sem] Oper.semAt_some

theorem cell_of_obj {W : World} {b i : Nat} {cs : Array Value} {t : TypeId} (h : W.heap[b]? = some (.cells cs t)) : W.cell? ⟨b, i, none⟩ = cs[i]? := by simp [World.cell?, h]
theorem froz_of_obj {W : World} {b i : Nat} {cs : Array Value} {t : TypeId} (h : W.heap[b]? = some (.cells cs t)) : W.frozen? ⟨b, i, none⟩ = false := by simp [World.frozen?, h]
/-- The bytes l are a block. -/
def Blk (W : World) (g : Nat) (l : List Nat) : Prop := W.heap[g]? = some (.cells (cellsB l).toArray 5)
theorem Blk.cell {W : World} {g i x : Nat} {l : List Nat} (h : Blk W g l) (hx : l[i]? = some x) : W.cell? ⟨g, i, none⟩ = some (.int .u8 (x : Int)) := by
  rw [cell_of_obj h]
  simp [cellsB, hx]
theorem Blk.frz {W : World} {g i : Nat} {l : List Nat} (h : Blk W g l) : W.frozen? ⟨g, i, none⟩ = false := froz_of_obj h
theorem Blk.lt {W : World} {g : Nat} {l : List Nat} (h : Blk W g l) : g < W.heap.size := (Array.getElem?_eq_some_iff.1 h).1
theorem Blk.set {W : World} {g i v : Nat} {l : List Nat} {z : Int} (h : Blk W g l) (hz : z = (v : Int)) : Blk (W.setCell ⟨g, i, none⟩ (.int .u8 z)) g (l.set i v) := by
  subst hz
  unfold Blk at h ⊢
  simp only [World.setCell, Array.getElem?_modify, if_true, h, Option.map_some]
  simp [cellsB, List.map_set]
theorem Blk.new {W : World} {B g : Nat} {l : List Nat} (h : Blk W g l) (hb : ∀ x ∈ l, x < 256) (hg : B ≤ g) (hl : l.length ≤ 1000000) : New 5 B W (some ⟨g, 0, none⟩) l.length l :=
  ⟨⟨by simp [cellsB], .inr ⟨g, l.length, _, rfl, hg, h, Nat.le_refl _, by unfold maxLen; omega, by simp [cellsB], by rw [Nat.mul_one]; exact List.take_of_length_le (by simp [cellsB])⟩⟩, hb⟩

/-- What stands while Make goes on. -/
structure Mz (w0 : World) (M : Nat) (l : List Nat) (Ds : List Nat) (W : World) : Prop where
  below : Below w0.heap.size w0 W
  blk : Blk W w0.heap.size l
  box : W.cell? ⟨w0.heap.size + 1, 0, none⟩ = some (.slice (some ⟨w0.heap.size, 0, none⟩) M M)
  marks : ∀ D ∈ Ds, w0.heap.size + 2 ≤ D ∧ W.heap[D]? = some (.deferred (some []))
theorem Mz.lt {w0 : World} {M : Nat} {l Ds : List Nat} {W : World} (h : Mz w0 M l Ds W) : w0.heap.size + 1 < W.heap.size := World.block_lt_of_cell? W _ h.box
theorem Mz.mlt {w0 : World} {M : Nat} {l Ds : List Nat} {W : World} (h : Mz w0 M l Ds W) {D : Nat} (hD : D ∈ Ds) : D < W.heap.size := (Array.getElem?_eq_some_iff.1 (h.marks D hD).2).1
theorem Mz.keep {w0 : World} {M : Nat} {l Ds : List Nat} {W W' : World} (h : Mz w0 M l Ds W) (hb : Below w0.heap.size W W') (h0 : W'.heap[w0.heap.size]? = W.heap[w0.heap.size]?) (h1 : W'.heap[w0.heap.size + 1]? = W.heap[w0.heap.size + 1]?) (hm : ∀ D ∈ Ds, W'.heap[D]? = W.heap[D]?) : Mz w0 M l Ds W' :=
  ⟨h.below.trans hb, h0.trans h.blk, (World.cell?_of_block (a := ⟨w0.heap.size + 1, 0, none⟩) h1).trans h.box, fun D hD => ⟨(h.marks D hD).1, (hm D hD).trans (h.marks D hD).2⟩⟩
theorem Mz.under {w0 : World} {M : Nat} {l Ds : List Nat} {W W' : World} (h : Mz w0 M l Ds W) (hb : Below W.heap.size W W') : Mz w0 M l Ds W' :=
  h.keep (hb.mono h.below.size) (hb.block _ (by have := h.lt; omega)) (hb.block _ h.lt) (fun D hD => hb.block D (h.mlt hD))
theorem Mz.own {w0 : World} {M : Nat} {l Ds : List Nat} {Bd : Nat} {A B : World} {row : Option Nat} (h : Mz w0 M l Ds A) (hg : A.grownBy B row) (hr : ∀ r, row = some r → Bd ≤ r) (hB : w0.heap.size + 2 ≤ Bd) (hD : ∀ D ∈ Ds, D < Bd) : Mz w0 M l Ds B := by
  have hk : ∀ b, b < Bd → b < A.heap.size → B.heap[b]? = A.heap[b]? := fun b h1 h2 => hg.block b h2 (fun e => by have := hr b e.symm; omega)
  have hlt := h.lt
  exact h.keep ⟨hg.os, hg.tape, hg.output, hg.size, fun b hb => hk b (by omega) (by omega)⟩ (hk _ (by omega) (by omega)) (hk _ (by omega) hlt) (fun D hm => hk D (hD D hm) (h.mlt hm))
theorem Mz.set {w0 : World} {M : Nat} {l Ds : List Nat} {W : World} (h : Mz w0 M l Ds W) (i v : Nat) (z : Int) (hz : z = (v : Int)) : Mz w0 M (l.set i v) Ds (W.setCell ⟨w0.heap.size, i, none⟩ (.int .u8 z)) :=
  ⟨h.below.setCell (p := ⟨w0.heap.size, i, none⟩) (by simp) _, h.blk.set hz, (World.cell?_of_block (a := ⟨w0.heap.size + 1, 0, none⟩) (Below.heap_setCell W _ _ _ (by simp))).trans h.box, fun D hD => ⟨(h.marks D hD).1, (Below.heap_setCell W _ _ D (by have := (h.marks D hD).1; simp; omega)).trans (h.marks D hD).2⟩⟩
theorem Mz.more {w0 : World} {M : Nat} {l Ds : List Nat} {W : World} (h : Mz w0 M l Ds W) {D : Nat} (h1 : w0.heap.size + 2 ≤ D) (h2 : W.heap[D]? = some (.deferred (some []))) : Mz w0 M l (D :: Ds) W :=
  ⟨h.below, h.blk, h.box, fun E hE => by
    rcases List.mem_cons.1 hE with rfl | hE
    · exact ⟨h1, h2⟩
    · exact h.marks E hE⟩
/-- The answer of a Make. -/
def MakeAns (w : World) (ks : List ByteArray) (b : Int) (e : Ending) (w' : World) : Prop := ∃ a c, e = .returned (.slice a (mk (ks.map strB) b).length c) ∧ New 5 w.heap.size w' a c (mk (ks.map strB) b) ∧ Below w.heap.size w w'
theorem new_nil (B : Nat) (w : World) : New 5 B w none 0 [] := ⟨World.ownsRow_nil _ _ _ _, by simp⟩

set_option maxHeartbeats 2000000 in
theorem make_in (a : Option Addr) (cap n : Nat) (ks : List ByteArray) (b : Int) (w : World) (h : IsT w a ks) (ht : Tab w) (hb : -9223372036854775808 ≤ b ∧ b ≤ 9223372036854775807) (hlen : ks.length ≤ 140737488355328) (hsz : ∀ s ∈ ks, s.size ≤ 9223372036854775807) (hn : n = ks.length) :
    CallsIn Fence.wide 6 Tryz.prog 6 #[.slice a n cap, .int .i64 b] w (MakeAns w ks b) := by
  subst hn
  refine callsIn_of_wp_marks Tryz.func6 rfl trivial ?_ rfl
  simp only [Tryz.ntmps6, List.size_toArray, List.length_cons, List.length_nil, Nat.reduceAdd, Nat.reduceSub, Array.replicate_succ, Array.replicate_zero, List.push_toArray, List.append_toArray, List.nil_append, List.cons_append]
  have HI : Hid (IsT w a ks) := h
  have HT : Hid (Tab w) := ht
  have HS : Hid (∀ s ∈ ks, s.size ≤ 9223372036854775807) := hsz
  clear h ht hsz
  have hfB : Fence.wide.fn 14 := trivial
  have hfC : Fence.wide.fn 12 := trivial
  have hfD : Fence.wide.fn 13 := trivial
  by_cases hbk : b < 1 ∨ ks = []
  · have HM : Hid (mk (ks.map strB) b = []) := by show mk (ks.map strB) b = []; unfold mk; rw [if_pos (by simpa using hbk)]
    have q1 : ¬ b < 1 → (ks.length : Int) = 0 := fun h => by rcases hbk with h1 | h1; exact absurd h1 h; rw [h1]; rfl
    by_cases hb1 : b < 1
    · gi_wp2
      refine leaves_marks (B0 := w.heap.size) [] _ (by simp) List.nodup_nil (fun w' hb' hk => ?_)
      refine ⟨_, results_tmp rfl _ _ _, none, 0, by rw [HM.out]; rfl, by rw [HM.out]; exact new_nil _ _, hb'⟩
    · have q2 := q1 hb1
      gi_wp2
      refine leaves_marks (B0 := w.heap.size) [] _ (by simp) List.nodup_nil (fun w' hb' hk => ?_)
      refine ⟨_, results_tmp rfl _ _ _, none, 0, by rw [HM.out]; rfl, by rw [HM.out]; exact new_nil _ _, hb'⟩
  · have q1 : ¬ b < 1 := fun h => hbk (.inl h)
    have hpos : 0 < ks.length := by
      rcases Nat.eq_zero_or_pos ks.length with h | h
      · exact absurd (.inr (List.eq_nil_of_length_eq_zero h)) hbk
      · exact h
    have q2 : ¬ (ks.length : Int) = 0 := by omega
    obtain ⟨bn, hbn⟩ : ∃ bn : Nat, min b 16 = (bn : Int) := ⟨(min b 16).toNat, by omega⟩
    have hb16 : bn ≤ 16 := by omega
    gi_wp2
    refine (callsIn_wide.2 (placesFor_any ks.length bn w hb16 hlen)).mono ?_
    rintro e w' ⟨rfl, rfl⟩
    gi_wp2
    refine (callsIn_wide.2 (probesFor_any bn w' hb16)).mono ?_
    rintro e w ⟨rfl, rfl⟩
    have HMK : Hid (mk (ks.map strB) b = body (ks.map strB) (places ks.length bn) (probesN bn) ++ [probesN bn]) := by
      show mk (ks.map strB) b = _
      unfold mk
      rw [if_neg (by simpa using hbk), List.length_map, hbn, Int.toNat_natCast]
    obtain ⟨h8, h64, h20⟩ := places_8 ks.length bn
    obtain ⟨k1, k2⟩ := probesN_le hb16
    generalize places ks.length bn = m at *
    generalize probesN bn = k at *
    obtain ⟨M, hM⟩ : ∃ M, m / 8 = M := ⟨_, rfl⟩
    have hM8 : m = 8 * M := by omega
    subst hM8
    have qM : (8 * (M : Int)) / 8 + 1 = ((M + 1 : Nat) : Int) := by omega
    obtain ⟨i0, hi0, hz0, hz1, hz2⟩ := info_parts info8
    obtain ⟨W1, hmk, g1, hb1, hs1⟩ : ∃ W1 : World, (Instr.makeSlice 25 (.int .u64 ((M : Int) + 1)) (.int .u64 ((M : Int) + 1))).run Tryz.prog w = .ok (.slice (some ⟨w.heap.size, 0, none⟩) (M + 1) (M + 1)) W1 ∧ Blk W1 w.heap.size (List.replicate (M + 1) 0) ∧ Below w.heap.size w W1 ∧ W1.heap.size = w.heap.size + 1 := by
      have hr := run_make (P := Tryz.prog) w 25 5 i0 (.int .u8 0) Tryz.underlying25 hi0 hz0 .u64 .u64 ((M : Int) + 1) ((M : Int) + 1) (by omega) (by omega) (by rw [hz2]; omega) (by omega)
      rw [hz1] at hr
      have e0 : ((M : Int) + 1).toNat = M + 1 := by omega
      rw [e0, Nat.mul_one] at hr
      refine ⟨_, hr, ?_, (Below.refl _ _).alloc (Nat.le_refl _) _, by simp⟩
      have h3 := World.alloc_heap_new w (.cells (madeCells (Value.int .u8 0).cells (M + 1)) 5)
      unfold Blk
      rw [h3]
      have e1 : madeCells (Value.int .u8 0).cells (M + 1) = (cellsB (List.replicate (M + 1) 0)).toArray := by
        apply Array.toList_inj.1
        have h4 := toList_madeCells_one (.int .u8 0) (M + 1)
        rw [show (Value.int .u8 0).cells = #[Value.int .u8 0] from rfl, h4]
        simp [cellsB]
      rw [e1]
    gi_wp2
    have HZ0 : Hid (Mz w (M + 1) (List.replicate (M + 1) 0) [] (W1.alloc (.cells #[.slice (some ⟨w.heap.size, 0, none⟩) (M + 1) (M + 1)] 25))) := by
      have hb2 : Below W1.heap.size W1 (W1.alloc (.cells #[.slice (some ⟨w.heap.size, 0, none⟩) (M + 1) (M + 1)] 25)) := (Below.refl _ _).alloc (Nat.le_refl _) _
      refine ⟨hb1.trans (hb2.mono (by omega)), (hb2.block _ (by omega)).trans g1, ?_, by simp⟩
      rw [← hs1, World.cell?_alloc_at _ _ _ _ rfl]; rfl
    generalize W1.alloc (.cells #[.slice (some ⟨w.heap.size, 0, none⟩) (M + 1) (M + 1)] 25) = W0 at *
    clear hmk g1 hb1 hs1 qM hi0 hz0 hz1 hz2
    obtain ⟨B, hBe⟩ : ∃ B, w.heap.size = B := ⟨_, rfl⟩
    rw [hBe]
    refine wpIn_loop_ghost_k (fun n a' W => ∃ j, n + j = ks.length ∧ ∃ (Ds : List Nat) (u9 u33 u34 u35 u36 u37 u38 u39 u51 : Value), Ds.Nodup ∧ Mz w (M + 1) (puts (List.replicate (M + 1) 0) (allP ((ks.take j).map strB) (8 * M) k)) Ds W ∧ a' = { tmps := #[.slice a ks.length cap, .int .i64 (bn : Int), undef, undef, .slice none 0 0, .int .u64 (8 * (M : Int)), .int .i64 (k : Int), .pointer (some ⟨B + 1, 0, none⟩), undef, u9, undef, .int .i64 b, .bool false, .bool false, .slice a ks.length cap, .int .i64 (ks.length : Int), .bool false, .bool false, .int .i64 b, .int .i64 (bn : Int), .slice a ks.length cap, .int .i64 (ks.length : Int), .int .i64 (bn : Int), .int .u64 (8 * (M : Int)), .int .i64 (bn : Int), .int .i64 (k : Int), .int .u64 (8 * (M : Int)), .int .u64 (M : Int), .int .u64 ((M : Int) + 1), .slice (some ⟨B, 0, none⟩) (M + 1) (M + 1), .slice a ks.length cap, .int .i64 (ks.length : Int), .int .i64 (j : Int), u33, u34, u35, u36, u37, u38, u39, undef, undef, undef, undef, undef, undef, undef, undef, undef, undef, undef, u51, undef, undef, undef, undef, undef, undef, undef, undef], defers := Ds.map mark }) ks.length ?_ ?_
    · exact ⟨0, rfl, [], undef, undef, undef, undef, undef, undef, undef, undef, undef, List.nodup_nil, HZ0.out, rfl⟩
    · clear HZ0
      rintro n a' W ⟨j, hj, Ds, u9, u33, u34, u35, u36, u37, u38, u39, u51, hnd, hmz, rfl⟩ J K hJ hK
      cases n with
      | zero =>
        have hj' : j = ks.length := by omega
        subst hj'
        rw [List.take_length] at hmz
        have HMZ : Hid (Mz w (M + 1) (puts (List.replicate (M + 1) 0) (allP (ks.map strB) (8 * M) k)) Ds W) := hmz
        have HND : Hid Ds.Nodup := hnd
        have d1 := hmz.box
        rw [hBe] at d1
        obtain ⟨z, hz⟩ : ∃ z, (puts (List.replicate (M + 1) 0) (allP (ks.map strB) (8 * M) k))[M]? = some z := ⟨_, List.getElem?_eq_getElem (by simp)⟩
        have d2 := hmz.blk.cell hz
        have d3 : W.frozen? ⟨w.heap.size, M, none⟩ = false := hmz.blk.frz
        rw [hBe] at d2 d3
        have z1 : ¬ B + 1 = B := by omega
        have z2 : ¬ B = B + 1 := by omega
        clear hmz hz hnd
        gi_wp2
        have hZ := HMZ.out.set M k (k : Int) rfl
        have hfin : (puts (List.replicate (M + 1) 0) (allP (ks.map strB) (8 * M) k)).set M k = mk (ks.map strB) b := by
          rw [HMK.out, show List.replicate (M + 1) 0 = List.replicate M 0 ++ [0] by rw [List.replicate_succ'], puts_tail _ _ _ (fun q hq => by have := allP_lt (by omega) hq; simp; omega)]
          unfold body
          rw [hM, List.set_append_right _ _ (by simp)]
          simp
        rw [hfin] at hZ
        have hle : (mk (ks.map strB) b).length = M + 1 := by rw [HMK.out]; simp [hM]
        rw [← hBe]
        refine leaves_marks (B0 := w.heap.size) Ds _ (fun D hD => ⟨by have := (hZ.marks D hD).1; omega, (hZ.marks D hD).2⟩) HND.out (fun w' hb' hk => ?_)
        have hbl : Blk w' w.heap.size (mk (ks.map strB) b) := (hk w.heap.size (fun hm => by have := (hZ.marks _ hm).1; omega)).trans hZ.blk
        refine ⟨_, results_tmp rfl _ _ _, some ⟨w.heap.size, 0, none⟩, M + 1, by rw [hle]; rfl, ?_, hZ.below.trans hb'⟩
        have := hbl.new (B := w.heap.size) (mk_byte _ _) (Nat.le_refl _) (by omega)
        rw [hle] at this
        exact this
      | succ n =>
        have hjl : j < ks.length := by omega
        obtain ⟨b1, o1, rfl, hr1⟩ := HI.out (by rintro rfl; simp at hjl)
        obtain ⟨x, hx⟩ : ∃ x, ks[j]? = some x := ⟨_, List.getElem?_eq_getElem hjl⟩
        have hxs := HS.out x (List.mem_of_getElem? hx)
        have c0 := (hr1.below hmz.below hr1.1).2 j x hx
        have q3 : (j : Int) < (ks.length : Int) := by omega
        have HMZ : Hid (Mz w (M + 1) (puts (List.replicate (M + 1) 0) (allP ((ks.take j).map strB) (8 * M) k)) Ds W) := hmz
        have HND : Hid Ds.Nodup := hnd
        have HK : Hid (∀ a' w', Handed J (n + 1) a' w' → K a' w') := hK
        have HPS : Hid (puts (puts (List.replicate (M + 1) 0) (allP ((ks.take j).map strB) (8 * M) k)) (spots (crc (strB x)) (8 * M) k) = puts (List.replicate (M + 1) 0) (allP ((ks.take (j + 1)).map strB) (8 * M) k)) := by
          show _ = _
          obtain ⟨hjk, hje⟩ := List.getElem?_eq_some_iff.1 hx
          rw [List.take_succ_eq_append_getElem hjk, hje, List.map_append, List.map_cons, List.map_nil, allP_snoc, puts_append]
        have HLL : Hid ((puts (List.replicate (M + 1) 0) (allP ((ks.take j).map strB) (8 * M) k)).length = M + 1) := by show _ = _; simp
        have HBY : Hid (∀ z ∈ puts (List.replicate (M + 1) 0) (allP ((ks.take j).map strB) (8 * M) k), z < 256) := puts_byte (by intro z hz; have := (List.mem_replicate.1 hz).2; omega) _
        have HTW : Hid (Tab W) := HT.out.below hmz.below HT.out.lt
        generalize puts (List.replicate (M + 1) 0) (allP ((ks.take j).map strB) (8 * M) k) = L at *
        clear hmz hnd hK hr1 hx
        gi_wp2
        refine (callsIn_wide.2 (probes_any x k (8 * M) W HTW.out hxs)).mono ?_
        rintro e W2 ⟨bk, bh, bd, bm, rfl, hbs, hbox, hbel⟩
        have hM2 := HMZ.out.under hbel
        have hlt1 := HMZ.out.lt
        have hsz2 := hbel.size
        have hbl := hbox.lt
        have hDl : ∀ D ∈ Ds, D < W2.heap.size := fun D hD => by have := HMZ.out.mlt hD; omega
        have hc32 : crc (strB x) < 4294967296 := crc_lt _ (strB_byte x)
        gi_wp2
        refine wpIn_rangeFunc_ownF rfl (by decide) (gf := 38) (lb := #[.pointer (some ⟨bk, 0, none⟩), .pointer (some ⟨bh, 0, none⟩), .pointer (some ⟨bd, 0, none⟩), .pointer (some ⟨bm, 0, none⟩)]) rfl trivial (enters_of Tryz.func38 (by kernel_rfl) rfl)
          (probes_stops (6 - 1) (by decide) bk bh bd bm k (crc (strB x)) (8 * M) (by omega) (by omega) (by omega) hc32 W2 hbox) Kp.trans ?kb (Below.refl _ _) (fun _ => rfl)
          (fun come W' => Mz w (M + 1) (puts L (come.map Subtype.val)) Ds W' ∧ W2.heap.size ≤ W'.heap.size)
          (fun c come W' => False)
          ?own1 ?own2 ⟨hM2, Nat.le_refl _⟩
          (fun y => { tmps := #[.slice (some ⟨b1, o1, none⟩) ks.length cap, .int .i64 (bn : Int), undef, undef, .slice none 0 0, .int .u64 (8 * (M : Int)), .int .i64 (k : Int), .pointer (some ⟨B + 1, 0, none⟩), undef, .string x, .int .u64 (y.1 : Int), .int .i64 b, .bool false, .bool false, .slice (some ⟨b1, o1, none⟩) ks.length cap, .int .i64 (ks.length : Int), .bool false, .bool false, .int .i64 b, .int .i64 (bn : Int), .slice (some ⟨b1, o1, none⟩) ks.length cap, .int .i64 (ks.length : Int), .int .i64 (bn : Int), .int .u64 (8 * (M : Int)), .int .i64 (bn : Int), .int .i64 (k : Int), .int .u64 (8 * (M : Int)), .int .u64 (M : Int), .int .u64 ((M : Int) + 1), .slice (some ⟨B, 0, none⟩) (M + 1) (M + 1), .slice (some ⟨b1, o1, none⟩) ks.length cap, .int .i64 (ks.length : Int), .int .i64 (j : Int), .bool true, .pointer (some ⟨b1, o1 + j, none⟩), .string x, .string x, .int .i64 (k : Int), .int .u64 (8 * (M : Int)), .func (.func 38) #[] #[.pointer (some ⟨bk, 0, none⟩), .pointer (some ⟨bh, 0, none⟩), .pointer (some ⟨bd, 0, none⟩), .pointer (some ⟨bm, 0, none⟩)], .int .u64 (y.1 : Int), undef, undef, undef, undef, undef, undef, undef, undef, undef, undef, u51, undef, undef, undef, undef, undef, undef, undef, undef], defers := [] }) ?assign ?body ?done ?stop
        case kb =>
          intro W' q o o' hq hob _ _
          exact ⟨World.putObj_heap_other (by omega), World.putObj_heap_other (by omega), World.putObj_heap_other (by omega), World.putObj_heap_other (by omega)⟩
        case own1 =>
          intro come A B' row hs' hg hr
          exact ⟨hs'.1.own hg (fun r e => (hr r e).1) (by omega) hDl, Nat.le_trans hs'.2 hg.size⟩
        case own2 => exact fun _ _ _ _ _ hs _ _ => hs
        case assign =>
          intro l1 y W' K' hK'
          simp only [encP]
          gi_wp2
          exact hK'
        case body =>
          rintro l1 come y W' ⟨hf', hs1⟩ _
          obtain ⟨p, hp⟩ := y
          have HLC : Hid ((puts L (come.map Subtype.val)).length = M + 1) := by show _ = _; rw [puts_length, HLL.out]
          obtain ⟨z, hz⟩ : ∃ z, (puts L (come.map Subtype.val))[p / 8]? = some z := ⟨_, List.getElem?_eq_getElem (by rw [HLC.out]; omega)⟩
          have hz256 : z < 256 := puts_byte HBY.out _ z (List.mem_of_getElem? hz)
          have d0 := hf'.blk.cell hz
          have d1 := hf'.box
          have d3 : W'.frozen? ⟨w.heap.size, p / 8, none⟩ = false := hf'.blk.frz
          rw [hBe] at d0 d1 d3
          have HPT : Hid (puts L ((come ++ [(⟨p, hp⟩ : Pl (8 * M))]).map Subtype.val) = (puts L (come.map Subtype.val)).set (p / 8) (z ||| 2 ^ (p % 8))) := by
            show _ = _
            rw [List.map_append, puts_append, List.map_cons, List.map_nil, puts_one]
            unfold put
            rw [List.getD_eq_getElem?_getD, hz]
            rfl
          have HE : Hid (bits .or .u8 (z : Int) ((2 : Int) ^ (p % 8) % 256) = ((z ||| 2 ^ (p % 8) : Nat) : Int)) := by
            show _ = _
            have hp8 : p % 8 < 8 := Nat.mod_lt p (by omega)
            rw [pow_int hp8, u8_or_nat z (2 ^ (p % 8)) hz256 (pow_lt hp8)]
          have HMF : Hid (Mz w (M + 1) (puts L (come.map Subtype.val)) Ds W') := hf'
          clear hf' hz hbox hbel hM2
          have g1 : (p : Int) / 8 < (M : Int) + 1 := by omega
          have z1 : ¬ bk = B := by omega
          have z2 : ¬ bh = B := by omega
          have z3 : ¬ bd = B := by omega
          have z4 : ¬ bm = B := by omega
          dsimp only
          gi_wp2
          refine ⟨KeepsOthers.setCell _ _ _, ⟨Below.heap_setCell W' _ _ _ z1, Below.heap_setCell W' _ _ _ z2, Below.heap_setCell W' _ _ _ z3, Below.heap_setCell W' _ _ _ z4⟩, ?_, by simpa using hs1⟩
          rw [HPT.out]
          have := HMF.out.set (p / 8) (z ||| 2 ^ (p % 8)) _ HE.out
          rw [hBe] at this
          exact this
        case done =>
          rintro D come W' hD hcome ⟨hf', hs1⟩ hDd
          rw [hcome, HPS.out] at hf'
          have HMF : Hid (Mz w (M + 1) (puts (List.replicate (M + 1) 0) (allP ((ks.take (j + 1)).map strB) (8 * M) k)) (D :: Ds) W') := hf'.more (by omega) hDd
          have HND' : Hid ((D :: Ds).Nodup) := List.nodup_cons.2 ⟨fun hm => by have := hDl D hm; omega, HND.out⟩
          clear hf' hcome hbox hbel hM2
          dsimp only
          gi_wp2
          refine HK.out _ _ ⟨n, Nat.lt_succ_self n, hJ n _ _ ⟨j + 1, by omega, D :: Ds, _, _, _, _, _, _, _, _, _, HND'.out, HMF.out, rfl⟩⟩
        case stop => exact fun _ _ _ _ _ _ h _ => h.elim
theorem make_any (a : Option Addr) (cap n : Nat) (ks : List ByteArray) (b : Int) (w : World) (h : IsT w a ks) (ht : Tab w) (hb : -9223372036854775808 ≤ b ∧ b ≤ 9223372036854775807) (hlen : ks.length ≤ 140737488355328) (hsz : ∀ s ∈ ks, s.size ≤ 9223372036854775807) (hn : n = ks.length) :
    Calls Tryz.prog 6 #[.slice a n cap, .int .i64 b] w (MakeAns w ks b) := callsIn_wide.1 (make_in a cap n ks b w h ht hb hlen hsz hn)
end Blo
end Go.Proofs.YtjfhhjkggjflfaaGreatDoor
