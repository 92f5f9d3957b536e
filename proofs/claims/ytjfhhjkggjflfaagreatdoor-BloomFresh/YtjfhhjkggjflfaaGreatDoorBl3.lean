import Derived.Test.YtjfhhjkggjflfaaGreatDoorBl2
namespace Go.Proofs.YtjfhhjkggjflfaaGreatDoor
namespace Blo
open Go.RowKit Go.Shelf CMath Byt Cod Laws Tsr BMath
set_option linter.unusedVariables false
set_option maxRecDepth 100000
attribute [local go_sem] Oper.semAt_some

theorem bit_all : ∀ x : Fin 256, ∀ q : Fin 8, ((x.1 &&& 2 ^ q.1 == 0) = !x.1.testBit q.1) ∧ (x.1 / 2 ^ q.1 % 2 == 0) = !x.1.testBit q.1 := by decide +kernel
theorem bit_and {x q : Nat} (hx : x < 256) (hq : q < 8) : (bits .and .u8 (x : Int) ((2 ^ q : Nat) : Int) == 0) = !x.testBit q := by
  rw [u8_and_nat x (2 ^ q) hx (pow_lt hq), ← (bit_all ⟨x, hx⟩ ⟨q, hq⟩).1]
  rw [Bool.eq_iff_iff]
  simp only [beq_iff_eq]
  omega
theorem pow_int {q : Nat} (hq : q < 8) : (2 : Int) ^ q % 256 = ((2 ^ q : Nat) : Int) := by
  have := pow_lt hq
  have e : (2 : Int) ^ q = ((2 ^ q : Nat) : Int) := by simp
  rw [e]
  clear e
  generalize 2 ^ q = t at *
  omega
theorem bit_and' {x q : Nat} (hx : x < 256) (hq : q < 8) : (bits .and .u8 (x : Int) ((2 : Int) ^ q % 256) == 0) = !x.testBit q := by
  rw [pow_int hq]; exact bit_and hx hq
def mark (D : Nat) : Deferred := { target := .collected D, args := #[] }
/-- Marks that a function leaves behind: they are taken in, one by one. -/
theorem leaves_marks {F : Fence} {n : Nat} {P : Program} {fn : Func} {tmps : Array Value} {R : Ending → World → Prop} {B0 : Nat} : ∀ (Ds : List Nat) (w : World), (∀ D ∈ Ds, B0 ≤ D ∧ w.heap[D]? = some (.deferred (some []))) → Ds.Nodup →
    (∀ w', Below B0 w w' → (∀ b, b ∉ Ds → w'.heap[b]? = w.heap[b]?) → LeavesIn F n P fn tmps R [] .returning w') → LeavesInM F n P fn tmps R (Ds.map fun D => { target := .collected D, args := #[] }) .returning w
  | [], w, _, _, h => h w (Below.refl _ _) (fun _ _ => rfl)
  | D :: Ds, w, hD, hnd, h => by
    obtain ⟨hnD, hnd'⟩ := List.nodup_cons.1 hnd
    obtain ⟨hle, hobj⟩ := hD D List.mem_cons_self
    have hb1 : Below B0 w (w.putObj D (.deferred none)) := ⟨rfl, rfl, rfl, by simp, fun k hk => World.putObj_heap_other (by omega)⟩
    refine ⟨by simp, .inl ⟨_, _, rfl, run_takeDeferred hobj, ?_⟩⟩
    refine leaves_marks Ds _ (fun E hE => ⟨(hD E (List.mem_cons_of_mem _ hE)).1, ?_⟩) hnd' (fun w' hb hk => h w' (hb1.trans hb) fun b hb' => ?_)
    · rw [World.putObj_heap_other (by rintro rfl; exact hnD hE)]
      exact (hD E (List.mem_cons_of_mem _ hE)).2
    · rw [List.mem_cons, not_or] at hb'
      rw [hk b hb'.2, World.putObj_heap_other hb'.1]
theorem not_mark {w : World} {Ds : List Nat} {B0 : Nat} (hD : ∀ D ∈ Ds, B0 ≤ D ∧ w.heap[D]? = some (.deferred (some []))) {b o : Nat} {v : Value} (h : w.cell? ⟨b, o, none⟩ = some v) : b ∉ Ds := fun hm => by
  have := (hD b hm).2
  simp [World.cell?, this] at h
/-- What stands while May goes on: its two boxes. -/
structure Mf (w0 : World) (a : Option Addr) (n c : Nat) (W : World) : Prop where
  below : Below w0.heap.size w0 W
  box : W.cell? ⟨w0.heap.size, 0, none⟩ = some (.slice a n c)
  res : W.cell? ⟨w0.heap.size + 1, 0, none⟩ = some (.bool false)
  frz : W.frozen? ⟨w0.heap.size + 1, 0, none⟩ = false
theorem Mf.lt {w0 : World} {a : Option Addr} {n c : Nat} {W : World} (h : Mf w0 a n c W) : w0.heap.size + 1 < W.heap.size := World.block_lt_of_cell? W _ h.res
theorem Mf.keep {w0 : World} {a : Option Addr} {n c : Nat} {W W' : World} (h : Mf w0 a n c W) (hb : Below w0.heap.size W W') (h0 : W'.heap[w0.heap.size]? = W.heap[w0.heap.size]?) (h1 : W'.heap[w0.heap.size + 1]? = W.heap[w0.heap.size + 1]?) : Mf w0 a n c W' :=
  ⟨h.below.trans hb, (World.cell?_of_block (a := ⟨w0.heap.size, 0, none⟩) h0).trans h.box, (World.cell?_of_block (a := ⟨w0.heap.size + 1, 0, none⟩) h1).trans h.res, (World.frozen?_of_block (a := ⟨w0.heap.size + 1, 0, none⟩) h1).trans h.frz⟩
theorem Mf.under {w0 : World} {a : Option Addr} {n c : Nat} {W W' : World} (h : Mf w0 a n c W) (hb : Below W.heap.size W W') : Mf w0 a n c W' :=
  h.keep (hb.mono h.below.size) (hb.block _ (by have := h.lt; omega)) (hb.block _ h.lt)
theorem Mf.own {w0 : World} {a : Option Addr} {n c Bd : Nat} {A B : World} {row : Option Nat} (h : Mf w0 a n c A) (hg : A.grownBy B row) (hr : ∀ r, row = some r → Bd ≤ r) (hB : w0.heap.size + 2 ≤ Bd) : Mf w0 a n c B := by
  have hk : ∀ b, b < Bd → b < A.heap.size → B.heap[b]? = A.heap[b]? := fun b h1 h2 => hg.block b h2 (fun e => by have := hr b e.symm; omega)
  have hlt := h.lt
  exact h.keep ⟨hg.os, hg.tape, hg.output, hg.size, fun b hb => hk b (by omega) (by omega)⟩ (hk _ (by omega) (by omega)) (hk _ (by omega) hlt)
theorem Mf.set {w0 : World} {a : Option Addr} {n c : Nat} {W : World} (h : Mf w0 a n c W) : Mf w0 a n c (W.setCell ⟨w0.heap.size + 1, 0, none⟩ (.bool false)) :=
  ⟨h.below.setCell (p := ⟨w0.heap.size + 1, 0, none⟩) (by simp) _, (World.cell?_of_block (a := ⟨w0.heap.size, 0, none⟩) (Below.heap_setCell W _ _ _ (by simp))).trans h.box, World.cell?_setCell_same _ _ _ h.res, by rw [World.frozen?_setCell]; exact h.frz⟩
theorem mf_new (w : World) (a : Option Addr) (n c : Nat) (T1 T2 : TypeId) : Mf w a n c ((w.alloc (.cells #[.slice a n c] T1)).alloc (.cells #[.bool false] T2)) := by
  refine ⟨((Below.refl _ _).alloc (Nat.le_refl _) _).alloc (by simp) _, ?_, ?_, ?_⟩
  · rw [World.cell?_of_block (Below.heap_alloc _ _ _ (by simp)), World.cell?_alloc_at _ _ _ _ rfl]; rfl
  · rw [World.cell?_alloc_at _ _ _ _ (by simp)]; rfl
  · exact World.frozen?_alloc_at _ _ _ _ (by simp)

set_option maxHeartbeats 2000000 in
theorem may_in (a : Option Addr) (cap n : Nat) (l : List Nat) (s : ByteArray) (w : World) (h : IsB w a l) (ht : Tab w) (hlen : l.length ≤ 1000000000000000) (hs : s.size ≤ 9223372036854775807) (hn : n = l.length) :
    CallsIn Fence.wide 6 Tryz.prog 11 #[.slice a n cap, .string s] w fun e w' => e = .returned (.bool (may l (strB s))) ∧ Below w.heap.size w w' := by
  subst hn
  refine callsIn_of_wp_marks Tryz.func11 rfl trivial ?_ rfl
  simp only [Tryz.ntmps11, List.size_toArray, List.length_cons, List.length_nil, Nat.reduceAdd, Nat.reduceSub, Array.replicate_succ, Array.replicate_zero, List.push_toArray, List.append_toArray, List.nil_append, List.cons_append]
  have HI : Hid (IsB w a l) := h
  have HT : Hid (Tab w) := ht
  clear h ht
  have hfB : Fence.wide.fn 14 := trivial
  by_cases hl9 : l.length < 9
  · have q1 : (l.length : Int) - 1 < 8 := by omega
    have HM : Hid (may l (strB s) = true) := by show may l (strB s) = true; unfold may; rw [if_pos (.inl hl9)]
    gi_wp2
    refine leaves_marks (B0 := w.heap.size) [] _ (by simp) List.nodup_nil (fun w' hb hk => ?_)
    have hk0 := hk (w.heap.size + 1) (by simp)
    have hb0 : Below w.heap.size w ((w.alloc (.cells #[.slice a l.length cap] 25)).alloc (.cells #[.bool true] 4)) := ((Below.refl _ _).alloc (Nat.le_refl _) _).alloc (by simp) _
    have c0 : w'.cell? ⟨w.heap.size + 1, 0, none⟩ = some (.bool true) := by
      rw [World.cell?_of_block (a := ⟨w.heap.size + 1, 0, none⟩) hk0, World.cell?_alloc_at _ _ _ _ (by simp)]; rfl
    refine ⟨.bool true, ?_, by rw [HM.out], hb0.trans hb⟩
    clear hk hk0 hb
    simp [results, Tryz.results11, go_sem, c0]
  · obtain ⟨N, hN⟩ : ∃ N, l.length = N + 1 := ⟨l.length - 1, by omega⟩
    obtain ⟨b1, o1, rfl, hr1⟩ := HI.out.1 (by rintro rfl; simp at hN)
    obtain ⟨x, hx⟩ : ∃ x, l[N]? = some x := ⟨_, List.getElem?_eq_getElem (by omega)⟩
    have hx256 : x < 256 := HI.out.2 x (List.mem_of_getElem? hx)
    have hxd : l.getD (l.length - 1) 0 = x := by rw [hN, Nat.add_sub_cancel, List.getD_eq_getElem?_getD, hx]; rfl
    have c0 := hr1.2 N x hx
    have hb1 := hr1.1
    have z1 : ¬ b1 = w.heap.size := by omega
    have z2 : ¬ b1 = w.heap.size + 1 := by omega
    have z3 : ¬ w.heap.size = b1 := by omega
    have z4 : ¬ w.heap.size + 1 = b1 := by omega
    have z5 : b1 < w.heap.size + 1 := by omega
    have q1 : ¬ (N : Int) < 8 := by omega
    have HRW : Hid (BRow w b1 o1 l) := hr1
    clear hr1
    rw [hN] at hlen ⊢
    by_cases hxk : x = 0 ∨ 11 < x
    · have HM : Hid (may l (strB s) = true) := by show may l (strB s) = true; unfold may; rw [hxd, if_pos (.inr hxk)]
      by_cases hx0 : x = 0
      · subst hx0
        gi_wp2
        refine leaves_marks (B0 := w.heap.size) [] _ (by simp) List.nodup_nil (fun w' hb hk => ?_)
        have hk0 := hk (w.heap.size + 1) (by simp)
        have hb0 : Below w.heap.size w ((w.alloc (.cells #[.slice (some ⟨b1, o1, none⟩) (N + 1) cap] 25)).alloc (.cells #[.bool true] 4)) := ((Below.refl _ _).alloc (Nat.le_refl _) _).alloc (by simp) _
        have c9 : w'.cell? ⟨w.heap.size + 1, 0, none⟩ = some (.bool true) := by
          rw [World.cell?_of_block (a := ⟨w.heap.size + 1, 0, none⟩) hk0, World.cell?_alloc_at _ _ _ _ (by simp)]; rfl
        refine ⟨.bool true, ?_, by rw [HM.out], hb0.trans hb⟩
        clear hk hk0 hb
        simp [results, Tryz.results11, go_sem, c9]
      · have q2 : (11 : Int) < (x : Int) := by omega
        have q3 : ¬ (x : Int) = 0 := by omega
        gi_wp2
        refine leaves_marks (B0 := w.heap.size) [] _ (by simp) List.nodup_nil (fun w' hb hk => ?_)
        have hk0 := hk (w.heap.size + 1) (by simp)
        have hb0 : Below w.heap.size w ((w.alloc (.cells #[.slice (some ⟨b1, o1, none⟩) (N + 1) cap] 25)).alloc (.cells #[.bool true] 4)) := ((Below.refl _ _).alloc (Nat.le_refl _) _).alloc (by simp) _
        have c9 : w'.cell? ⟨w.heap.size + 1, 0, none⟩ = some (.bool true) := by
          rw [World.cell?_of_block (a := ⟨w.heap.size + 1, 0, none⟩) hk0, World.cell?_alloc_at _ _ _ _ (by simp)]; rfl
        refine ⟨.bool true, ?_, by rw [HM.out], hb0.trans hb⟩
        clear hk hk0 hb
        simp [results, Tryz.results11, go_sem, c9]
    · have q2 : ¬ (11 : Int) < (x : Int) := by omega
      have q3 : ¬ (x : Int) = 0 := by omega
      gi_wp2
      have hM0 := mf_new w (some ⟨b1, o1, none⟩) (N + 1) cap 25 4
      generalize ((w.alloc (.cells #[.slice (some ⟨b1, o1, none⟩) (N + 1) cap] 25)).alloc (.cells #[.bool false] 4)) = W1 at *
      refine (callsIn_wide.2 (probes_any s x (8 * N) W1 (HT.out.below hM0.below HT.out.lt) hs)).mono ?_
      rintro e W2 ⟨bk, bh, bd, bm, rfl, hbs, hbox, hbel⟩
      have hM2 := hM0.under hbel
      have hlt1 := hM0.lt
      have hsz2 := hbel.size
      have hbl := hbox.lt
      have hc32 : crc (strB s) < 4294967296 := crc_lt _ (strB_byte s)
      gi_wp2
      refine wpIn_rangeFunc_ownF rfl (by decide) (gf := 38) (lb := #[.pointer (some ⟨bk, 0, none⟩), .pointer (some ⟨bh, 0, none⟩), .pointer (some ⟨bd, 0, none⟩), .pointer (some ⟨bm, 0, none⟩)]) rfl trivial (enters_of Tryz.func38 (by kernel_rfl) rfl)
        (probes_stops (6 - 1) (by decide) bk bh bd bm x (crc (strB s)) (8 * N) (by omega) (by omega) (by omega) hc32 W2 hbox) Kp.trans ?kb (Below.refl _ _) (fun _ => rfl)
        (fun come W => Mf w (some ⟨b1, o1, none⟩) (N + 1) cap W ∧ W2.heap.size ≤ W.heap.size ∧ ∀ p ∈ come, bit l p.1 = true)
        (fun c come W => c = .ret ∧ Mf w (some ⟨b1, o1, none⟩) (N + 1) cap W ∧ ∃ p ∈ come, bit l p.1 = false)
        ?own1 ?own2 ⟨hM2, Nat.le_refl _, by simp⟩
        (fun y => { tmps := #[.slice (some ⟨b1, o1, none⟩) (N + 1) cap, .string s, .pointer (some ⟨w.heap.size, 0, none⟩), undef, .pointer (some ⟨w.heap.size + 1, 0, none⟩), .int .i64 (N : Int), .int .i64 (x : Int), .int .u64 (y.1 : Int), .slice (some ⟨b1, o1, none⟩) (N + 1) cap, .int .i64 ((N : Int) + 1), .int .i64 (N : Int), .int .i64 (N : Int), .bool false, .slice (some ⟨b1, o1, none⟩) (N + 1) cap, .int .i64 (N : Int), .pointer (some ⟨b1, o1 + N, none⟩), .int .u8 (x : Int), .int .i64 (x : Int), .int .i64 (x : Int), .bool false, .bool false, .int .i64 (x : Int), .bool false, .bool false, .string s, .int .i64 (x : Int), .int .i64 (N : Int), .int .u64 (N : Int), .int .u64 (8 * (N : Int)), .func (.func 38) #[] #[.pointer (some ⟨bk, 0, none⟩), .pointer (some ⟨bh, 0, none⟩), .pointer (some ⟨bd, 0, none⟩), .pointer (some ⟨bm, 0, none⟩)], .int .u64 (y.1 : Int), undef, undef, undef, undef, undef, undef, undef, undef, undef, undef], defers := [] }) ?assign ?body ?done ?stop
      case kb =>
        intro W' q o o' hq hob _ _
        exact ⟨World.putObj_heap_other (by omega), World.putObj_heap_other (by omega), World.putObj_heap_other (by omega), World.putObj_heap_other (by omega)⟩
      case own1 =>
        intro come A B' row hs' hg hr
        exact ⟨hs'.1.own hg (fun r e => (hr r e).1) (by omega), Nat.le_trans hs'.2.1 hg.size, hs'.2.2⟩
      case own2 =>
        rintro c come A B' row ⟨h1, h2, h3⟩ hg hr
        exact ⟨h1, h2.own hg (fun r e => (hr r e).1) (by omega), h3⟩
      case assign =>
        intro l1 y W' K' hK'
        simp only [encP]
        gi_wp2
        exact hK'
      case body =>
        rintro l1 come y W' ⟨hf', hs1, hall⟩ _
        obtain ⟨p, hp⟩ := y
        obtain ⟨z, hz⟩ : ∃ z, l[p / 8]? = some z := ⟨_, List.getElem?_eq_getElem (by omega)⟩
        have hz256 : z < 256 := HI.out.2 z (List.mem_of_getElem? hz)
        have d0 := (HRW.out.below hf'.below hb1).2 (p / 8) z hz
        have d1 := hf'.box
        have d2 := hf'.res
        have d3 := hf'.frz
        have hbit : bit l p = z.testBit (p % 8) := by unfold bit; rw [List.getD_eq_getElem?_getD, hz]; rfl
        have HBT : Hid (bit l p = z.testBit (p % 8)) := hbit
        have e1 := bit_and' hz256 (Nat.mod_lt p (show 0 < 8 by omega))
        have HMF : Hid (Mf w (some ⟨b1, o1, none⟩) (N + 1) cap W') := hf'
        have HALL : Hid (∀ p ∈ come, bit l p.1 = true) := hall
        clear hbit hf' hall hz hbox hbel hM0 hM2
        have g1 : (p : Int) / 8 < (N : Int) + 1 := by omega
        dsimp only
        have z6 : ¬ bk = w.heap.size + 1 := by omega
        have z7 : ¬ bh = w.heap.size + 1 := by omega
        have z8 : ¬ bd = w.heap.size + 1 := by omega
        have z9 : ¬ bm = w.heap.size + 1 := by omega
        cases ht : z.testBit (p % 8) with
        | true =>
          rw [ht] at e1
          have HBT' : Hid (bit l p = true) := HBT.out.trans ht
          simp only [Bool.not_true] at e1
          clear ht
          gi_wp2
          refine ⟨KeepsOthers.refl _, ⟨rfl, rfl, rfl, rfl⟩, HMF.out, hs1, fun q hq => ?_⟩
          rcases List.mem_append.1 hq with hq | hq
          · exact HALL.out q hq
          · rw [List.mem_singleton.1 hq]; exact HBT'.out
        | false =>
          rw [ht] at e1
          have HBT' : Hid (bit l p = false) := HBT.out.trans ht
          simp only [Bool.not_false] at e1
          clear ht
          gi_wp2
          exact ⟨KeepsOthers.setCell _ _ _, rfl, HMF.out.set, ⟨p, hp⟩, by simp, HBT'.out⟩
      case done =>
        rintro D come W' hD hcome ⟨hf', hs1, hall⟩ hDd
        have HM : Hid (may l (strB s) = true) := by
          show may l (strB s) = true
          unfold may
          rw [hxd, if_neg (by omega), hN, Nat.add_sub_cancel, List.all_eq_true]
          intro q hq
          rw [← hcome] at hq
          obtain ⟨y, hy, rfl⟩ := List.mem_map.1 hq
          exact hall y hy
        have d2 := hf'.res
        have d3 := hf'.frz
        have HMF : Hid (Mf w (some ⟨b1, o1, none⟩) (N + 1) cap W') := hf'
        clear hf' hall hcome hbox hbel hM0 hM2
        dsimp only
        gi_wp2
        refine leaves_marks (B0 := w.heap.size) [D] _ (by
          intro E hE
          rw [List.mem_singleton.1 hE]
          exact ⟨by omega, (Below.heap_setCell W' _ _ D (by simp; omega)).trans hDd⟩) (by simp) (fun w' hb hk => ?_)
        have hk0 := hk (w.heap.size + 1) (by simp; omega)
        have c9 : w'.cell? ⟨w.heap.size + 1, 0, none⟩ = some (.bool true) := by
          rw [World.cell?_of_block (a := ⟨w.heap.size + 1, 0, none⟩) hk0]
          exact World.cell?_setCell_same _ _ _ HMF.out.res
        refine ⟨.bool true, ?_, by rw [HM.out], (HMF.out.below.setCell (p := ⟨w.heap.size + 1, 0, none⟩) (by simp) _).trans hb⟩
        clear hk hk0 hb
        simp [results, Tryz.results11, go_sem, c9]
      case stop =>
        rintro D c come W' hD hcome ⟨rfl, hf', q, hq, hqb⟩ hDd
        have HM : Hid (may l (strB s) = false) := by
          show may l (strB s) = false
          unfold may
          rw [hxd, if_neg (by omega), hN, Nat.add_sub_cancel, List.all_eq_false]
          exact ⟨q.1, hcome.subset (List.mem_map.2 ⟨q, hq, rfl⟩), by rw [hqb]; simp⟩
        have HMF : Hid (Mf w (some ⟨b1, o1, none⟩) (N + 1) cap W') := hf'
        clear hf' hcome hbox hbel hM0 hM2
        dsimp only
        gi_wp2
        refine leaves_marks (B0 := w.heap.size) [D] _ (by
          intro E hE
          rw [List.mem_singleton.1 hE]
          exact ⟨by omega, hDd⟩) (by simp) (fun w' hb hk => ?_)
        have hk0 := hk (w.heap.size + 1) (by simp; omega)
        have c9 : w'.cell? ⟨w.heap.size + 1, 0, none⟩ = some (.bool false) := by
          rw [World.cell?_of_block (a := ⟨w.heap.size + 1, 0, none⟩) hk0]
          exact HMF.out.res
        refine ⟨.bool false, ?_, by rw [HM.out], HMF.out.below.trans hb⟩
        clear hk hk0 hb
        simp [results, Tryz.results11, go_sem, c9]
theorem may_any (a : Option Addr) (cap n : Nat) (l : List Nat) (s : ByteArray) (w : World) (h : IsB w a l) (ht : Tab w) (hlen : l.length ≤ 1000000000000000) (hs : s.size ≤ 9223372036854775807) (hn : n = l.length) :
    Calls Tryz.prog 11 #[.slice a n cap, .string s] w fun e w' => e = .returned (.bool (may l (strB s))) ∧ Below w.heap.size w w' := callsIn_wide.1 (may_in a cap n l s w h ht hlen hs hn)
end Blo
end Go.Proofs.YtjfhhjkggjflfaaGreatDoor
