import Derived.Test.YtcioaoanhmpdkaaSkP
import Derived.Deep.RegionWith
import Derived.Deep.RegionHeld3
namespace Go.Proofs.Ytcioaoanhmpdkaa
namespace Sk
open Go.RowKit Laws Irw Erw KMath Skm Byt
set_option linter.unusedVariables false
set_option maxRecDepth 100000
set_option linter.unusedSimpArgs false

theorem ahead_any (t : Nat) (T : Nat → Nat) (w : World) (L : Nat) (ds : List Nat) (ns pre post : List Nd) (h : Sl t T w L ds ns) (k : ByteArray) (s : Int) (d : Bool) (v : ByteArray) (hns : ns = pre ++ post) (hpre : ∀ n ∈ pre, aheadB k s n = true) (hpost : ∀ n ∈ post, aheadB k s n = false) :
    Calls Try.prog 89 #[.pointer (some ⟨L, 0, none⟩), .agg #[.string k, .int .u64 s, .bool d, .string v]] w fun e w' => e = .returned (lastV L pre) ∧ Below w.heap.size w w' :=
  callsIn_wide.1 (ahead_in L k s d v w ns pre post hns hpre hpost (fun n hn => (h.hts n hn).2) h.lt h.tow h.chain)
/-- where the stations' lists go on -/
theorem station {t : Nat} {T : Nat → Nat} {w : World} {L : Nat} {ds : List Nat} {ns pre post : List Nd} (h : Sl t T w L ds ns) (hns : ns = pre ++ post) (i : Nat) (hi : i < 12) : w.cell? ⟨lst L i pre, 5 + i, none⟩ = some (.pointer (nxt i post)) ∧ lst L i pre < w.heap.size ∧ ∀ j, w.frozen? ⟨lst L i pre, j, none⟩ = false := by
  obtain ⟨y, hy, h1⟩ := lst_at L i pre
  rcases h1 with ⟨h2, rfl⟩ | ⟨x, n, rfl, h2, h3⟩
  · rw [h2]
    refine ⟨?_, h.lt, h.frL⟩
    rw [h.tow i hi hi, hns, nxt_append hy]
  · have hx : ns = x ++ n :: (y ++ post) := by rw [hns]; simp
    have hm : n ∈ ns := by rw [hx]; simp
    rw [h2]
    refine ⟨?_, h.chain.lt hm, h.frN n hm⟩
    rw [(h.chain _ _ _ hx).tow i hi h3, nxt_append hy]

theorem keepB {A B C : World} (h : Below B.heap.size B C) (k : Below A.heap.size A B) : Below A.heap.size A C := k.trans (h.mono k.size)
theorem keep8 {wr W w' : World} {P : World → Prop} (hP : ∀ V, Below wr.heap.size wr V → P V) (h : Below wr.heap.size wr W ∧ P W) (hb : Below W.heap.size W w') : Below wr.heap.size wr w' ∧ P w' := ⟨keepB hb h.1, hP _ (keepB hb h.1)⟩
theorem noeq {ns pre post : List Nd} {e : En} (hns : ns = pre ++ post) (h1 : ∀ n ∈ pre, aheadB e.1 e.2.1 n = true) (h2 : ∀ n ∈ post, ltE e n.e) : ∀ nd ∈ ns, cmpE nd.e.1 e.1 nd.e.2.1 e.2.1 ≠ 0 := by
  intro nd hn
  rw [hns] at hn
  rcases List.mem_append.1 hn with h | h
  · have := h1 nd h
    simp [aheadB] at this
    omega
  · have h3 := h2 nd h
    unfold ltE at h3
    have := cmpE_neg e.1 nd.e.1 e.2.1 nd.e.2.1
    omega
def PutIs (ds : List Nat) (ns : List Nd) (e : En) (ns' : List Nd) (ok : Bool) : Prop :=
  (ok = false ∧ ns' = ns ∧ ∃ nd ∈ ns, cmpE nd.e.1 e.1 nd.e.2.1 e.2.1 = 0) ∨ (ok = true ∧ (∀ nd ∈ ns, cmpE nd.e.1 e.1 nd.e.2.1 e.2.1 ≠ 0) ∧ ∃ pre post b, ns = pre ++ post ∧ ns' = pre ++ ⟨b, e, hgt ds ns.length⟩ :: post)
def PutAns (t : Nat) (T : Nat → Nat) (w : World) (L : Nat) (ds : List Nat) (ns : List Nd) (e : En) (ok : Bool) (w' : World) : Prop :=
  ∃ T' ns', Sl t T' w' L ds ns' ∧ Goes (· = t) T w T' w' ∧ PutIs ds ns e ns' ok

set_option maxHeartbeats 1000000 in
theorem put_any (t : Nat) (T : Nat → Nat) (w : World) (L : Nat) (ds : List Nat) (ns : List Nd) (e : En) (h : Sl t T w L ds ns) (ht : 0 < t) (hlen : ds.length ≤ 9223372036854775807) (hn : ns.length ≤ 3000000000000) :
    Calls Try.prog 86 #[.pointer (some ⟨L, 0, none⟩), .agg #[.string e.1, .int .u64 e.2.1, .bool e.2.2.1, .string e.2.2.2]] w fun r w' => ∃ ok, r = .returned (.bool ok) ∧ PutAns t T w L ds ns e ok w' := by
  obtain ⟨pre, post, hns, hpre, hpost⟩ := split_at e.1 e.2.1 ns h.sorted
  obtain ⟨ek, es, ed, ev⟩ := e
  dsimp only at *
  have HB1 : Hid (Below w.heap.size w (w.alloc (.cells #[.string ek, .int .u64 es, .bool ed, .string ev] 77))) := (Below.refl _ _).alloc (Nat.le_refl _) _
  have HS0 : Hid (Sl t T w L ds ns) := h
  have g1 : (w.alloc (.cells #[.string ek, .int .u64 es, .bool ed, .string ev] 77)).heap[w.heap.size]? = some (.cells #[.string ek, .int .u64 es, .bool ed, .string ev] 77) := World.alloc_heap_new _ _
  have HAH : Hid (∀ W, Sl t T W L ds ns → Calls Try.prog 89 #[.pointer (some ⟨L, 0, none⟩), .agg #[.string ek, .int .u64 es, .bool ed, .string ev]] W fun e w' => e = .returned (lastV L pre) ∧ Below W.heap.size W w') := fun W hW => ahead_any t T W L ds ns pre post hW ek es ed ev hns hpre hpost
  have HNS : Hid (ns = pre ++ post) := hns
  have HPR : Hid (∀ n ∈ pre, aheadB ek es n = true) := hpre
  have HPO : Hid (∀ n ∈ post, aheadB ek es n = false) := hpost
  have b0 : (w.alloc (.cells #[.string ek, .int .u64 es, .bool ed, .string ev] 77)).cell? ⟨w.heap.size, 0, none⟩ = some (.string ek) := by simp
  have b1 : (w.alloc (.cells #[.string ek, .int .u64 es, .bool ed, .string ev] 77)).cell? ⟨w.heap.size, 1, none⟩ = some (.int .u64 es) := by simp
  have b2 : (w.alloc (.cells #[.string ek, .int .u64 es, .bool ed, .string ev] 77)).cell? ⟨w.heap.size, 2, none⟩ = some (.bool ed) := by simp
  have b3 : (w.alloc (.cells #[.string ek, .int .u64 es, .bool ed, .string ev] 77)).cell? ⟨w.heap.size, 3, none⟩ = some (.string ev) := by simp
  clear h hns hpre hpost
  go_enter Try.func86, Try.ntmps86
  generalize hW1 : w.alloc (.cells #[.string ek, .int .u64 es, .bool ed, .string ev] 77) = W1 at *
  go_wp2_with fail
  try rw [hW1]
  clear hW1
  refine (HAH.out W1 (HS0.out.below HB1.out)).mono ?_
  rintro r w2 ⟨rfl, hb2⟩
  have hE : w.heap.size < W1.heap.size := (Array.getElem?_eq_some_iff.1 g1).1
  have hs2 := hb2.size
  have HB2 : Hid (Below w.heap.size w w2) := HB1.out.trans (hb2.mono (by omega))
  have HE2 : Hid (w2.heap[w.heap.size]? = some (.cells #[.string ek, .int .u64 es, .bool ed, .string ev] 77)) := (hb2.block _ hE).trans g1
  clear b0 b1 b2 b3 g1 HB1 hb2 HAH
  unfold lastV lp
  have hb3 : Below w2.heap.size w2 (w2.alloc (.cells #[.pointer (some ⟨lst L 0 pre, 0, none⟩), .pointer (some ⟨lst L 1 pre, 0, none⟩), .pointer (some ⟨lst L 2 pre, 0, none⟩), .pointer (some ⟨lst L 3 pre, 0, none⟩), .pointer (some ⟨lst L 4 pre, 0, none⟩), .pointer (some ⟨lst L 5 pre, 0, none⟩), .pointer (some ⟨lst L 6 pre, 0, none⟩), .pointer (some ⟨lst L 7 pre, 0, none⟩), .pointer (some ⟨lst L 8 pre, 0, none⟩), .pointer (some ⟨lst L 9 pre, 0, none⟩), .pointer (some ⟨lst L 10 pre, 0, none⟩), .pointer (some ⟨lst L 11 pre, 0, none⟩)] 120)) := (Below.refl _ _).alloc (Nat.le_refl _) _
  have g3 : (w2.alloc (.cells #[.pointer (some ⟨lst L 0 pre, 0, none⟩), .pointer (some ⟨lst L 1 pre, 0, none⟩), .pointer (some ⟨lst L 2 pre, 0, none⟩), .pointer (some ⟨lst L 3 pre, 0, none⟩), .pointer (some ⟨lst L 4 pre, 0, none⟩), .pointer (some ⟨lst L 5 pre, 0, none⟩), .pointer (some ⟨lst L 6 pre, 0, none⟩), .pointer (some ⟨lst L 7 pre, 0, none⟩), .pointer (some ⟨lst L 8 pre, 0, none⟩), .pointer (some ⟨lst L 9 pre, 0, none⟩), .pointer (some ⟨lst L 10 pre, 0, none⟩), .pointer (some ⟨lst L 11 pre, 0, none⟩)] 120)).heap[w2.heap.size]? = some (.cells #[.pointer (some ⟨lst L 0 pre, 0, none⟩), .pointer (some ⟨lst L 1 pre, 0, none⟩), .pointer (some ⟨lst L 2 pre, 0, none⟩), .pointer (some ⟨lst L 3 pre, 0, none⟩), .pointer (some ⟨lst L 4 pre, 0, none⟩), .pointer (some ⟨lst L 5 pre, 0, none⟩), .pointer (some ⟨lst L 6 pre, 0, none⟩), .pointer (some ⟨lst L 7 pre, 0, none⟩), .pointer (some ⟨lst L 8 pre, 0, none⟩), .pointer (some ⟨lst L 9 pre, 0, none⟩), .pointer (some ⟨lst L 10 pre, 0, none⟩), .pointer (some ⟨lst L 11 pre, 0, none⟩)] 120) := World.alloc_heap_new _ _
  obtain ⟨W3, hW3⟩ : ∃ W3, w2.alloc (.cells #[.pointer (some ⟨lst L 0 pre, 0, none⟩), .pointer (some ⟨lst L 1 pre, 0, none⟩), .pointer (some ⟨lst L 2 pre, 0, none⟩), .pointer (some ⟨lst L 3 pre, 0, none⟩), .pointer (some ⟨lst L 4 pre, 0, none⟩), .pointer (some ⟨lst L 5 pre, 0, none⟩), .pointer (some ⟨lst L 6 pre, 0, none⟩), .pointer (some ⟨lst L 7 pre, 0, none⟩), .pointer (some ⟨lst L 8 pre, 0, none⟩), .pointer (some ⟨lst L 9 pre, 0, none⟩), .pointer (some ⟨lst L 10 pre, 0, none⟩), .pointer (some ⟨lst L 11 pre, 0, none⟩)] 120) = W3 := ⟨_, rfl⟩
  rw [hW3] at hb3 g3
  have HB3 : Hid (Below w.heap.size w W3) := HB2.out.trans (hb3.mono (by omega))
  have HE3 : Hid (W3.heap[w.heap.size]? = some (.cells #[.string ek, .int .u64 es, .bool ed, .string ev] 77)) := (hb3.block _ (by omega)).trans HE2.out
  have HA3 : Hid (∀ i, i < 12 → W3.cell? ⟨w2.heap.size, i, none⟩ = some (.pointer (some ⟨lst L i pre, 0, none⟩))) := by
    intro i hi
    rw [cell_of_obj g3]
    match i, hi with
    | 0, _ => rfl
    | 1, _ => rfl
    | 2, _ => rfl
    | 3, _ => rfl
    | 4, _ => rfl
    | 5, _ => rfl
    | 6, _ => rfl
    | 7, _ => rfl
    | 8, _ => rfl
    | 9, _ => rfl
    | 10, _ => rfl
    | 11, _ => rfl
    | i + 12, hi => omega
  have HS3 : Hid (Sl t T W3 L ds ns) := HS0.out.below HB3.out
  have HAL : Hid (w2.heap.size < W3.heap.size) := (Array.getElem?_eq_some_iff.1 g3).1
  have a0 := HA3.out 0 (by omega)
  have s0 := (station HS3.out HNS.out 0 (by omega)).1
  simp only [Nat.add_zero] at s0
  have HB2s : Hid (w.heap.size < w2.heap.size) := Nat.lt_of_lt_of_le hE hs2
  clear hb3 g3 HB2 HE2 hs2
  cases post with
  | nil =>
    simp only [nxt] at s0
    have HGT : Hid (∀ n ∈ ([] : List Nd), ltE (ek, es, ed, ev) n.e) := (fun n hn => absurd hn (List.not_mem_nil))
    go_wp2
    go_quiet (fail)
    have HB4 : Hid (Below W3.heap.size W3 (W3.drewN nq)) := below_drewN (Below.refl _ _) nq
    generalize W3.drewN nq = W4 at *
    have HS4 : Hid (Sl t T W4 L ds ns) := HS3.out.below HB4.out
    have HA4 : Hid (∀ i, i < 12 → W4.cell? ⟨w2.heap.size, i, none⟩ = some (.pointer (some ⟨lst L i pre, 0, none⟩))) := fun i hi => (HB4.out.cell (p := ⟨w2.heap.size, i, none⟩) HAL.out).trans (HA3.out i hi)
    have HE4 : Hid (W4.heap[w.heap.size]? = some (.cells #[.string ek, .int .u64 es, .bool ed, .string ev] 77)) := (HB4.out.block _ (Array.getElem?_eq_some_iff.1 HE3.out).1).trans HE3.out
    have HAL4 : Hid (w2.heap.size < W4.heap.size) := Nat.lt_of_lt_of_le HAL.out HB4.out.size
    have HB5 : Hid (Below w.heap.size w W4) := HB3.out.trans (HB4.out.mono HB3.out.size)
    have e0 : W4.cell? ⟨w.heap.size, 0, none⟩ = some (.string ek) := by rw [cell_of_obj HE4.out]; rfl
    have e1 : W4.cell? ⟨w.heap.size, 1, none⟩ = some (.int .u64 es) := by rw [cell_of_obj HE4.out]; rfl
    have e2 : W4.cell? ⟨w.heap.size, 2, none⟩ = some (.bool ed) := by rw [cell_of_obj HE4.out]; rfl
    have e3 : W4.cell? ⟨w.heap.size, 3, none⟩ = some (.string ev) := by rw [cell_of_obj HE4.out]; rfl
    have HHT : Hid (∀ n, Calls Try.prog 99 #[.pointer (some ⟨L, 0, none⟩)] (W4.drewN n) fun e w' => e = .returned (.int .i64 (hgt ds ns.length : Int)) ∧ ∃ m, w' = (W4.drewN n).drewN m) := fun n => height_any t T _ L ds ns (HS4.out.below (below_drewN (Below.refl _ _) n)) hlen (by omega)
    clear a0 s0 HB4 HS3 HA3 HE3 HAL HB3 HE4
    go_wp2
    go_region_with (go_at_call 99; refine (HHT.out 1).mono ?_; rintro r w5 ⟨rfl, n5, rfl⟩)
    all_goals (
      obtain ⟨N5, hN5⟩ : ∃ N5, 1 + n5 = N5 := ⟨_, rfl⟩
      have HO5 : Hid (((W4.drewN N5).alloc (.cells #[.string ek, .int .u64 es, .bool ed, .string ev, .int .i64 (hgt ds ns.length : Int), .pointer none, .pointer none, .pointer none, .pointer none, .pointer none, .pointer none, .pointer none, .pointer none, .pointer none, .pointer none, .pointer none, .pointer none] 122)).heap[W4.heap.size]? = some (.cells #[.string ek, .int .u64 es, .bool ed, .string ev, .int .i64 (hgt ds ns.length : Int), .pointer none, .pointer none, .pointer none, .pointer none, .pointer none, .pointer none, .pointer none, .pointer none, .pointer none, .pointer none, .pointer none, .pointer none] 122)) := World.alloc_heap_new (W4.drewN N5) _
      have HB6 : Hid (Below W4.heap.size W4 ((W4.drewN N5).alloc (.cells #[.string ek, .int .u64 es, .bool ed, .string ev, .int .i64 (hgt ds ns.length : Int), .pointer none, .pointer none, .pointer none, .pointer none, .pointer none, .pointer none, .pointer none, .pointer none, .pointer none, .pointer none, .pointer none, .pointer none] 122))) := (below_drewN (Below.refl _ _) N5).alloc (Nat.le_refl _) _
      rw [hN5]
      clear hN5
      generalize (W4.drewN N5).alloc (.cells #[.string ek, .int .u64 es, .bool ed, .string ev, .int .i64 (hgt ds ns.length : Int), .pointer none, .pointer none, .pointer none, .pointer none, .pointer none, .pointer none, .pointer none, .pointer none, .pointer none, .pointer none, .pointer none, .pointer none] 122) = W5 at *
      have HH12 : Hid (1 ≤ hgt ds ns.length ∧ hgt ds ns.length ≤ 12) := hgt_in ds ns.length
      have HAM : Hid (w2.heap.size < W4.heap.size) := HAL4.out
      have HST : Hid (∀ i, i < 12 → W5.cell? ⟨lst L i pre, 5 + i, none⟩ = some (.pointer (nxt i ([] : List Nd))) ∧ lst L i pre < W4.heap.size ∧ ∀ j, W5.frozen? ⟨lst L i pre, j, none⟩ = false) := fun i hi => by
        obtain ⟨h1, h2, h3⟩ := station HS4.out HNS.out i hi
        exact ⟨(HB6.out.cell (p := ⟨lst L i pre, 5 + i, none⟩) h2).trans h1, h2, fun j => (HB6.out.frozen (p := ⟨lst L i pre, j, none⟩) h2).trans (h3 j)⟩
      have HPUT : Hid (Sl t (upd T W4.heap.size t) ((lnk L W4.heap.size pre ([] : List Nd) W5 (hgt ds ns.length)).setCell ⟨L, 18, none⟩ (.int .i64 ((ns.length : Int) + 1))) L ds (pre ++ ⟨W4.heap.size, (ek, es, ed, ev), hgt ds ns.length⟩ :: ([] : List Nd)) ∧ Goes (· = t) T w (upd T W4.heap.size t) ((lnk L W4.heap.size pre ([] : List Nd) W5 (hgt ds ns.length)).setCell ⟨L, 18, none⟩ (.int .i64 ((ns.length : Int) + 1)))) := sl_put HS0.out HNS.out HPR.out HGT.out HH12.out (HB5.out.trans (HB6.out.mono HB5.out.size)) HB5.out.size HO5.out ht
      have HPI : Hid (PutIs ds ns (ek, es, ed, ev) (pre ++ ⟨W4.heap.size, (ek, es, ed, ev), hgt ds ns.length⟩ :: ([] : List Nd)) true) := .inr ⟨rfl, noeq (e := (ek, es, ed, ev)) HNS.out HPR.out HGT.out, pre, ([] : List Nd), _, HNS.out, rfl⟩
      have hM4 : W5.cell? ⟨W4.heap.size, 4, none⟩ = some (.int .i64 (hgt ds ns.length : Int)) := by rw [cell_of_obj HO5.out]; rfl
      have HM5 : Hid (∀ i, i < 12 → W5.cell? ⟨W4.heap.size, 5 + i, none⟩ = some (.pointer none)) := by
        intro i hi
        rw [cell_of_obj HO5.out]
        match i, hi with
        | 0, _ => rfl
        | 1, _ => rfl
        | 2, _ => rfl
        | 3, _ => rfl
        | 4, _ => rfl
        | 5, _ => rfl
        | 6, _ => rfl
        | 7, _ => rfl
        | 8, _ => rfl
        | 9, _ => rfl
        | 10, _ => rfl
        | 11, _ => rfl
        | i + 12, hi => omega
      have HMF : Hid (∀ j, W5.frozen? ⟨W4.heap.size, j, none⟩ = false) := fun j => froz_of_obj HO5.out
      have HA5 : Hid (∀ i, i < 12 → W5.cell? ⟨w2.heap.size, i, none⟩ = some (.pointer (some ⟨lst L i pre, 0, none⟩))) := fun i hi => (HB6.out.cell (p := ⟨w2.heap.size, i, none⟩) HAL4.out).trans (HA4.out i hi)
      have HC5 : Hid (W5.cell? ⟨L, 18, none⟩ = some (.int .i64 (ns.length : Int)) ∧ W5.frozen? ⟨L, 18, none⟩ = false) := by
        have h5 := HS4.out.below HB6.out
        exact ⟨h5.cnt, h5.frL 18⟩
      have HAS : Hid (∀ i, w2.heap.size ≠ lst L i pre) := fun i => by
        rcases lst_mem L i pre with h1 | ⟨nq, h1, h2, _⟩
        · rw [h1]; have := HS0.out.lt; have := HB2s.out; omega
        · rw [h2]; have := HS0.out.chain.lt (n := nq) (by rw [HNS.out]; simp [h1]); have := HB2s.out; omega
      generalize hH : hgt ds ns.length = H at *
      obtain ⟨hH1, hH2⟩ := HH12.out
      have hH3 : (H : Int) ≤ 12 := by omega
      clear HHT HS4 HA4 HB5 e0 e1 e2 e3 HAL4 HO5 HB6 HGT HH12 hH
      generalize W4.heap.size = M at *
      generalize ns.length = NL at *
      go_wp2
      go_loopw [38] (fun i wr => ∃ (k m : Nat), k ≤ H ∧ i = .int .i64 (k : Int) ∧ wr = (lnk L M pre ([] : List Nd) W5 k).drewN m) (fun i _ => H - (intOf i).toNat)
      case atStart => exact ⟨0, 0, Nat.zero_le _, rfl, rfl⟩
      case round =>
        obtain ⟨k, m, hk, rfl, rfl⟩ := hrel
        by_cases hlt : k < H
        · obtain ⟨hs1, hs2, hs3⟩ := HST.out k (by omega)
          have ca : (lnk L M pre ([] : List Nd) W5 k).cell? ⟨w2.heap.size, k, none⟩ = some (.pointer (some ⟨lst L k pre, 0, none⟩)) := by
            rw [World.cell?_of_block (a := ⟨w2.heap.size, k, none⟩) (lnk_block k w2.heap.size (by have := HAM.out; omega) (fun i _ => HAS.out i))]
            exact HA5.out k (by omega)
          have cs : (lnk L M pre ([] : List Nd) W5 k).cell? ⟨lst L k pre, 5 + k, none⟩ = some (.pointer (nxt k ([] : List Nd))) := by
            rw [lnk_off k _ (5 + k) (fun i hi => by omega)]
            exact hs1
          have cm : (lnk L M pre ([] : List Nd) W5 k).cell? ⟨M, 5 + k, none⟩ = some (.pointer none) := by
            rw [lnk_off k _ (5 + k) (fun i hi => by omega)]
            exact HM5.out k (by omega)
          have fs : (lnk L M pre ([] : List Nd) W5 k).frozen? ⟨lst L k pre, 5 + k, none⟩ = false := by rw [lnk_frozen]; exact hs3 _
          have fm : (lnk L M pre ([] : List Nd) W5 k).frozen? ⟨M, 5 + k, none⟩ = false := by rw [lnk_frozen]; exact HMF.out _
          have hAM : ¬ M = w2.heap.size := by have := HAM.out; omega
          have hAM' : ¬ w2.heap.size = M := by have := HAM.out; omega
          have hSM : ¬ M = lst L k pre := by omega
          have hSM' : ¬ lst L k pre = M := by omega
          have d1 : (k : Int) < (H : Int) := by omega
          have d2 : (k : Int) < 12 := by omega
          have HE : Hid ((((lnk L M pre ([] : List Nd) W5 k).setCell ⟨M, 5 + k, none⟩ (.pointer (nxt k ([] : List Nd)))).setCell ⟨lst L k pre, 5 + k, none⟩ (.pointer (some ⟨M, 0, none⟩))) = lnk L M pre ([] : List Nd) W5 (k + 1)) := rfl
          clear hs1 hs2 hs3
          generalize nxt k ([] : List Nd) = nx at *
          generalize lst L k pre = lk at *
          generalize lnk L M pre ([] : List Nd) W5 k = Wk at *
          go_wp2
          go_region
          all_goals (
            go_wp2
            go_roundw
            case rel => exact ⟨k + 1, m + 1, by omega, by go_num, by rw [← HE.out]; rfl⟩
            case measure => simp [intOf]; omega)
        · obtain rfl : k = H := by omega
          obtain ⟨hc5, hf5⟩ := HC5.out
          have cc : (lnk L M pre ([] : List Nd) W5 k).cell? ⟨L, 18, none⟩ = some (.int .i64 (NL : Int)) := by
            rw [lnk_off k L 18 (fun i hi => by omega)]; exact hc5
          have fc : (lnk L M pre ([] : List Nd) W5 k).frozen? ⟨L, 18, none⟩ = false := by rw [lnk_frozen]; exact hf5
          clear hc5 hf5 hM4
          generalize lnk L M pre ([] : List Nd) W5 k = Wk at *
          go_wp2
          go_ret
          have hb9 : Below (Wk.setCell ⟨L, 18, none⟩ (.int .i64 ((NL : Int) + 1))).heap.size (Wk.setCell ⟨L, 18, none⟩ (.int .i64 ((NL : Int) + 1))) ((Wk.setCell ⟨L, 18, none⟩ (.int .i64 ((NL : Int) + 1))).drewN m) := below_drewN (Below.refl _ _) m
          exact ⟨true, rfl, _, _, HPUT.out.1.below hb9, HPUT.out.2.trans (Goes.below hb9), HPI.out⟩)
  | cons nd post =>
    have hn0 : 0 < nd.h := (HS3.out.hts nd (by rw [HNS.out]; simp)).1
    obtain ⟨rn, hnode⟩ := HS3.out.chain.node (n := nd) (by rw [HNS.out]; simp)
    simp only [nxt, if_pos hn0] at s0
    have hPC := hnode.ent
    have hndl : nd.b < W3.heap.size := HS3.out.chain.lt (by rw [HNS.out]; simp)
    have HPD : Hid ((nd :: post).Pairwise (fun a b => ltE a.e b.e)) := by
      have := HS3.out.sorted
      rw [HNS.out, List.pairwise_append] at this
      exact this.2.1
    have HN9 : Hid (nd ∈ ns) := by
      show nd ∈ ns
      rw [HNS.out]; simp
    clear hn0 hnode
    obtain ⟨xb, ⟨xk, xs, xd, xv⟩, xh⟩ := nd
    dsimp only [entAt] at hPC hndl s0
    have HP8 : Hid (∀ w', Below W3.heap.size W3 w' → w'.cell? ⟨xb, 0, none⟩ = some (.string xk) ∧ w'.cell? ⟨xb, 1, none⟩ = some (.int .u64 xs) ∧ w'.cell? ⟨xb, 2, none⟩ = some (.bool xd) ∧ w'.cell? ⟨xb, 3, none⟩ = some (.string xv) ∧ w'.cell? ⟨w.heap.size, 0, none⟩ = some (.string ek) ∧ w'.cell? ⟨w.heap.size, 1, none⟩ = some (.int .u64 es) ∧ w'.cell? ⟨w.heap.size, 2, none⟩ = some (.bool ed) ∧ w'.cell? ⟨w.heap.size, 3, none⟩ = some (.string ev)) := fun V hV => by
      have hx := hV.block xb hndl
      have he : V.heap[w.heap.size]? = _ := (hV.block _ (Array.getElem?_eq_some_iff.1 HE3.out).1).trans HE3.out
      exact ⟨(World.cell?_of_block (a := ⟨xb, 0, none⟩) hx).trans hPC.1, (World.cell?_of_block (a := ⟨xb, 1, none⟩) hx).trans hPC.2.1, (World.cell?_of_block (a := ⟨xb, 2, none⟩) hx).trans hPC.2.2.1, (World.cell?_of_block (a := ⟨xb, 3, none⟩) hx).trans hPC.2.2.2, by rw [cell_of_obj he]; rfl, by rw [cell_of_obj he]; rfl, by rw [cell_of_obj he]; rfl, by rw [cell_of_obj he]; rfl⟩
    generalize hcm : cmpE xk ek xs es = cm at *
    have HCMP : Hid (∀ W, Calls Try.prog 98 #[.agg #[.string xk, .int .u64 xs, .bool xd, .string xv], .agg #[.string ek, .int .u64 es, .bool ed, .string ev]] W fun e w' => e = .returned (.int .i64 cm) ∧ Below W.heap.size W w') := fun W => by
      have := Ent.compare_any xk xs xd xv ek es ed ev W
      rw [hcm] at this
      exact this
    have HCM : Hid (cmpE xk ek xs es = cm) := hcm
    clear hcm hPC
    by_cases hc0 : cm = 0
    · subst hc0
      go_wp2
      go_region_held3 (fun w' => Below W3.heap.size W3 w' ∧ w'.cell? ⟨xb, 0, none⟩ = some (.string xk) ∧ w'.cell? ⟨xb, 1, none⟩ = some (.int .u64 xs) ∧ w'.cell? ⟨xb, 2, none⟩ = some (.bool xd) ∧ w'.cell? ⟨xb, 3, none⟩ = some (.string xv) ∧ w'.cell? ⟨w.heap.size, 0, none⟩ = some (.string ek) ∧ w'.cell? ⟨w.heap.size, 1, none⟩ = some (.int .u64 es) ∧ w'.cell? ⟨w.heap.size, 2, none⟩ = some (.bool ed) ∧ w'.cell? ⟨w.heap.size, 3, none⟩ = some (.string ev)) (first | assumption | exact ⟨(Below.refl _ _).drew, HP8.out _ ((Below.refl _ _).drew)⟩ | exact keep8 HP8.out (by assumption) (by assumption))
        (first
          | (go_at_call 98; refine (HCMP.out _).mono ?_; rintro e w' ⟨rfl, hb9⟩))
      have HB9 : Hid (Below W3.heap.size W3 w') := by rename_i hz; exact hz.1
      all_goals (
        go_wp2
        go_ret
        exact ⟨false, rfl, T, ns, HS3.out.below HB9.out, (Goes.below HB3.out).trans (Goes.below HB9.out), .inl ⟨rfl, rfl, _, HN9.out, HCM.out⟩⟩)
    · have hc1 : (cm == 0) = false := by simpa using hc0
      have HGT : Hid (∀ n ∈ (⟨xb, (xk, xs, xd, xv), xh⟩ : Nd) :: post, ltE (ek, es, ed, ev) n.e) := post_gt (e := (ek, es, ed, ev)) HPD.out (HPO.out _ List.mem_cons_self) (by rw [HCM.out]; exact hc0)
      go_wp2
      go_region_held3 (fun w' => Below W3.heap.size W3 w' ∧ w'.cell? ⟨xb, 0, none⟩ = some (.string xk) ∧ w'.cell? ⟨xb, 1, none⟩ = some (.int .u64 xs) ∧ w'.cell? ⟨xb, 2, none⟩ = some (.bool xd) ∧ w'.cell? ⟨xb, 3, none⟩ = some (.string xv) ∧ w'.cell? ⟨w.heap.size, 0, none⟩ = some (.string ek) ∧ w'.cell? ⟨w.heap.size, 1, none⟩ = some (.int .u64 es) ∧ w'.cell? ⟨w.heap.size, 2, none⟩ = some (.bool ed) ∧ w'.cell? ⟨w.heap.size, 3, none⟩ = some (.string ev)) (first | assumption | exact ⟨(Below.refl _ _).drew, HP8.out _ ((Below.refl _ _).drew)⟩ | exact keep8 HP8.out (by assumption) (by assumption))
        (first
          | (go_at_call 98; refine (HCMP.out _).mono ?_; rintro e W4 ⟨rfl, hb9⟩))
      have HB4 : Hid (Below W3.heap.size W3 W4) := by rename_i hz; exact hz.1
      have HS4 : Hid (Sl t T W4 L ds ns) := HS3.out.below HB4.out
      have HA4 : Hid (∀ i, i < 12 → W4.cell? ⟨w2.heap.size, i, none⟩ = some (.pointer (some ⟨lst L i pre, 0, none⟩))) := fun i hi => (HB4.out.cell (p := ⟨w2.heap.size, i, none⟩) HAL.out).trans (HA3.out i hi)
      have HE4 : Hid (W4.heap[w.heap.size]? = some (.cells #[.string ek, .int .u64 es, .bool ed, .string ev] 77)) := (HB4.out.block _ (Array.getElem?_eq_some_iff.1 HE3.out).1).trans HE3.out
      have HAL4 : Hid (w2.heap.size < W4.heap.size) := Nat.lt_of_lt_of_le HAL.out HB4.out.size
      have HB5 : Hid (Below w.heap.size w W4) := HB3.out.trans (HB4.out.mono HB3.out.size)
      have e0 : W4.cell? ⟨w.heap.size, 0, none⟩ = some (.string ek) := by rw [cell_of_obj HE4.out]; rfl
      have e1 : W4.cell? ⟨w.heap.size, 1, none⟩ = some (.int .u64 es) := by rw [cell_of_obj HE4.out]; rfl
      have e2 : W4.cell? ⟨w.heap.size, 2, none⟩ = some (.bool ed) := by rw [cell_of_obj HE4.out]; rfl
      have e3 : W4.cell? ⟨w.heap.size, 3, none⟩ = some (.string ev) := by rw [cell_of_obj HE4.out]; rfl
      have HHT : Hid (∀ n, Calls Try.prog 99 #[.pointer (some ⟨L, 0, none⟩)] (W4.drewN n) fun e w' => e = .returned (.int .i64 (hgt ds ns.length : Int)) ∧ ∃ m, w' = (W4.drewN n).drewN m) := fun n => height_any t T _ L ds ns (HS4.out.below (below_drewN (Below.refl _ _) n)) hlen (by omega)
      clear a0 s0 HB4 HS3 HA3 HE3 HAL HB3 HE4
      go_wp2
      go_region_with (go_at_call 99; refine (HHT.out 1).mono ?_; rintro r w5 ⟨rfl, n5, rfl⟩)
      all_goals (
        obtain ⟨N5, hN5⟩ : ∃ N5, 1 + n5 = N5 := ⟨_, rfl⟩
        have HO5 : Hid (((W4.drewN N5).alloc (.cells #[.string ek, .int .u64 es, .bool ed, .string ev, .int .i64 (hgt ds ns.length : Int), .pointer none, .pointer none, .pointer none, .pointer none, .pointer none, .pointer none, .pointer none, .pointer none, .pointer none, .pointer none, .pointer none, .pointer none] 122)).heap[W4.heap.size]? = some (.cells #[.string ek, .int .u64 es, .bool ed, .string ev, .int .i64 (hgt ds ns.length : Int), .pointer none, .pointer none, .pointer none, .pointer none, .pointer none, .pointer none, .pointer none, .pointer none, .pointer none, .pointer none, .pointer none, .pointer none] 122)) := World.alloc_heap_new (W4.drewN N5) _
        have HB6 : Hid (Below W4.heap.size W4 ((W4.drewN N5).alloc (.cells #[.string ek, .int .u64 es, .bool ed, .string ev, .int .i64 (hgt ds ns.length : Int), .pointer none, .pointer none, .pointer none, .pointer none, .pointer none, .pointer none, .pointer none, .pointer none, .pointer none, .pointer none, .pointer none, .pointer none] 122))) := (below_drewN (Below.refl _ _) N5).alloc (Nat.le_refl _) _
        rw [hN5]
        clear hN5
        generalize (W4.drewN N5).alloc (.cells #[.string ek, .int .u64 es, .bool ed, .string ev, .int .i64 (hgt ds ns.length : Int), .pointer none, .pointer none, .pointer none, .pointer none, .pointer none, .pointer none, .pointer none, .pointer none, .pointer none, .pointer none, .pointer none, .pointer none] 122) = W5 at *
        have HH12 : Hid (1 ≤ hgt ds ns.length ∧ hgt ds ns.length ≤ 12) := hgt_in ds ns.length
        have HAM : Hid (w2.heap.size < W4.heap.size) := HAL4.out
        have HST : Hid (∀ i, i < 12 → W5.cell? ⟨lst L i pre, 5 + i, none⟩ = some (.pointer (nxt i ((⟨xb, (xk, xs, xd, xv), xh⟩ : Nd) :: post))) ∧ lst L i pre < W4.heap.size ∧ ∀ j, W5.frozen? ⟨lst L i pre, j, none⟩ = false) := fun i hi => by
          obtain ⟨h1, h2, h3⟩ := station HS4.out HNS.out i hi
          exact ⟨(HB6.out.cell (p := ⟨lst L i pre, 5 + i, none⟩) h2).trans h1, h2, fun j => (HB6.out.frozen (p := ⟨lst L i pre, j, none⟩) h2).trans (h3 j)⟩
        have HPUT : Hid (Sl t (upd T W4.heap.size t) ((lnk L W4.heap.size pre ((⟨xb, (xk, xs, xd, xv), xh⟩ : Nd) :: post) W5 (hgt ds ns.length)).setCell ⟨L, 18, none⟩ (.int .i64 ((ns.length : Int) + 1))) L ds (pre ++ ⟨W4.heap.size, (ek, es, ed, ev), hgt ds ns.length⟩ :: ((⟨xb, (xk, xs, xd, xv), xh⟩ : Nd) :: post)) ∧ Goes (· = t) T w (upd T W4.heap.size t) ((lnk L W4.heap.size pre ((⟨xb, (xk, xs, xd, xv), xh⟩ : Nd) :: post) W5 (hgt ds ns.length)).setCell ⟨L, 18, none⟩ (.int .i64 ((ns.length : Int) + 1)))) := sl_put HS0.out HNS.out HPR.out HGT.out HH12.out (HB5.out.trans (HB6.out.mono HB5.out.size)) HB5.out.size HO5.out ht
        have HPI : Hid (PutIs ds ns (ek, es, ed, ev) (pre ++ ⟨W4.heap.size, (ek, es, ed, ev), hgt ds ns.length⟩ :: ((⟨xb, (xk, xs, xd, xv), xh⟩ : Nd) :: post)) true) := .inr ⟨rfl, noeq (e := (ek, es, ed, ev)) HNS.out HPR.out HGT.out, pre, ((⟨xb, (xk, xs, xd, xv), xh⟩ : Nd) :: post), _, HNS.out, rfl⟩
        have hM4 : W5.cell? ⟨W4.heap.size, 4, none⟩ = some (.int .i64 (hgt ds ns.length : Int)) := by rw [cell_of_obj HO5.out]; rfl
        have HM5 : Hid (∀ i, i < 12 → W5.cell? ⟨W4.heap.size, 5 + i, none⟩ = some (.pointer none)) := by
          intro i hi
          rw [cell_of_obj HO5.out]
          match i, hi with
          | 0, _ => rfl
          | 1, _ => rfl
          | 2, _ => rfl
          | 3, _ => rfl
          | 4, _ => rfl
          | 5, _ => rfl
          | 6, _ => rfl
          | 7, _ => rfl
          | 8, _ => rfl
          | 9, _ => rfl
          | 10, _ => rfl
          | 11, _ => rfl
          | i + 12, hi => omega
        have HMF : Hid (∀ j, W5.frozen? ⟨W4.heap.size, j, none⟩ = false) := fun j => froz_of_obj HO5.out
        have HA5 : Hid (∀ i, i < 12 → W5.cell? ⟨w2.heap.size, i, none⟩ = some (.pointer (some ⟨lst L i pre, 0, none⟩))) := fun i hi => (HB6.out.cell (p := ⟨w2.heap.size, i, none⟩) HAL4.out).trans (HA4.out i hi)
        have HC5 : Hid (W5.cell? ⟨L, 18, none⟩ = some (.int .i64 (ns.length : Int)) ∧ W5.frozen? ⟨L, 18, none⟩ = false) := by
          have h5 := HS4.out.below HB6.out
          exact ⟨h5.cnt, h5.frL 18⟩
        have HAS : Hid (∀ i, w2.heap.size ≠ lst L i pre) := fun i => by
          rcases lst_mem L i pre with h1 | ⟨nq, h1, h2, _⟩
          · rw [h1]; have := HS0.out.lt; have := HB2s.out; omega
          · rw [h2]; have := HS0.out.chain.lt (n := nq) (by rw [HNS.out]; simp [h1]); have := HB2s.out; omega
        generalize hH : hgt ds ns.length = H at *
        obtain ⟨hH1, hH2⟩ := HH12.out
        have hH3 : (H : Int) ≤ 12 := by omega
        clear HHT HS4 HA4 HB5 e0 e1 e2 e3 HAL4 HO5 HB6 HGT HH12 hH
        generalize W4.heap.size = M at *
        generalize ns.length = NL at *
        go_wp2
        go_loopw [38] (fun i wr => ∃ (k m : Nat), k ≤ H ∧ i = .int .i64 (k : Int) ∧ wr = (lnk L M pre ((⟨xb, (xk, xs, xd, xv), xh⟩ : Nd) :: post) W5 k).drewN m) (fun i _ => H - (intOf i).toNat)
        case atStart => exact ⟨0, 0, Nat.zero_le _, rfl, rfl⟩
        case round =>
          obtain ⟨k, m, hk, rfl, rfl⟩ := hrel
          by_cases hlt : k < H
          · obtain ⟨hs1, hs2, hs3⟩ := HST.out k (by omega)
            have ca : (lnk L M pre ((⟨xb, (xk, xs, xd, xv), xh⟩ : Nd) :: post) W5 k).cell? ⟨w2.heap.size, k, none⟩ = some (.pointer (some ⟨lst L k pre, 0, none⟩)) := by
              rw [World.cell?_of_block (a := ⟨w2.heap.size, k, none⟩) (lnk_block k w2.heap.size (by have := HAM.out; omega) (fun i _ => HAS.out i))]
              exact HA5.out k (by omega)
            have cs : (lnk L M pre ((⟨xb, (xk, xs, xd, xv), xh⟩ : Nd) :: post) W5 k).cell? ⟨lst L k pre, 5 + k, none⟩ = some (.pointer (nxt k ((⟨xb, (xk, xs, xd, xv), xh⟩ : Nd) :: post))) := by
              rw [lnk_off k _ (5 + k) (fun i hi => by omega)]
              exact hs1
            have cm : (lnk L M pre ((⟨xb, (xk, xs, xd, xv), xh⟩ : Nd) :: post) W5 k).cell? ⟨M, 5 + k, none⟩ = some (.pointer none) := by
              rw [lnk_off k _ (5 + k) (fun i hi => by omega)]
              exact HM5.out k (by omega)
            have fs : (lnk L M pre ((⟨xb, (xk, xs, xd, xv), xh⟩ : Nd) :: post) W5 k).frozen? ⟨lst L k pre, 5 + k, none⟩ = false := by rw [lnk_frozen]; exact hs3 _
            have fm : (lnk L M pre ((⟨xb, (xk, xs, xd, xv), xh⟩ : Nd) :: post) W5 k).frozen? ⟨M, 5 + k, none⟩ = false := by rw [lnk_frozen]; exact HMF.out _
            have hAM : ¬ M = w2.heap.size := by have := HAM.out; omega
            have hAM' : ¬ w2.heap.size = M := by have := HAM.out; omega
            have hSM : ¬ M = lst L k pre := by omega
            have hSM' : ¬ lst L k pre = M := by omega
            have d1 : (k : Int) < (H : Int) := by omega
            have d2 : (k : Int) < 12 := by omega
            have HE : Hid ((((lnk L M pre ((⟨xb, (xk, xs, xd, xv), xh⟩ : Nd) :: post) W5 k).setCell ⟨M, 5 + k, none⟩ (.pointer (nxt k ((⟨xb, (xk, xs, xd, xv), xh⟩ : Nd) :: post)))).setCell ⟨lst L k pre, 5 + k, none⟩ (.pointer (some ⟨M, 0, none⟩))) = lnk L M pre ((⟨xb, (xk, xs, xd, xv), xh⟩ : Nd) :: post) W5 (k + 1)) := rfl
            clear hs1 hs2 hs3
            generalize nxt k ((⟨xb, (xk, xs, xd, xv), xh⟩ : Nd) :: post) = nx at *
            generalize lst L k pre = lk at *
            generalize lnk L M pre ((⟨xb, (xk, xs, xd, xv), xh⟩ : Nd) :: post) W5 k = Wk at *
            go_wp2
            go_region
            all_goals (
              go_wp2
              go_roundw
              case rel => exact ⟨k + 1, m + 1, by omega, by go_num, by rw [← HE.out]; rfl⟩
              case measure => simp [intOf]; omega)
          · obtain rfl : k = H := by omega
            obtain ⟨hc5, hf5⟩ := HC5.out
            have cc : (lnk L M pre ((⟨xb, (xk, xs, xd, xv), xh⟩ : Nd) :: post) W5 k).cell? ⟨L, 18, none⟩ = some (.int .i64 (NL : Int)) := by
              rw [lnk_off k L 18 (fun i hi => by omega)]; exact hc5
            have fc : (lnk L M pre ((⟨xb, (xk, xs, xd, xv), xh⟩ : Nd) :: post) W5 k).frozen? ⟨L, 18, none⟩ = false := by rw [lnk_frozen]; exact hf5
            clear hc5 hf5 hM4
            generalize lnk L M pre ((⟨xb, (xk, xs, xd, xv), xh⟩ : Nd) :: post) W5 k = Wk at *
            go_wp2
            go_ret
            have hb9 : Below (Wk.setCell ⟨L, 18, none⟩ (.int .i64 ((NL : Int) + 1))).heap.size (Wk.setCell ⟨L, 18, none⟩ (.int .i64 ((NL : Int) + 1))) ((Wk.setCell ⟨L, 18, none⟩ (.int .i64 ((NL : Int) + 1))).drewN m) := below_drewN (Below.refl _ _) m
            exact ⟨true, rfl, _, _, HPUT.out.1.below hb9, HPUT.out.2.trans (Goes.below hb9), HPI.out⟩)
end Sk
end Go.Proofs.Ytcioaoanhmpdkaa
