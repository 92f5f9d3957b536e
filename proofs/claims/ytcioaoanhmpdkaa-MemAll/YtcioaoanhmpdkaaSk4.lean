import Derived.Test.YtcioaoanhmpdkaaSk3
import Derived.Stop.RegionWithIn
namespace Go.Proofs.Ytcioaoanhmpdkaa
namespace Sk
open Go.RowKit Go.Shelf Laws Irw Erw KMath Skm
set_option linter.unusedVariables false
set_option maxRecDepth 100000
attribute [local go_sem] Oper.semAt_some

/-- cells of one block, from the first on -/
def setN (W : World) (b : Nat) (p : Nat → Value) : Nat → World
  | 0 => W
  | n + 1 => (setN W b p n).setCell ⟨b, n, none⟩ (p n)
theorem setN_other (W : World) (b : Nat) (p : Nat → Value) (q : Nat) (hq : q ≠ b) : ∀ n, (setN W b p n).heap[q]? = W.heap[q]?
  | 0 => rfl
  | n + 1 => (Below.heap_setCell _ _ _ q hq).trans (setN_other W b p q hq n)
theorem setN_cell (W : World) (b : Nat) (p : Nat → Value) (N : Nat) (h : ∀ i, i < N → ∃ u, W.cell? ⟨b, i, none⟩ = some u) : ∀ n i, i < N → (setN W b p n).cell? ⟨b, i, none⟩ = if i < n then some (p i) else W.cell? ⟨b, i, none⟩
  | 0, i, _ => by simp [setN]
  | n + 1, i, hi => by
    have ih := setN_cell W b p N h n i hi
    show ((setN W b p n).setCell ⟨b, n, none⟩ (p n)).cell? ⟨b, i, none⟩ = _
    by_cases hin : i = n
    · subst hin
      rw [if_pos (by omega)]
      obtain ⟨u, hu⟩ := h i hi
      rw [if_neg (by omega)] at ih
      exact World.cell?_setCell_same _ _ _ (ih.trans hu)
    · rw [World.cell?_setCell_other (setN W b p n) ⟨b, n, none⟩ ⟨b, i, none⟩ (p n) (fun e => hin (by simpa using e.symm)), ih]
      by_cases h1 : i < n
      · rw [if_pos h1, if_pos (by omega)]
      · rw [if_neg h1, if_neg (by omega)]
theorem setN_below {w0 W : World} {B0 b : Nat} {p : Nat → Value} (hb : Below B0 w0 W) (h : B0 ≤ b) : ∀ n, Below B0 w0 (setN W b p n)
  | 0 => hb
  | n + 1 => (setN_below hb h n).setCell (p := ⟨b, n, none⟩) h _

theorem cell_of_obj {W : World} {b i : Nat} {cs : Array Value} {t : TypeId} (h : W.heap[b]? = some (.cells cs t)) : W.cell? ⟨b, i, none⟩ = cs[i]? := by simp [World.cell?, h]
theorem froz_of_obj {W : World} {b i : Nat} {cs : Array Value} {t : TypeId} (h : W.heap[b]? = some (.cells cs t)) : W.frozen? ⟨b, i, none⟩ = false := by simp [World.frozen?, h]
theorem fr_first {w : World} {L : Nat} {pre : List Nd} {k : ByteArray} {s : Int} {d : Bool} {v : ByteArray} (hh : ∀ n ∈ pre, n.h ≤ 12) : Fr w L pre (k, s, d, v) 12 [] (lst L 12 pre) ((((w.alloc (.cells #[.string k, .int .u64 s, .bool d, .string v] 77)).alloc (.cells #[.pointer none, .pointer none, .pointer none, .pointer none, .pointer none, .pointer none, .pointer none, .pointer none, .pointer none, .pointer none, .pointer none, .pointer none] 120)).alloc (.cells #[.pointer none, .pointer none, .pointer none, .pointer none, .pointer none, .pointer none, .pointer none, .pointer none, .pointer none, .pointer none, .pointer none, .pointer none] 120)).alloc (.cells #[.pointer (some ⟨L, 0, none⟩)] 119)) := by
  have hl : lst L 12 pre = L := by
    obtain ⟨y, hy, h⟩ := lst_at L 12 pre
    rcases h with ⟨h1, _⟩ | ⟨x, n, rfl, h1, h2⟩
    · exact h1
    · have := hh n (by simp)
      omega
  rw [hl]
  generalize ho1 : (Obj.cells #[.string k, .int .u64 s, .bool d, .string v] 77) = o1
  generalize ho2 : (Obj.cells #[.pointer none, .pointer none, .pointer none, .pointer none, .pointer none, .pointer none, .pointer none, .pointer none, .pointer none, .pointer none, .pointer none, .pointer none] 120) = o2
  generalize ho4 : (Obj.cells #[.pointer (some ⟨L, 0, none⟩)] 119) = o4
  have g1 : ((((w.alloc o1).alloc o2).alloc o2).alloc o4).heap[w.heap.size]? = some o1 := by
    rw [Below.heap_alloc _ _ _ (by simp; omega), Below.heap_alloc _ _ _ (by simp; omega), Below.heap_alloc _ _ _ (by simp)]
    exact World.alloc_heap_new w o1
  have g2 : ((((w.alloc o1).alloc o2).alloc o2).alloc o4).heap[w.heap.size + 1]? = some o2 := by
    rw [Below.heap_alloc _ _ _ (by simp), Below.heap_alloc _ _ _ (by simp)]
    have := World.alloc_heap_new (w.alloc o1) o2
    rwa [World.size_alloc] at this
  have g3 : ((((w.alloc o1).alloc o2).alloc o2).alloc o4).heap[w.heap.size + 2]? = some o2 := by
    rw [Below.heap_alloc _ _ _ (by simp)]
    have := World.alloc_heap_new ((w.alloc o1).alloc o2) o2
    rwa [World.size_alloc, World.size_alloc] at this
  have g4 : ((((w.alloc o1).alloc o2).alloc o2).alloc o4).heap[w.heap.size + 3]? = some o4 := by
    have := World.alloc_heap_new (((w.alloc o1).alloc o2).alloc o2) o4
    rwa [World.size_alloc, World.size_alloc, World.size_alloc] at this
  have hb : Below w.heap.size w ((((w.alloc o1).alloc o2).alloc o2).alloc o4) := ((((Below.refl _ _).alloc (Nat.le_refl _) _).alloc (by simp) _).alloc (by simp; omega) _).alloc (by simp; omega) _
  generalize (((w.alloc o1).alloc o2).alloc o2).alloc o4 = W at *
  subst ho1 ho2 ho4
  have h12 : ∀ i, i < 12 → (#[Value.pointer none, .pointer none, .pointer none, .pointer none, .pointer none, .pointer none, .pointer none, .pointer none, .pointer none, .pointer none, .pointer none, .pointer none] : Array Value)[i]? = some (.pointer none) := by
    intro i hi
    match i, hi with
    | 0, _ => rfl
    | 1, _ => rfl
    | 2, _ => rfl
    | 3, _ => rfl
    | 4, _ => rfl
    | 5, _ => rfl
    | 6, _ => rfl
    | 7, _ => rfl
    | 8, _ => rfl
    | 9, _ => rfl
    | 10, _ => rfl
    | 11, _ => rfl
    | i + 12, hi => omega
  refine ⟨hb, ⟨by rw [cell_of_obj g1]; rfl, by rw [cell_of_obj g1]; rfl, by rw [cell_of_obj g1]; rfl, by rw [cell_of_obj g1]; rfl⟩, fun i hi => ⟨by rw [cell_of_obj g2]; exact h12 i hi, froz_of_obj g2⟩, fun i hi => ⟨by rw [cell_of_obj g3, if_neg (by omega)]; exact h12 i hi, froz_of_obj g3⟩, ⟨by rw [cell_of_obj g4]; rfl, froz_of_obj g4⟩, by simp⟩

set_option maxHeartbeats 1000000 in
theorem ahead_in (L : Nat) (k : ByteArray) (s : Int) (d : Bool) (v : ByteArray) (w : World) (ns pre post : List Nd) (hns : ns = pre ++ post) (hpre : ∀ n ∈ pre, aheadB k s n = true) (hpost : ∀ n ∈ post, aheadB k s n = false) (hh : ∀ n ∈ ns, n.h ≤ 12)
    (hL : L < w.heap.size) (hT : Tow w L 12 ns) (hC : Chain w ns) :
    CallsIn Fence.wide 6 Try.prog 89 #[.pointer (some ⟨L, 0, none⟩), .agg #[.string k, .int .u64 s, .bool d, .string v]] w fun e w' => e = .returned (lastV L pre) ∧ Below w.heap.size w w' := by
  refine callsIn_of_wp_marks Try.func89 rfl trivial ?_ rfl
  simp only [Try.ntmps89, List.size_toArray, List.length_cons, List.length_nil, Nat.reduceAdd, Nat.reduceSub, Array.replicate_succ, Array.replicate_zero, List.push_toArray, List.append_toArray, List.nil_append, List.cons_append]
  have HF0 : Hid _ := fr_first (w := w) (L := L) (pre := pre) (k := k) (s := s) (d := d) (v := v) (fun n hn => hh n (by rw [hns]; simp [hn]))
  have hfB : Fence.wide.fn 90 := trivial
  have hfC : Fence.wide.fn 98 := trivial
  gi_wp2
  obtain ⟨B, hB⟩ : ∃ B, w.heap.size = B := ⟨_, rfl⟩
  rw [hB]
  refine wpIn_loop_ghost_k (fun n a W => n ≤ 12 ∧ ∃ (Ds : List Nat) (u8 u12 u13 u14 u15 u16 u17 u18 u19 u20 u21 u22 u23 u24 u25 u26 u27 u28 u29 u30 : Value), Ds.Nodup ∧ Fr w L pre (k, s, d, v) n Ds (lst L n pre) W ∧ a = { tmps := #[.pointer (some ⟨L, 0, none⟩), .agg #[.string k, .int .u64 s, .bool d, .string v], undef, .pointer (some ⟨B, 0, none⟩), .pointer (some ⟨B + 1, 0, none⟩), .pointer (some ⟨B + 1 + 1, 0, none⟩), .pointer (some ⟨B + 1 + 1 + 1, 0, none⟩), .int .i64 ((n : Int) - 1), u8, .pointer (some ⟨L, 0, none⟩), .pointer (some ⟨L, 0, none⟩), .pointer (some ⟨L, 0, none⟩), u12, u13, u14, u15, u16, u17, u18, u19, u20, u21, u22, u23, u24, u25, u26, u27, u28, u29, u30, undef], defers := Ds.map mark }) 12 ?_ ?_
  · exact ⟨Nat.le_refl _, [], undef, undef, undef, undef, undef, undef, undef, undef, undef, undef, undef, undef, undef, undef, undef, undef, undef, undef, undef, undef, List.nodup_nil, HF0.out, rfl⟩
  · clear HF0
    rintro n a W ⟨hn, Ds, u8, u12, u13, u14, u15, u16, u17, u18, u19, u20, u21, u22, u23, u24, u25, u26, u27, u28, u29, u30, hnd, hfr, rfl⟩ J K hJ hK
    cases n with
    | zero =>
      have ha : ∀ i, i < 12 → W.cell? ⟨B + 1 + 1, i, none⟩ = some (.pointer (some ⟨lst L i pre, 0, none⟩)) := fun i hi => by
        have := (hfr.arr i hi).1
        rw [if_pos (Nat.zero_le _), hB] at this
        exact this
      have hr : ∀ i, i < 12 → W.cell? ⟨B + 1, i, none⟩ = some (.pointer none) := fun i hi => by
        have := (hfr.res i hi).1
        rw [hB] at this
        exact this
      have hf : ∀ i, i < 12 → W.frozen? ⟨B + 1, i, none⟩ = false := fun i hi => by
        have := (hfr.res i hi).2
        rw [hB] at this
        exact this
      have a0 := ha 0 (by omega)
      have r0 := hr 0 (by omega)
      have f0 := hf 0 (by omega)
      have a1 := ha 1 (by omega)
      have r1 := hr 1 (by omega)
      have f1 := hf 1 (by omega)
      have a2 := ha 2 (by omega)
      have r2 := hr 2 (by omega)
      have f2 := hf 2 (by omega)
      have a3 := ha 3 (by omega)
      have r3 := hr 3 (by omega)
      have f3 := hf 3 (by omega)
      have a4 := ha 4 (by omega)
      have r4 := hr 4 (by omega)
      have f4 := hf 4 (by omega)
      have a5 := ha 5 (by omega)
      have r5 := hr 5 (by omega)
      have f5 := hf 5 (by omega)
      have a6 := ha 6 (by omega)
      have r6 := hr 6 (by omega)
      have f6 := hf 6 (by omega)
      have a7 := ha 7 (by omega)
      have r7 := hr 7 (by omega)
      have f7 := hf 7 (by omega)
      have a8 := ha 8 (by omega)
      have r8 := hr 8 (by omega)
      have f8 := hf 8 (by omega)
      have a9 := ha 9 (by omega)
      have r9 := hr 9 (by omega)
      have f9 := hf 9 (by omega)
      have a10 := ha 10 (by omega)
      have r10 := hr 10 (by omega)
      have f10 := hf 10 (by omega)
      have a11 := ha 11 (by omega)
      have r11 := hr 11 (by omega)
      have f11 := hf 11 (by omega)
      have HFR : Hid (Fr w L pre (k, s, d, v) 0 Ds (lst L 0 pre) W) := hfr
      clear hfr ha hr hf
      have e1 : ((0 : Nat) : Int) - 1 = -1 := by omega
      rw [e1]
      gi_wp2
      show bodyPostM Fence.wide 6 Try.prog Try.f89 (fun e w' => e = Ending.returned (lastV L pre) ∧ Below w.heap.size w w') Exit.ret _ (setN W (B + 1) (fun i => .pointer (some ⟨lst L i pre, 0, none⟩)) 12)
      have hcell : ∀ i, i < 12 → (setN W (B + 1) (fun i => .pointer (some ⟨lst L i pre, 0, none⟩)) 12).cell? ⟨B + 1, i, none⟩ = some (.pointer (some ⟨lst L i pre, 0, none⟩)) := fun i hi => by
        have hh0 : ∀ i, i < 12 → ∃ u, W.cell? ⟨B + 1, i, none⟩ = some u := fun i hi => ⟨_, by have := (HFR.out.res i hi).1; rw [hB] at this; exact this⟩
        have := setN_cell W (B + 1) (fun i => .pointer (some ⟨lst L i pre, 0, none⟩)) 12 hh0 12 i hi
        rw [if_pos hi] at this
        exact this
      have hbel : Below w.heap.size w (setN W (B + 1) (fun i => .pointer (some ⟨lst L i pre, 0, none⟩)) 12) := setN_below HFR.out.below (by omega) 12
      have hmk : ∀ D ∈ Ds, w.heap.size ≤ D ∧ (setN W (B + 1) (fun i => .pointer (some ⟨lst L i pre, 0, none⟩)) 12).heap[D]? = some (.deferred (some [])) := fun D hD => by
        obtain ⟨h1, h2⟩ := HFR.out.marks D hD
        exact ⟨by omega, (setN_other W _ _ D (by omega) 12).trans h2⟩
      generalize setN W (B + 1) (fun i => .pointer (some ⟨lst L i pre, 0, none⟩)) 12 = W9 at *
      refine leaves_marks (B0 := w.heap.size) Ds W9 hmk hnd (fun w' hb hk => ?_)
      have hb1 : w'.heap[B + 1]? = W9.heap[B + 1]? := hk _ (not_mark hmk (hcell 0 (by omega)))
      have hc : ∀ i, i < 12 → w'.cell? ⟨B + 1, i, none⟩ = some (.pointer (some ⟨lst L i pre, 0, none⟩)) := fun i hi => (World.cell?_of_block (a := ⟨B + 1, i, none⟩) hb1).trans (hcell i hi)
      have c0 := hc 0 (by omega)
      have c1 := hc 1 (by omega)
      have c2 := hc 2 (by omega)
      have c3 := hc 3 (by omega)
      have c4 := hc 4 (by omega)
      have c5 := hc 5 (by omega)
      have c6 := hc 6 (by omega)
      have c7 := hc 7 (by omega)
      have c8 := hc 8 (by omega)
      have c9 := hc 9 (by omega)
      have c10 := hc 10 (by omega)
      have c11 := hc 11 (by omega)
      refine ⟨lastV L pre, ?_, rfl, hbel.trans hb⟩
      clear hc hcell hk hmk HFR hJ hK
      simp [results, Try.results89, go_sem, lastV, lp, c0, c1, c2, c3, c4, c5, c6, c7, c8, c9, c10, c11]
    | succ m =>
      have hpos := hfr.pos.1
      rw [hB] at hpos
      have e1 : ((m + 1 : Nat) : Int) - 1 = (m : Int) := by omega
      rw [e1]
      have HFR : Hid (Fr w L pre (k, s, d, v) (m + 1) Ds (lst L (m + 1) pre) W) := hfr
      have HK : Hid (∀ a' w', Handed J (m + 1) a' w' → K a' w') := hK
      clear hfr e1 hK
      gi_wp2_with (gi_at_call 90; refine (behind_in _ _ _ _).mono ?_; rintro e w' ⟨rfl, rfl⟩)
      obtain ⟨y, hy, hloc⟩ := lst_at L (m + 1) pre
      have HDN : Hid (lst (lst L (m + 1) pre) m y = lst L m pre) := lst_down hloc
      have HST : Hid (∃ sh, m < sh ∧ Tow w (lst L (m + 1) pre) sh (y ++ post) ∧ lst L (m + 1) pre < w.heap.size ∧ ∃ z, ns = z ++ (y ++ post)) := by
        rcases hloc with ⟨h1, h2⟩ | ⟨x, nd, h1, h2, h3⟩
        · refine ⟨12, by omega, ?_, by rw [h1]; exact hL, [], by rw [h2, hns]; rfl⟩
          rw [h1, h2, ← hns]; exact hT
        · have hx : ns = x ++ nd :: (y ++ post) := by rw [hns, h1]; simp
          refine ⟨nd.h, by omega, by rw [h2]; exact (hC _ _ _ hx).tow, by rw [h2]; exact hC.lt (by rw [hx]; simp), x ++ [nd], by rw [hx]; simp⟩
      have HYP : Hid (∀ nd ∈ y, nd ∈ pre) := by
        rcases hloc with ⟨_, h2⟩ | ⟨x, nd, h1, _, _⟩
        · rw [h2]; exact fun _ h => h
        · rw [h1]; exact fun q hq => by simp [hq]
      clear hloc
      generalize lst L (m + 1) pre = st at *
      have hb1 : Below W.heap.size W ((W.alloc (.cells #[.pointer (some ⟨st, 0, none⟩)] 119)).alloc (.cells #[.int .i64 (m : Int)] 3)) := ((Below.refl _ _).alloc (Nat.le_refl _) _).alloc (by simp) _
      have bx : ((W.alloc (.cells #[.pointer (some ⟨st, 0, none⟩)] 119)).alloc (.cells #[.int .i64 (m : Int)] 3)).cell? ⟨W.heap.size, 0, none⟩ = some (.pointer (some ⟨st, 0, none⟩)) := by
        rw [World.cell?_of_block (Below.heap_alloc _ _ _ (by simp)), World.cell?_alloc_at _ _ _ _ rfl]; rfl
      have bi : ((W.alloc (.cells #[.pointer (some ⟨st, 0, none⟩)] 119)).alloc (.cells #[.int .i64 (m : Int)] 3)).cell? ⟨W.heap.size + 1, 0, none⟩ = some (.int .i64 (m : Int)) := by
        rw [World.cell?_alloc_at _ _ _ _ (by simp)]; rfl
      have hsz : ((W.alloc (.cells #[.pointer (some ⟨st, 0, none⟩)] 119)).alloc (.cells #[.int .i64 (m : Int)] 3)).heap.size = W.heap.size + 2 := by simp
      generalize (W.alloc (.cells #[.pointer (some ⟨st, 0, none⟩)] 119)).alloc (.cells #[.int .i64 (m : Int)] 3) = W1 at *
      obtain ⟨sh, hsh, hTs, hst, hsub⟩ := HST.out
      have hF1 : Fr w L pre (k, s, d, v) (m + 1) Ds st W1 := HFR.out.under hb1
      have hwl := HFR.out.lt
      have hDl : ∀ D ∈ Ds, D < W1.heap.size := fun D hD => by have := HFR.out.mlt hD; omega
      have hC1 : Chain W1 ns := hC.keep fun nd hnd => hF1.below.block _ (hC.lt hnd)
      have hnl : ∀ nd ∈ ns, nd.b < w.heap.size := fun nd hnd => hC.lt hnd
      refine wpIn_rangeFunc_ownF rfl (by decide) (gf := 100) (lb := #[.pointer (some ⟨W.heap.size, 0, none⟩), .pointer (some ⟨W.heap.size + 1, 0, none⟩)]) rfl trivial (enters_of Try.func100 (by kernel_rfl) rfl)
        (behind_stops (6 - 1) (by decide) W.heap.size (W.heap.size + 1) m (by omega) st sh hsh (y ++ post) ns hsub W1 bx bi (hTs.keep (hF1.below.block _ hst)) (by have := hF1.below.size; omega) hC1) Kp.trans ?kb (Below.refl _ _) (fun _ => rfl)
        (fun come W' => Fr w L pre (k, s, d, v) (m + 1) Ds (lastB st (come.map Subtype.val)) W' ∧ W1.heap.size ≤ W'.heap.size ∧ ∀ x ∈ come, aheadB k s x.1 = true)
        (fun c come W' => c = .exit 2 ∧ ∃ (c' : List (Of ns)) (x : Of ns), come = c' ++ [x] ∧ Fr w L pre (k, s, d, v) (m + 1) Ds (lastB st (c'.map Subtype.val)) W' ∧ (∀ x ∈ c', aheadB k s x.1 = true) ∧ aheadB k s x.1 = false)
        ?own1 ?own2 ⟨hF1, Nat.le_refl _, by simp⟩
        (fun x => { tmps := #[.pointer (some ⟨L, 0, none⟩), .agg #[.string k, .int .u64 s, .bool d, .string v], undef, .pointer (some ⟨B, 0, none⟩), .pointer (some ⟨B + 1, 0, none⟩), .pointer (some ⟨B + 1 + 1, 0, none⟩), .pointer (some ⟨B + 1 + 1 + 1, 0, none⟩), .int .i64 (m : Int), .pointer (some ⟨x.1.b, 0, none⟩), .pointer (some ⟨L, 0, none⟩), .pointer (some ⟨L, 0, none⟩), .pointer (some ⟨L, 0, none⟩), .int .i64 (m : Int), .bool true, u14, u15, .pointer (some ⟨st, 0, none⟩), .int .i64 (m : Int), .func (.func 100) #[] #[.pointer (some ⟨W.heap.size, 0, none⟩), .pointer (some ⟨W.heap.size + 1, 0, none⟩)], .pointer (some ⟨x.1.b, 0, none⟩), u20, u21, u22, u23, u24, u25, u26, u27, u28, u29, u30, undef], defers := [] }) ?assign ?body ?done ?stop
      case kb =>
        intro W' l o o' hl h _ _
        exact ⟨fun nd hnd => World.putObj_heap_other (by have := hnl nd hnd; have := hF1.below.size; omega), World.putObj_heap_other (by omega), World.putObj_heap_other (by omega)⟩
      case own1 =>
        intro come A B' row hs hg hr
        exact ⟨hs.1.own hg (fun r e => (hr r e).1) (by omega) hDl, Nat.le_trans hs.2.1 hg.size, hs.2.2⟩
      case own2 =>
        rintro c come A B' row ⟨h1, c', x, h2, h3, h4⟩ hg hr
        exact ⟨h1, c', x, h2, h3.own hg (fun r e => (hr r e).1) (by omega) hDl, h4⟩
      case assign =>
        intro l1 x W' K' hK'
        simp only [encN]
        gi_wp2
        exact hK'
      case body =>
        rintro l1 come x W' ⟨hf', hs1, hall⟩ _
        obtain ⟨rx, hnx⟩ := hC.node x.2
        obtain ⟨c0, c1, c2, c3⟩ := (hnx.keep (hf'.below.block _ (hC.lt x.2))).ent
        obtain ⟨p0, p1, p2, p3⟩ := hf'.box
        have hp := hf'.pos
        rw [hB] at p0 p1 p2 p3 hp
        obtain ⟨hp1, hp2⟩ := hp
        have HFR2 : Hid (Fr w L pre (k, s, d, v) (m + 1) Ds (lastB st (come.map Subtype.val)) W') := hf'
        have HALL : Hid (∀ x ∈ come, aheadB k s x.1 = true) := hall
        clear hf' hall hnx
        obtain ⟨⟨xb, ⟨xk, xs, xd, xv⟩, xh⟩, hxm⟩ := x
        dsimp only at *
        have HXM : Hid ((⟨xb, (xk, xs, xd, xv), xh⟩ : Nd) ∈ ns) := hxm
        have h1n : 1 ≤ 6 - 1 - 1 := by decide
        have HKO : Hid (∀ W2, Below W'.heap.size W' W2 → KeepsOthers W' W2) := fun W2 hb => KeepsOthers.of_grownBy (row := none) ⟨hb.os, hb.tape, hb.output, hb.size, fun q hq _ => hb.block q hq⟩ (fun j o e => by cases e)
        have HKP : Hid (∀ W2, Below W'.heap.size W' W2 → Kp ns W.heap.size (W.heap.size + 1) W' W2) := fun W2 hb => by
          have hw := HFR2.out.below.size
          exact ⟨fun nd hnd => hb.block _ (by have := hnl nd hnd; omega), hb.block _ (by omega), hb.block _ (by omega)⟩
        have HP9 : Hid (∀ W2, Below W'.heap.size W' W2 → W2.cell? ⟨B + 1 + 1 + 1, 0, none⟩ = some (.pointer (some ⟨lastB st (come.map Subtype.val), 0, none⟩)) ∧ W2.frozen? ⟨B + 1 + 1 + 1, 0, none⟩ = false) := fun W2 hb => by
          have := (HFR2.out.under hb).pos
          rw [hB] at this
          exact this
        generalize hcm : cmpE xk k xs s = cm at *
        by_cases hc : cm < 0
        · have hge : ¬ (0 ≤ cm) := by omega
          have HAH : Hid (aheadB k s ⟨xb, (xk, xs, xd, xv), xh⟩ = true) := by
            show decide (cmpE xk k xs s < 0) = true
            rw [hcm]; simpa using hc
          gi_wp2
          gi_region_with (gi_at_call 98; refine (CallsIn.inRound l1 (callsIn_wide.2 (Ent.compare_any xk xs xd xv k s d v _))).mono ?_; rw [hcm]; rintro e W2 ⟨rfl, hb2⟩)
          all_goals (
            have hb3 : Below W'.heap.size W' W2 := ⟨hb2.os, hb2.tape, hb2.output, hb2.size, hb2.block⟩
            obtain ⟨hq1, hq2⟩ := HP9.out W2 hb3
            clear hb2 hp1 hp2
            gi_wp2
            have hFn := (HFR2.out.under hb3).setAt xb
            rw [hB] at hFn
            refine ⟨(HKO.out W2 hb3).trans (KeepsOthers.setCell _ _ _), (HKP.out W2 hb3).trans ⟨fun nd hnd => ?_, ?_, ?_⟩, ?_, ?_, ?_⟩
            · exact Below.heap_setCell W2 _ _ _ (by have := hnl nd hnd; simp; omega)
            · exact Below.heap_setCell W2 _ _ _ (by simp; omega)
            · exact Below.heap_setCell W2 _ _ _ (by simp; omega)
            · rw [List.map_append]
              show Fr w L pre (k, s, d, v) (m + 1) Ds (lastB st (come.map Subtype.val ++ [⟨xb, (xk, xs, xd, xv), xh⟩])) _
              have : lastB st (come.map Subtype.val ++ [⟨xb, (xk, xs, xd, xv), xh⟩]) = xb := by simp [lastB]
              rw [this]
              exact hFn
            · have := hb3.size
              simp; omega
            · intro z hz
              rcases List.mem_append.1 hz with hz | hz
              · exact HALL.out z hz
              · rw [List.mem_singleton.1 hz]; exact HAH.out)
        · have hge : (0 ≤ cm) := by omega
          have HAH : Hid (aheadB k s ⟨xb, (xk, xs, xd, xv), xh⟩ = false) := by
            show decide (cmpE xk k xs s < 0) = false
            rw [hcm]; simpa using hge
          gi_wp2
          gi_region_with (gi_at_call 98; refine (CallsIn.inRound l1 (callsIn_wide.2 (Ent.compare_any xk xs xd xv k s d v _))).mono ?_; rw [hcm]; rintro e W2 ⟨rfl, hb2⟩)
          all_goals (
            have hb3 : Below W'.heap.size W' W2 := ⟨hb2.os, hb2.tape, hb2.output, hb2.size, hb2.block⟩
            clear hb2 hp1 hp2
            gi_wp2
            exact ⟨HKO.out W2 hb3, rfl, come, _, rfl, HFR2.out.under hb3, HALL.out, HAH.out⟩)
      case done =>
        rintro D come W' hD hcome ⟨hf', hs1, hall⟩ hDd
        have hf9 : Fr w L pre (k, s, d, v) (m + 1) Ds (lst L m pre) W' := by
          rw [lev_append] at hcome
          have h1 : lev m y ++ lev m post = lev m y := all_eq (P := aheadB k s) (fun nd hn => hpost nd (lev_mem hn)) (fun nd hn => by
            rw [← hcome] at hn
            obtain ⟨x, hx, rfl⟩ := List.mem_map.1 hn
            exact hall x hx)
          rw [h1] at hcome
          rw [hcome] at hf'
          have h2 : lastB st (lev m y) = lst L m pre := by rw [← HDN.out, lst_lev]; rfl
          rw [h2] at hf'
          exact hf'
        have hq := hf9.pos
        rw [hB] at hq
        obtain ⟨hq1, hq2⟩ := hq
        obtain ⟨ha1, ha2⟩ := hf9.arr m (by omega)
        rw [hB] at ha1 ha2
        have hm12 : (m : Int) < 12 := by omega
        have HF9 : Hid (Fr w L pre (k, s, d, v) m (D :: Ds) (lst L m pre) (W'.setCell ⟨B + 1 + 1, m, none⟩ (.pointer (some ⟨lst L m pre, 0, none⟩)))) := by
          have := (hf9.setArr (by omega)).more (D := D) (by omega) ((Below.heap_setCell W' _ _ D (by simp; omega)).trans hDd)
          rw [hB] at this
          exact this
        have HND : Hid ((D :: Ds).Nodup) := List.nodup_cons.2 ⟨fun hm => by have := hDl D hm; omega, hnd⟩
        clear hf9 hf'
        dsimp only
        gi_wp2
        refine HK.out _ _ ⟨m, Nat.lt_succ_self m, hJ m _ _ ⟨by omega, D :: Ds, _, _, _, _, _, _, _, _, _, _, _, _, _, _, _, _, _, _, _, _, HND.out, HF9.out, rfl⟩⟩
      case stop =>
        rintro D c come W' hD hcome ⟨rfl, c', x, rfl, hf', hall, hx⟩ hDd
        have hf9 : Fr w L pre (k, s, d, v) (m + 1) Ds (lst L m pre) W' := by
          rw [lev_append, List.map_append] at hcome
          have h1 : c'.map Subtype.val = lev m y := part_eq (P := aheadB k s) (x := x.1) (fun nd hn => hpre nd (HYP.out nd (lev_mem hn))) (fun nd hn => hpost nd (lev_mem hn)) (fun nd hn => by
            obtain ⟨x, hx, rfl⟩ := List.mem_map.1 hn
            exact hall x hx) hx hcome
          rw [h1] at hf'
          have h2 : lastB st (lev m y) = lst L m pre := by rw [← HDN.out, lst_lev]; rfl
          rw [h2] at hf'
          exact hf'
        have hq := hf9.pos
        rw [hB] at hq
        obtain ⟨hq1, hq2⟩ := hq
        obtain ⟨ha1, ha2⟩ := hf9.arr m (by omega)
        rw [hB] at ha1 ha2
        have hm12 : (m : Int) < 12 := by omega
        have HF9 : Hid (Fr w L pre (k, s, d, v) m (D :: Ds) (lst L m pre) (W'.setCell ⟨B + 1 + 1, m, none⟩ (.pointer (some ⟨lst L m pre, 0, none⟩)))) := by
          have := (hf9.setArr (by omega)).more (D := D) (by omega) ((Below.heap_setCell W' _ _ D (by simp; omega)).trans hDd)
          rw [hB] at this
          exact this
        have HND : Hid ((D :: Ds).Nodup) := List.nodup_cons.2 ⟨fun hm => by have := hDl D hm; omega, hnd⟩
        clear hf9 hf'
        dsimp only
        gi_wp2
        refine HK.out _ _ ⟨m, Nat.lt_succ_self m, hJ m _ _ ⟨by omega, D :: Ds, _, _, _, _, _, _, _, _, _, _, _, _, _, _, _, _, _, _, _, _, HND.out, HF9.out, rfl⟩⟩
end Sk
end Go.Proofs.Ytcioaoanhmpdkaa
