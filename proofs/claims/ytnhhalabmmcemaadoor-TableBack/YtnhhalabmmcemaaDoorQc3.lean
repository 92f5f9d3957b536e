import Derived.Test.YtnhhalabmmcemaaDoorQb7
import Derived.Test.YtnhhalabmmcemaaDoorQb9
import Derived.Test.YtnhhalabmmcemaaDoorQcM
namespace Go.Proofs.YtnhhalabmmcemaaDoor
namespace Qb
open Go.RowKit Go.Shelf CMath Byt Laws Irw Crw Cod Qe
set_option linter.unusedVariables false
set_option linter.unusedSimpArgs false
set_option maxRecDepth 100000

/-- Where the entries end, if the bytes may be a block's. -/
def spl (l : List Nat) : Option Nat := if l.length < 8 then none else if l.length - 8 < 4 * val ((l.drop (l.length - 8)).take 4) then none else some (l.length - 8 - 4 * val ((l.drop (l.length - 8)).take 4))
theorem opn_spl (l : List Nat) : opn l = match spl l with | none => none | some p => opn.opn2 l p := by
  unfold opn spl
  split
  · rfl
  split
  · rfl
  · rfl
theorem spl_le {l : List Nat} {p : Nat} (h : spl l = some p) : p + 8 ≤ l.length := by
  unfold spl at h
  split at h
  · cases h
  split at h
  · cases h
  · cases h; omega
/-- A block as it lies, with no tags. -/
abbrev BlkZ (w : World) (K o : Nat) (eb pb : List Nat) : Prop := BlkAt (fun _ => False) (fun _ => 0) w K o eb pb
theorem BlkAt.up {u : Nat → Prop} {T : Nat → Nat} {w : World} {K o : Nat} {eb pb : List Nat} (h : BlkZ w K o eb pb) (hu : ∀ b, b < w.heap.size → ¬ u (T b)) : BlkAt u T w K o eb pb := by
  obtain ⟨a, c, h1, h2, h3, h4, _⟩ := h.ent
  obtain ⟨a', c', k1, k2, k3, k4, _⟩ := h.pla
  refine ⟨h.lt, hu _ h.lt, ⟨a, c, h1, h2, h3, h4, fun b off e hne => ?_⟩, ⟨a', c', k1, k2, k3, k4, fun b off e hne => ?_⟩⟩
  · obtain ⟨b', off', e', hr⟩ := h2.1 hne
    rw [e] at e'; cases e'
    exact hu _ hr.1
  · obtain ⟨b', off', e', hr⟩ := k2.1 hne
    rw [e] at e'; cases e'
    exact hu _ hr.1
def SpIs (l : List Nat) (w : World) (e : Ending) (w' : World) : Prop := Below w.heap.size w w' ∧ match spl l with
  | none => e = .returned (.tuple #[.pointer none, .bool false])
  | some p => e = .returned (.tuple #[.pointer (some ⟨w.heap.size, 0, none⟩), .bool true]) ∧ BlkZ w' w.heap.size 0 (l.take p) ((l.drop p).take (l.length - 8 - p))
theorem SpIs.no {l : List Nat} {w w' : World} (h : spl l = none) (hb : Below w.heap.size w w') : SpIs l w (.returned (.tuple #[.pointer none, .bool false])) w' := ⟨hb, by rw [h]⟩
theorem SpIs.yes {l : List Nat} {w w' : World} {p : Nat} (h : spl l = some p) (hb : Below w.heap.size w w') (hk : BlkZ w' w.heap.size 0 (l.take p) ((l.drop p).take (l.length - 8 - p))) : SpIs l w (.returned (.tuple #[.pointer (some ⟨w.heap.size, 0, none⟩), .bool true])) w' := ⟨hb, by rw [h]; exact ⟨rfl, hk⟩⟩

set_option maxHeartbeats 2000000 in
theorem split_any (a : Option Addr) (cap N : Nat) (l : List Nat) (w : World) (ha : IsB w a l) (hN : N = l.length) (hcap : N ≤ cap) (hc12 : cap ≤ 9223372036854775807 ∧ N ≤ 1000000000000) :
    Calls Tryd.prog 86 #[.slice a N cap] w fun e w' => SpIs l w e w' := by
  by_cases h8 : N < 8
  · have hs : Hid (spl l = none) := by show _ = _; unfold spl; rw [if_pos (by omega)]
    have q : (N : Int) - 8 < 0 := by omega
    clear ha hN
    go_enter Tryd.func86, Tryd.ntmps86
    go_wp2
    go_ret2
    exact SpIs.no hs.out (Below.refl _ _)
  · obtain ⟨b, off, rfl, hr⟩ := ha.1 (by rintro rfl; simp at hN; omega)
    obtain ⟨t, rfl⟩ : ∃ t, N = t + 8 := ⟨N - 8, by omega⟩
    have HN : Hid (t + 8 = l.length) := hN
    have HI : Hid (IsB w (some ⟨b, off + t, none⟩) ((l.drop t).take 4) ∧ ((l.drop t).take 4).length = 4) := ⟨IsB.some ((hr.drop t).take 4) (fun x hx => ha.2 x (List.mem_of_mem_drop (List.mem_of_mem_take hx))), by rw [List.length_take, List.length_drop]; omega⟩
    have hv := val_lt _ (fun x hx => ha.2 x (List.mem_of_mem_drop (List.mem_of_mem_take hx)) : ∀ x ∈ (l.drop t).take 4, x < 256)
    rw [HI.out.2] at hv
    have HR : Hid (BRow w b off l ∧ ∀ x ∈ l, x < 256) := ⟨hr, ha.2⟩
    have HS : Hid (spl l = if t < 4 * val ((l.drop t).take 4) then none else some (t - 4 * val ((l.drop t).take 4))) := by
      show _ = _
      unfold spl
      rw [if_neg (by omega), show l.length - 8 = t by omega]
    have HV : Hid (∀ V, V = val ((l.drop t).take 4) → Calls Tryd.prog 90 #[.slice (some ⟨b, off + t, none⟩) 4 4] w fun e w' => e = .returned (.int .u32 (V : Int)) ∧ w' = w) := fun V hV => by rw [hV]; exact word_any (some ⟨b, off + t, none⟩) 4 4 _ w HI.out.1 HI.out.2 rfl
    clear ha hr hN
    obtain ⟨V, hV⟩ : ∃ V, V = val ((l.drop t).take 4) := ⟨_, rfl⟩
    have HW := HV.out V hV
    have HWH : Hid (Calls Tryd.prog 90 #[.slice (some ⟨b, off + t, none⟩) 4 4] w fun e w' => e = .returned (.int .u32 (V : Int)) ∧ w' = w) := HW
    clear HV HW
    rw [← hV] at hv HS
    clear hV
    have hv2 : V < 4294967296 := hv
    clear hv
    by_cases hbig : t < 4 * V
    · rw [if_pos hbig] at HS
      have q : (t : Int) < 4 * (V : Int) := by omega
      go_enter Tryd.func86, Tryd.ntmps86
      go_wp2_with (go_at_call 90; go_loud (refine HWH.out.mono ?_; rintro e w1 ⟨rfl, hw⟩; have hw2 := hw.symm; clear hw; subst hw2))
      go_ret2
      exact SpIs.no HS.out (Below.refl _ _)
    · rw [if_neg hbig] at HS
      obtain ⟨p, rfl⟩ : ∃ p, t = p + 4 * V := ⟨t - 4 * V, by omega⟩
      rw [show p + 4 * V - 4 * V = p by omega] at HS
      have hLn : l.length - 8 - p = 4 * V := by have := HN.out; omega
      have HLT : Hid ((l.take p).length = p ∧ ((l.drop p).take (4 * V)).length = 4 * V) := ⟨by rw [List.length_take]; have := HN.out; omega, by rw [List.length_take, List.length_drop]; have := HN.out; omega⟩
      have HB1 : Hid (IsB w (some ⟨b, off, none⟩) (l.take p)) := IsB.some (HR.out.1.take p) (fun x hx => HR.out.2 x (List.mem_of_mem_take hx))
      have hbl : b < w.heap.size := HR.out.1.1
      have fin : ∀ (W : World) (A : Option Addr), Below w.heap.size w W → W.cell? ⟨w.heap.size, 0, none⟩ = some (.slice (some ⟨b, off, none⟩) p p) → W.cell? ⟨w.heap.size, 1, none⟩ = some (.slice A (4 * V) (4 * V)) → IsB w A ((l.drop p).take (4 * V)) → SpIs l w (.returned (.tuple #[.pointer (some ⟨w.heap.size, 0, none⟩), .bool true])) W := fun W A hb hc0 hc1 hA => by
        refine SpIs.yes HS.out hb ?_
        rw [hLn]
        refine ⟨World.block_lt_of_cell? W _ hc0, fun z => z, ⟨_, p, by rw [HLT.out.1]; exact hc0, HB1.out.below hb, by rw [HLT.out.1]; omega, ⟨by omega, by rw [HLT.out.1]; omega⟩, fun _ _ _ _ z => z⟩, ⟨A, 4 * V, by rw [HLT.out.2]; exact hc1, hA.below hb, by rw [HLT.out.2]; omega, ⟨by omega, by rw [HLT.out.2]; omega⟩, fun _ _ _ _ z => z⟩⟩
      have FIN : Hid _ := fin
      clear fin
      by_cases hV0 : V = 0
      · subst hV0
        have HA : Hid (IsB w (some ⟨b, off, none⟩) ((l.drop p).take (4 * 0))) := by
          show IsB _ _ _
          refine ⟨fun h => absurd (by simp) h, by simp⟩
        go_enter Tryd.func86, Tryd.ntmps86
        go_wp2_with (go_at_call 90; go_loud (refine HWH.out.mono ?_; rintro e w1 ⟨rfl, hw⟩; have hw2 := hw.symm; clear hw; subst hw2))
        go_region
        all_goals
          go_wp2
          go_ret2
          refine FIN.out _ _ (((Below.refl _ _).drew).alloc (by simp) _) ?_ ?_ HA.out
          · simp
          · simp
      · have q : (4 * (V : Int)) ≤ (p : Int) + 4 * (V : Int) := by omega
        have q0 : ¬ (4 * V = 0) := by omega
        have HA : Hid (IsB w (some ⟨b, off + p, none⟩) ((l.drop p).take (4 * V))) := IsB.some ((HR.out.1.drop p).take _) (fun x hx => HR.out.2 x (List.mem_of_mem_drop (List.mem_of_mem_take hx)))
        go_enter Tryd.func86, Tryd.ntmps86
        go_wp2_with (go_at_call 90; go_loud (refine HWH.out.mono ?_; rintro e w1 ⟨rfl, hw⟩; have hw2 := hw.symm; clear hw; subst hw2))
        go_region
        all_goals
          go_wp2
          go_ret2
          refine FIN.out _ _ (((Below.refl _ _).drew).alloc (by simp) _) ?_ ?_ HA.out
          · simp
          · simp
end Qb
end Go.Proofs.YtnhhalabmmcemaaDoor
namespace Go.Proofs.YtnhhalabmmcemaaDoor
namespace Qb
open Go.RowKit Go.Shelf CMath Byt Laws Irw Crw Cod Qe
set_option linter.unusedVariables false
set_option linter.unusedSimpArgs false
set_option maxRecDepth 100000
attribute [local go_sem] Oper.semAt_some

/-- Marks that a function leaves behind: they are taken in, one by one. -/
theorem leaves_marks {F : Fence} {n : Nat} {P : Program} {fn : Func} {tmps : Array Value} {R : Ending → World → Prop} {B0 : Nat} : ∀ (Ds : List Nat) (w : World), (∀ D ∈ Ds, B0 ≤ D ∧ w.heap[D]? = some (.deferred (some []))) → Ds.Nodup →
    (∀ w', Below B0 w w' → (∀ b, b ∉ Ds → w'.heap[b]? = w.heap[b]?) → LeavesIn F n P fn tmps R [] .returning w') → LeavesInM F n P fn tmps R (Ds.map fun D => { target := .collected D, args := #[] }) .returning w
  | [], w, _, _, h => h w (Below.refl _ _) (fun _ _ => rfl)
  | D :: Ds, w, hD, hnd, h => by
    obtain ⟨hnD, hnd'⟩ := List.nodup_cons.1 hnd
    obtain ⟨hle, hobj⟩ := hD D List.mem_cons_self
    have hb1 : Below B0 w (w.putObj D (.deferred none)) := ⟨rfl, rfl, rfl, by simp, fun k hk => World.putObj_heap_other (by omega)⟩
    refine ⟨by simp, .inl ⟨_, _, rfl, run_takeDeferred hobj, ?_⟩⟩
    refine leaves_marks Ds _ (fun E hE => ⟨(hD E (List.mem_cons_of_mem _ hE)).1, ?_⟩) hnd' (fun w' hb hk => h w' (hb1.trans hb) fun b hb' => ?_)
    · rw [World.putObj_heap_other (by rintro rfl; exact hnD hE)]
      exact (hD E (List.mem_cons_of_mem _ hE)).2
    · rw [List.mem_cons, not_or] at hb'
      rw [hk b hb'.2, World.putObj_heap_other hb'.1]

theorem cell_of_obj {W : World} {b j : Nat} {vs : Array Value} {t : TypeId} (h : W.heap[b]? = some (.cells vs t)) : W.cell? ⟨b, j, none⟩ = vs[j]? := by
  simp [World.cell?, h]
theorem froz_of_obj {W : World} {b j : Nat} {vs : Array Value} {t : TypeId} (h : W.heap[b]? = some (.cells vs t)) : W.frozen? ⟨b, j, none⟩ = false := by
  simp [World.frozen?, h]

theorem cnt_stop (es : List (Nat × En)) (x : Nat × En) (V : Nat) : ∀ (l : List (En × Nat)) (p : Nat), es ++ [x] <+: pos p l → (∀ y ∈ es, y.1 ≠ V) → x.1 = V → cnt l p V = es.length := by
  induction es with
  | nil =>
    intro l p h _ hx
    cases l with
    | nil => simp [pos] at h
    | cons y t =>
      simp only [pos, List.nil_append, List.cons_prefix_cons] at h
      obtain ⟨rfl, _⟩ := h
      simp only at hx
      rw [cnt, if_pos hx]; rfl
  | cons e es ih =>
    intro l p h hn hx
    cases l with
    | nil => simp [pos] at h
    | cons y t =>
      simp only [pos, List.cons_append, List.cons_prefix_cons] at h
      obtain ⟨rfl, h2⟩ := h
      rw [cnt, if_neg (hn _ List.mem_cons_self), ih t _ h2 (fun y hy => hn y (List.mem_cons_of_mem _ hy)) hx]
      rfl
theorem cnt_all (V : Nat) : ∀ (l : List (En × Nat)) (p : Nat), (∀ y ∈ pos p l, y.1 ≠ V) → cnt l p V = (pos p l).length := by
  intro l
  induction l with
  | nil => intro p _; rfl
  | cons y t ih =>
    intro p hn
    rw [cnt, if_neg (hn (p, y.1) (by simp [pos])), ih _ (fun z hz => hn z (by simp [pos]; exact .inr hz))]
    rfl

theorem wk_len (n : Nat) : ∀ (b ah : List Nat), b.length ≤ n → (∀ x ∈ b, x < 256) → (wk b ah).length ≤ b.length := by
  induction n with
  | zero =>
    intro b ah hb _
    have : b = [] := List.eq_nil_of_length_eq_zero (by omega)
    subst this
    rw [wk_nil]; simp
  | succ n ih =>
    intro b ah hb hB
    by_cases h0 : b = []
    · subst h0; rw [wk_nil]; simp
    · cases h : rdE b ah with
      | none => rw [wk_none h]; simp
      | some x =>
        have hp := rdE_pos h hB
        have hl : 0 < b.length := List.length_pos_iff.2 h0
        rw [wk_some h0 hB h]
        have := ih (b.drop x.2) (kB x.1) (by rw [List.length_drop]; omega) (fun y hy => hB y (List.mem_of_mem_drop hy))
        rw [List.length_drop] at this
        simp only [List.length_cons]
        omega
theorem pos_len (l : List (En × Nat)) : ∀ p, (pos p l).length = l.length := by
  induction l with
  | nil => intro p; rfl
  | cons x t ih => intro p; simp [pos, ih]
theorem pos_wk_le (eb : List Nat) (h : ∀ x ∈ eb, x < 256) : (wkp eb 0).length ≤ eb.length := by
  unfold wkp
  rw [pos_len, List.drop_zero]
  exact wk_len _ eb [] (Nat.le_refl _) h

theorem cnt_le (l : List (En × Nat)) : ∀ p q, cnt l p q ≤ l.length := by
  induction l with
  | nil => intro p q; exact Nat.le_refl _
  | cons x t ih =>
    intro p q
    rw [cnt]
    split
    · exact Nat.zero_le _
    · have := ih (p + x.2) q
      simp only [List.length_cons]; omega
theorem rst_le {eb pb : List Nat} (hB : ∀ x ∈ eb, x < 256) (hl : eb.length ≤ 1000000000000) : rst eb pb ≤ 9223372036854775807 := by
  unfold rst
  split
  · exact Nat.le_refl _
  · have h1 := cnt_le (wk eb []) 0 (val ((pb.drop 4).take 4))
    have h2 := wk_len _ eb [] (Nat.le_refl _) hB
    omega
/-- where the loop of restart stands -/
structure Ri (w : World) (V : Nat) (es : List (Nat × En)) (T : Nat → Nat) (W : World) : Prop where
  n : W.cell? ⟨w.heap.size, 0, none⟩ = some (.int .i64 (es.length : Int))
  f : W.frozen? ⟨w.heap.size, 0, none⟩ = false
  s : W.cell? ⟨w.heap.size + 1, 0, none⟩ = some (.int .i64 (V : Int))
  t1 : T w.heap.size = 1
  t0 : T (w.heap.size + 1) = 0
  ne : ∀ x ∈ es, x.1 ≠ V
  bl : Below w.heap.size w W
structure Rj (w : World) (V : Nat) (es : List (Nat × En)) (W : World) : Prop where
  n : ∃ es' x, es = es' ++ [x] ∧ x.1 = V ∧ (∀ y ∈ es', y.1 ≠ V) ∧ W.cell? ⟨w.heap.size, 0, none⟩ = some (.int .i64 (es'.length : Int))
  bl : Below w.heap.size w W
theorem below_grown {B N : Nat} {w A C : World} {row : Option Nat} (h : Below N w A) (hg : A.grownBy C row) (hN : N ≤ w.heap.size) (hr : ∀ r, row = some r → N ≤ r) : Below N w C :=
  ⟨hg.os.trans h.os, hg.tape.trans h.tape, hg.output.trans h.output, Nat.le_trans h.size hg.size, fun b hb => (hg.block b (Nat.lt_of_lt_of_le hb (Nat.le_trans hN h.size)) (fun e => by have := hr b e.symm; omega)).trans (h.block b hb)⟩
theorem Ri.lasts {w : World} {V B : Nat} (hB : w.heap.size + 2 ≤ B) : Lasts B (Ri w V) := by
  rintro es T A C row h hg hr
  have l1 := World.block_lt_of_cell? A _ h.n
  have l2 := World.block_lt_of_cell? A _ h.s
  have k1 : C.heap[w.heap.size]? = A.heap[w.heap.size]? := hg.block _ l1 (fun e => by have := (hr _ e.symm).1; omega)
  have k2 : C.heap[w.heap.size + 1]? = A.heap[w.heap.size + 1]? := hg.block _ l2 (fun e => by have := (hr _ e.symm).1; omega)
  exact ⟨(World.cell?_of_block (a := ⟨w.heap.size, 0, none⟩) k1).trans h.n, (World.frozen?_of_block (a := ⟨w.heap.size, 0, none⟩) k1).trans h.f, (World.cell?_of_block (a := ⟨w.heap.size + 1, 0, none⟩) k2).trans h.s, h.t1, h.t0, h.ne, below_grown (B := 0) h.bl hg (Nat.le_refl _) (fun r e => by have := (hr r e).1; omega)⟩
theorem Rj.lasts {w : World} {V B : Nat} (hB : w.heap.size + 2 ≤ B) : Lasts B (fun es (_ : Nat → Nat) W => Rj w V es W) := by
  rintro es T A C row h hg hr
  obtain ⟨es', x, h1, h2, h3, h4⟩ := h.n
  have l1 := World.block_lt_of_cell? A _ h4
  have k1 : C.heap[w.heap.size]? = A.heap[w.heap.size]? := hg.block _ l1 (fun e => by have := (hr _ e.symm).1; omega)
  exact ⟨⟨es', x, h1, h2, h3, (World.cell?_of_block (a := ⟨w.heap.size, 0, none⟩) k1).trans h4⟩, below_grown (B := 0) h.bl hg (Nat.le_refl _) (fun r e => by have := (hr r e).1; omega)⟩

set_option maxHeartbeats 4000000 in
theorem restart_two (w : World) (K o : Nat) (eb pb : List Nat) (hk : BlkZ w K o eb pb) (h2 : 2 ≤ pb.length / 4) (hp12 : pb.length ≤ 1000000000000) :
    CallsIn Fence.wide 7 Tryd.prog 87 #[.pointer (some ⟨K, o, none⟩)] w fun e w' => e = .returned (.int .i64 ((rst eb pb : Nat) : Int)) ∧ Below w.heap.size w w' := by
  obtain ⟨a', c', ce', hie', hec', hc', _⟩ := hk.pla
  obtain ⟨ae, ce, cee, hiee, hece, hce, _⟩ := hk.ent
  have HK : Hid (BlkZ w K o eb pb) := hk
  have HR : Hid (Calls Tryd.prog 61 #[.pointer (some ⟨K, o, none⟩)] w fun e w' => e = .returned (.int .i64 ((pb.length / 4 : Nat) : Int)) ∧ w' = w) := restarts_any w K o a' pb.length c' ce' hp12
  have HP : Hid (Calls Tryd.prog 78 #[.pointer (some ⟨K, o, none⟩), .int .i64 ((1 : Nat) : Int)] w fun e w' => e = .returned (.int .i64 ((val ((pb.drop 4).take 4) : Nat) : Int)) ∧ w' = w) := place_any w K o a' pb pb.length c' 1 ce' hie' rfl hec' (by omega) (by omega) hp12
  have HRS : Hid (rst eb pb = cnt (wk eb []) 0 (val ((pb.drop 4).take 4))) := by show _ = _; unfold rst; rw [if_neg (by omega)]
  have HEL : Hid (eb.length ≤ 1000000000000) := hce.2
  have HPO : Hid (∀ x ∈ eb, x < 256) := hiee.2
  have q4 : ¬ (((pb.length / 4 : Nat) : Int) < 2) := by omega
  generalize pb.length / 4 = P4 at *
  generalize val ((pb.drop 4).take 4) = V at *
  have hKl := hk.lt
  clear hk ce' hie' hec' hc' cee hiee hece hce h2 hp12
  refine callsIn_of_wp_marks Tryd.func87 rfl trivial ?_ rfl
  simp only [Tryd.ntmps87, List.size_toArray, List.length_cons, List.length_nil, Nat.reduceAdd, Nat.reduceSub, Array.replicate_succ, Array.replicate_zero, List.push_toArray, List.append_toArray, List.nil_append, List.cons_append]
  have hf1 : Fence.wide.fn 61 := trivial
  have hf2 : Fence.wide.fn 78 := trivial
  have hf3 : Fence.wide.fn 54 := trivial
  gi_wp2_with (first
    | (gi_at_call 61; go_loud (refine (callsIn_wide.2 HR.out).mono ?_; rintro e w1 ⟨rfl, hw⟩; have hw2 := hw.symm; clear hw; subst hw2))
    | (gi_at_call 78; go_loud (refine (callsIn_wide.2 HP.out).mono ?_; rintro e w1 ⟨rfl, hw⟩; have hw2 := hw.symm; clear hw; subst hw2))
    | (gi_at_call 54; fail))
  have hd9 : decide ((P4 : Int) < 2) = false := decide_eq_false (by omega)
  rw [hd9]
  clear hd9
  have g1 : ((w.alloc (.cells #[.int .i64 0] 3)).alloc (.cells #[.int .i64 (V : Int)] 3)).heap[w.heap.size]? = some (.cells #[.int .i64 0] 3) := (Below.heap_alloc _ _ _ (by simp)).trans (World.alloc_heap_new _ _)
  have g2 : ((w.alloc (.cells #[.int .i64 0] 3)).alloc (.cells #[.int .i64 (V : Int)] 3)).heap[w.heap.size + 1]? = some (.cells #[.int .i64 (V : Int)] 3) := by
    have := World.alloc_heap_new (w.alloc (.cells #[.int .i64 0] 3)) (.cells #[.int .i64 (V : Int)] 3)
    rwa [World.size_alloc] at this
  have hb2 : Below w.heap.size w ((w.alloc (.cells #[.int .i64 0] 3)).alloc (.cells #[.int .i64 (V : Int)] 3)) := ((Below.refl _ _).alloc (Nat.le_refl _) _).alloc (by simp) _
  have hs2 : ((w.alloc (.cells #[.int .i64 0] 3)).alloc (.cells #[.int .i64 (V : Int)] 3)).heap.size = w.heap.size + 2 := by simp
  generalize ((w.alloc (.cells #[.int .i64 0] 3)).alloc (.cells #[.int .i64 (V : Int)] 3)) = w2 at *
  refine (callsIn_wide.2 (walk_any w2 K o 0)).mono ?_
  rintro e w4 ⟨rfl, hb4, hs4, c4a, c4b⟩
  dsimp only
  have HB4 : Hid (Below w.heap.size w w4) := hb2.trans (hb4.mono (by omega))
  have HB24 : Hid (Below w2.heap.size w2 w4) := hb4
  have g1' := (hb4.block _ (by omega)).trans g1
  have g2' := (hb4.block _ (by omega)).trans g2
  have H0 : Hid (Ri w V [] (upd (fun _ => 0) w.heap.size 1) w4) := ⟨by rw [cell_of_obj g1']; rfl, froz_of_obj g1', by rw [cell_of_obj g2']; rfl, upd_same _ _ _, upd_other _ _ (by omega), by simp, HB4.out⟩
  have hz : ∀ b, w4.heap.size ≤ b → upd (fun _ => 0) w.heap.size 1 b = 0 := fun b hb => upd_other _ _ (by omega)
  have HZ : Hid (∀ b, w4.heap.size ≤ b → upd (fun _ => 0) w.heap.size 1 b = 0) := hz
  have HBK : Hid (BlkAt (· = 1) (upd (fun _ => 0) w.heap.size 1) w4 K o eb pb) := BlkAt.below (BlkAt.up HK.out (fun b hb => by rw [upd_other _ _ (by omega)]; omega)) HB4.out
  have HSQ : Hid (SeqE (· = 1) Fence.wide 6 5 Tryd.prog 74 #[.pointer (some ⟨w2.heap.size, 0, none⟩), .pointer (some ⟨w2.heap.size + 1, 0, none⟩)] encP (wkp eb 0) w4 (upd (fun _ => 0) w.heap.size 1)) := walk_seq (· = 1) (by omega) 6 (by decide) _ _ _ K o 0 eb pb w4 (Nat.zero_le _) HBK.out hz c4a c4b (by rw [upd_other _ _ (by omega)]; omega) (by rw [upd_other _ _ (by omega)]; omega)
  have qs4 : w.heap.size + 2 ≤ w4.heap.size := by omega
  have qs2 : w2.heap.size = w.heap.size + 2 := hs2
  clear hb2 hb4 hz g1 g2 g1' g2' c4a c4b hs4 hs2
  gi_wp2
  refine range_e rfl (by decide) (gf := 74) (lb := #[.pointer (some ⟨w2.heap.size, 0, none⟩), .pointer (some ⟨w2.heap.size + 1, 0, none⟩)]) rfl trivial (enters_of Tryd.func74 (by kernel_rfl) rfl)
    (· = 1) (by omega) (upd (fun _ => 0) w.heap.size 1) HZ.out HSQ.out (fun _ => rfl)
    (fun es T W => es <+: wkp eb 0 ∧ Ri w V es T W) (fun c es T W => c = .exit 0 ∧ Rj w V es W)
    (fun es T A C row h hg hr => ⟨h.1, Ri.lasts qs4 es T A C row h.2 hg hr⟩) (fun c es T A C row h hg hr => ⟨h.1, Rj.lasts (V := V) qs4 es T A C row h.2 hg hr⟩) ⟨List.nil_prefix, H0.out⟩
    (fun e a' Wc W' => W' = Wc ∧ a' = { tmps := #[.pointer (some ⟨K, o, none⟩), undef, .int .i64 0, .pointer (some ⟨w.heap.size, 0, none⟩), .pointer (some ⟨w.heap.size + 1, 0, none⟩), .int .i64 (e.1 : Int), .pointer (some ⟨K, o, none⟩), .int .i64 (P4 : Int), .bool false, .pointer (some ⟨K, o, none⟩), .int .i64 (V : Int), .pointer (some ⟨K, o, none⟩), .func (.func 74) #[] #[.pointer (some ⟨w2.heap.size, 0, none⟩), .pointer (some ⟨w2.heap.size + 1, 0, none⟩)], .int .i64 (e.1 : Int), .agg #[.string e.2.1, .int .u64 e.2.2.1, .bool e.2.2.2.1, .string e.2.2.2.2], undef, undef, undef, undef, undef, undef], defers := [] })
    (fun e a' Wc W' h => by rw [h.1]; exact Below.refl _ _) ?assign ?body ?done ?stop
  case assign =>
    rintro l ⟨ep, ek, es_, ed, ev⟩ es T Wc Kc hi hK
    simp only [encP]
    gi_wp2
    try exact hK _ _ ⟨rfl, rfl⟩
  case body =>
    rintro l ⟨ep, ek, es_, ed, ev⟩ es T a' Wc W' Wb hl1 hl2 ⟨ob, ho, hoc⟩ _ ⟨hpre, hri⟩ hz hN9 ⟨rfl, rfl⟩ hg
    dsimp only at *
    have c1 := hri.n
    have c2 := hri.s
    have f1 := hri.f
    have HRI : Hid (Ri w V es T Wb) := hri
    have HN9 : Hid (es ++ [(ep, ek, es_, ed, ev)] <+: wkp eb 0) := hN9
    have HZB : Hid (∀ b, Wb.heap.size ≤ b → T b = 0) := fun b hb => hz b (Nat.le_trans hg.size hb)
    have hlen : es.length < 1000000000000 := by
      have h1 := hN9.length_le
      have h2 := pos_wk_le eb HPO.out
      have := HEL.out
      simp at h1
      omega
    clear hri hpre hz hg ho hoc hN9
    by_cases he : ep = V
    · have he2 : decide ((ep : Int) = (V : Int)) = true := decide_eq_true (by omega)
      have HX : Hid (ep = V) := he
      have he3 : (ep : Int) = (V : Int) := by omega
      clear he
      gi_wp2
      exact ⟨T, ⟨rfl, ⟨⟨es, _, rfl, HX.out, HRI.out.ne, HRI.out.n⟩, HRI.out.bl⟩⟩, KeepsFrom.refl _ _⟩
    · have he2 : decide ((ep : Int) = (V : Int)) = false := decide_eq_false (by omega)
      have HX : Hid (ep ≠ V) := he
      have he3 : ¬ ((ep : Int) = (V : Int)) := by omega
      have hq : ((es.length : Int) + 1) = ((es.length + 1 : Nat) : Int) := by omega
      have HLN : Hid (((es ++ [(ep, ek, es_, ed, ev)]).length : Int) = (es.length : Int) + 1) := by show _ = _; simp
      clear he hq
      gi_wp2
      have hgs : Goes (· = 1) T Wb T (Wb.setCell ⟨w.heap.size, 0, none⟩ (.int .i64 ((es.length : Int) + 1))) := Goes.setCell HRI.out.t1
      refine ⟨T, ⟨HN9.out, ?_, ?_, ?_, HRI.out.t1, HRI.out.t0, ?_, ?_⟩, hgs, fun b hb => HZB.out b (by simpa using hb), (KeepsOthers.setCell _ _ _).from _⟩
      · rw [HLN.out]; exact World.cell?_setCell_same _ _ _ c1
      · rw [World.frozen?_setCell]; exact f1
      · exact (World.cell?_setCell_other _ _ _ _ (by intro h; have := congrArg Addr.block h; simp at this)).trans c2
      · intro x hx
        rcases List.mem_append.1 hx with hx | hx
        · exact HRI.out.ne x hx
        · rw [List.mem_singleton.1 hx]; exact HX.out
      · exact HRI.out.bl.setCell (p := ⟨w.heap.size, 0, none⟩) (by simp) _
  case done =>
    rintro D T W' hD ⟨hpre, hri⟩ hDd
    have c1 := hri.n
    have HRI : Hid (Ri w V (wkp eb 0) T W') := hri
    have HEQ : Hid (((wkp eb 0).length : Int) = ((rst eb pb : Nat) : Int)) := by
      show _ = _
      rw [HRS.out, cnt_all V (wk eb []) 0 hri.ne]
      rfl
    clear hri hpre
    dsimp only
    gi_wp2
    refine leaves_marks (B0 := w.heap.size) [D] _ (by
      intro E hE
      rw [List.mem_singleton.1 hE]
      exact ⟨by omega, hDd⟩) (by simp) (fun w' hb hk => ?_)
    refine ⟨.int .i64 ((wkp eb 0).length : Int), ?_, by rw [HEQ.out], HRI.out.bl.trans hb⟩
    simp [results, Tryd.results87, go_sem]
  case stop =>
    rintro D c es T W' hD hpre ⟨rfl, hri⟩ hDd
    obtain ⟨es', x, rfl, hx, hne, c1⟩ := hri.n
    have HRI : Hid (Rj w V (es' ++ [x]) W') := hri
    have HEQ : Hid ((es'.length : Int) = ((rst eb pb : Nat) : Int)) := by
      show _ = _
      rw [HRS.out, cnt_stop es' x V (wk eb []) 0 hpre hne hx]
    clear hri hpre hx hne
    dsimp only
    gi_wp2
    refine leaves_marks (B0 := w.heap.size) [D] _ (by
      intro E hE
      rw [List.mem_singleton.1 hE]
      exact ⟨by omega, hDd⟩) (by simp) (fun w' hb hk => ?_)
    refine ⟨.int .i64 (es'.length : Int), ?_, by rw [HEQ.out], HRI.out.bl.trans hb⟩
    simp [results, Tryd.results87, go_sem]
theorem restart_any (w : World) (K o : Nat) (eb pb : List Nat) (hk : BlkZ w K o eb pb) (hp12 : pb.length ≤ 1000000000000) :
    Calls Tryd.prog 87 #[.pointer (some ⟨K, o, none⟩)] w fun e w' => e = .returned (.int .i64 ((rst eb pb : Nat) : Int)) ∧ Below w.heap.size w w' := by
  by_cases h2 : 2 ≤ pb.length / 4
  · exact callsIn_wide.1 (restart_two w K o eb pb hk h2 hp12)
  · obtain ⟨a', c', ce', hie', hec', hc', _⟩ := hk.pla
    have HR : Hid (Calls Tryd.prog 61 #[.pointer (some ⟨K, o, none⟩)] w fun e w' => e = .returned (.int .i64 ((pb.length / 4 : Nat) : Int)) ∧ w' = w) := restarts_any w K o a' pb.length c' ce' hp12
    have HRS : Hid (((rst eb pb : Nat) : Int) = 9223372036854775807) := by show _ = _; unfold rst; rw [if_pos (by omega)]; rfl
    rw [HRS.out]
    have q4 : ((pb.length / 4 : Nat) : Int) < 2 := by omega
    generalize pb.length / 4 = P4 at *
    clear hk ce' hie' hec' hc' h2 hp12 HRS
    go_enter Tryd.func87, Tryd.ntmps87
    go_wp2_with (go_at_call 61; go_loud (refine HR.out.mono ?_; rintro e w1 ⟨rfl, hw⟩; have hw2 := hw.symm; clear hw; subst hw2))
    go_ret
    exact ⟨rfl, Below.refl _ _⟩
end Qb
end Go.Proofs.YtnhhalabmmcemaaDoor
namespace Go.Proofs.YtnhhalabmmcemaaDoor
namespace Qb
open Go.RowKit Go.Shelf CMath Byt Laws Irw Crw Cod Qe
set_option linter.unusedVariables false
set_option linter.unusedSimpArgs false
set_option maxRecDepth 100000
attribute [local go_sem] Oper.semAt_some

/-- Blocks that hold no cells have the tag 0. -/
def NC (T : Nat → Nat) (w : World) : Prop := ∀ (b : Nat) (o : Obj), w.heap[b]? = some o → o.isCells = false → T b = 0
/-- Tags of blocks that hold cells alone. -/
def rt (T : Nat → Nat) (w : World) : Nat → Nat := fun b => if (∃ o, w.heap[b]? = some o ∧ o.isCells = false) then 0 else T b
open Classical in
theorem rt_cells {T : Nat → Nat} {w : World} {b : Nat} {o : Obj} (h : w.heap[b]? = some o) (ho : o.isCells = true) : rt T w b = T b := by
  unfold rt
  rw [if_neg]
  rintro ⟨o', h', ho'⟩
  rw [h] at h'
  cases h'
  rw [ho] at ho'
  cases ho'
theorem nc_rt (T : Nat → Nat) (w : World) : NC (rt T w) w := fun b o h ho => by unfold rt; rw [if_pos ⟨o, h, ho⟩]
theorem goes_rt {u : Nat → Prop} {T T' : Nat → Nat} {w w' : World} (hg : Goes u T w T' w') (hn : NC T w) : Goes u T w (rt T' w') w' := by
  refine ⟨hg.os, hg.tape, hg.output, hg.size, hg.block, fun b hb hu => ?_, fun b hb h0 => ?_⟩
  · unfold rt
    split
    · rename_i h
      obtain ⟨o, h1, h2⟩ := h
      rw [hg.block b hb hu] at h1
      exact (hn b o h1 h2).symm
    · exact hg.tag b hb hu
  · unfold rt
    split
    · rfl
    · exact hg.high b hb h0
theorem keeps_of {u : Nat → Prop} {T T' : Nat → Nat} {w w' : World} (hg : Goes u T w T' w') (hn : NC T w) (h0 : ¬ u 0) (B : Nat) : KeepsFrom B w w' :=
  ⟨hg.size, fun b o _ h ho => (hg.block b (Array.getElem?_eq_some_iff.1 h).1 (by rw [hn b o h ho]; exact h0)).trans h⟩
theorem NC.grown {T : Nat → Nat} {A C : World} {row : Option Nat} (hn : NC T A) (hi : ∀ b, A.heap.size ≤ b → T b = 0) (hg : A.grownBy C row) (hr : ∀ r, row = some r → ∃ o : Obj, A.heap[r]? = some o ∧ o.isCells = false) : NC T C := fun b o h ho => by
  by_cases hb : b < A.heap.size
  · by_cases hr' : row = some b
    · obtain ⟨o', h1, h2⟩ := hr b hr'
      exact hn b o' h1 h2
    · rw [hg.block b hb (fun e => hr' e.symm)] at h
      exact hn b o h ho
  · exact hi b (by omega)
theorem NC.below {T : Nat → Nat} {w w' : World} (hn : NC T w) (hi : ∀ b, w.heap.size ≤ b → T b = 0) (hb : Below w.heap.size w w') : NC T w' := fun b o h ho => by
  by_cases hlt : b < w.heap.size
  · rw [hb.block b hlt] at h
    exact hn b o h ho
  · exact hi b (by omega)
theorem ownB_rt {t : Nat} {T : Nat → Nat} {w : World} {v : Value} {l : List Nat} (h : OwnB t T w v l) : OwnB t (rt T w) w v l := by
  refine ⟨⟨h.own.1, fun g hv => ?_⟩, h.byte⟩
  rcases h.own.1.2 with ⟨h1, _⟩ | ⟨g', cap, cur, hv', _, hh, _⟩
  · rw [h1] at hv; cases hv
  · rw [hv'] at hv
    cases hv
    rw [rt_cells hh rfl]
    exact h.own.2 _ (by rw [hv']; rfl)
theorem cells_of {w : World} {b j : Nat} {v : Value} (h : w.cell? ⟨b, j, none⟩ = some v) : ∃ o : Obj, w.heap[b]? = some o ∧ o.isCells = true := by
  unfold World.cell? at h
  cases hh : w.heap[b]? with
  | none => simp [hh] at h
  | some o =>
    refine ⟨o, rfl, ?_⟩
    cases o <;> simp [hh, Obj.isCells] at h ⊢
theorem rt_cell {T : Nat → Nat} {w : World} {b j : Nat} {v : Value} (h : w.cell? ⟨b, j, none⟩ = some v) : rt T w b = T b := by
  obtain ⟨o, h1, h2⟩ := cells_of h
  exact rt_cells h1 h2
theorem MakerAt.rt {t : Nat} {T : Nat → Nat} {w : World} {M : Nat} {r : Int} {S : St} (p : MakerAt t T w M r S) : MakerAt t (rt T w) w M r S := by
  obtain ⟨v3, h3, o3⟩ := p.c3
  obtain ⟨v4, h4, o4⟩ := p.c4
  exact ⟨p.lt, (rt_cell p.c0).trans p.tag, p.c0, p.c1, p.c2, ⟨v3, h3, ownB_rt o3⟩, ⟨v4, h4, ownB_rt o4⟩, p.fz, p.last⟩

theorem conv_any (w : World) (a : Option Addr) (n c : Nat) (l : List Nat) (h : IsB w a l) (hn : n = l.length) (hc : a = none → c = 0) : (convert 25 9 (.slice a n c)).run Tryd.prog w = .ok (.string (ofB l)) w := by
  cases a with
  | none =>
    have hl : l = [] := by
      rcases l with _ | ⟨x, t⟩
      · rfl
      · obtain ⟨b, off, e, _⟩ := h.1 (by simp); cases e
    subst hl
    subst hn
    rw [hc rfl]
    exact conv_nil w
  | some ad => exact conv_back w ad c n l h hn
theorem ofB_eq {l l' : List Nat} (h : ∀ x ∈ l, x < 256) (h' : ∀ x ∈ l', x < 256) : ((ofB l).toList == (ofB l').toList) = decide (l = l') := by
  by_cases e : l = l'
  · subst e; simp
  · rw [decide_eq_false e, beq_eq_false_iff_ne]
    intro he
    apply e
    have : ofB l = ofB l' := by
      rw [ByteArray.toList_eq, ByteArray.toList_eq] at he
      exact ByteArray.ext (Array.toList_inj.1 he)
    rw [← strB_ofB h, ← strB_ofB h', this]
set_option maxHeartbeats 1000000 in
theorem equal_any (a a' : Option Addr) (n c n' c' : Nat) (l l' : List Nat) (w : World) (h : IsB w a l) (h' : IsB w a' l') (hn : n = l.length) (hn' : n' = l'.length) (hc : a = none → c = 0) (hc' : a' = none → c' = 0) :
    Calls Tryd.prog 24 #[.slice a n c, .slice a' n' c'] w fun e w' => e = .returned (.bool (decide (l = l'))) ∧ w' = w := by
  have hv1 := conv_any w a n c l h hn hc
  have hv2 := conv_any w a' n' c' l' h' hn' hc'
  rw [← ofB_eq h.2 h'.2]
  clear h h' hn hn' hc hc'
  generalize ofB l = x at *
  generalize ofB l' = y at *
  go_enter Tryd.func24, Tryd.ntmps24
  go_wp2
  go_ret
  exact ⟨rfl, rfl⟩
end Qb
end Go.Proofs.YtnhhalabmmcemaaDoor
