import Derived.Test.YtecgecolghgjoaaVo
namespace Go.Proofs.Ytecgecolghgjoaa
namespace Vr
open Go.RowKit Go.Maps Go.ChangeMaps Go.MapKept Laws Irw Crw
set_option linter.unusedVariables false
set_option linter.unusedSimpArgs false
set_option maxRecDepth 20000
/-- in which level each number stands -/
def prs : Lv → Nat → List (Nat × Nat)
  | [], _ => []
  | l :: V, i => l.map (fun t => (t.no, i)) ++ prs V (i + 1)
theorem prs_nums : ∀ (V : Lv) (i : Nat), (prs V i).map Prod.fst = nums V
  | [], _ => rfl
  | l :: V, i => by
    simp only [prs, List.map_append, prs_nums V (i + 1), nums, List.flatten_cons, List.map_append, List.map_map]
    rfl
theorem prs_take : ∀ {V : Lv} {k : Nat} {l : List Tb} (i : Nat), V[k]? = some l → prs (V.take (k + 1)) i = prs (V.take k) i ++ l.map (fun t => (t.no, i + k))
  | [], k, l, i, h => by simp at h
  | x :: V, 0, l, i, h => by
    simp at h; subst h
    simp [prs]
  | x :: V, k + 1, l, i, h => by
    simp only [List.take_succ_cons, prs, List.append_assoc]
    rw [prs_take (i + 1) (by simpa using h), show i + 1 + k = i + (k + 1) by omega]
theorem prs_mem : ∀ {V : Lv} {i n k : Nat}, (n, k) ∈ prs V i ↔ ∃ l t, i ≤ k ∧ V[k - i]? = some l ∧ t ∈ l ∧ t.no = n
  | [], i, n, k => by simp [prs]
  | x :: V, i, n, k => by
    simp only [prs, List.mem_append, List.mem_map, Prod.mk.injEq]
    rw [prs_mem]
    constructor
    · rintro (⟨t, ht, rfl, rfl⟩ | ⟨l, t, h1, h2, h3, h4⟩)
      · exact ⟨x, t, Nat.le_refl _, by simp, ht, rfl⟩
      · refine ⟨l, t, by omega, ?_, h3, h4⟩
        rw [show k - i = (k - (i + 1)) + 1 by omega, List.getElem?_cons_succ]
        exact h2
    · rintro ⟨l, t, h1, h2, h3, h4⟩
      by_cases e : k = i
      · subst e
        simp at h2; subst h2
        exact .inl ⟨t, h3, h4, rfl⟩
      · rw [show k - i = (k - (i + 1)) + 1 by omega, List.getElem?_cons_succ] at h2
        exact .inr ⟨l, t, by omega, h2, h3, h4⟩
/-- the map tells the level of these numbers -/
def LvM (w : World) (mb : Nat) (Q : List (Nat × Nat)) : Prop := ∃ m D, OwnM w mb m D ∧ m < 2000000000 ∧ ∀ p ∈ Q, p.1 < U64 ∧ Maps.has D (.int .u64 (p.1 : Int)) = true ∧ D.atKey (.int .u64 (p.1 : Int)) (.lit (.int .i64 0)) = .lit (.int .i64 (p.2 : Int))
theorem LvM.block {w w' : World} {mb : Nat} {Q : List (Nat × Nat)} (h : LvM w mb Q) (hb : w'.heap[mb]? = w.heap[mb]?) : LvM w' mb Q := by
  obtain ⟨m, D, h1, h2, h3⟩ := h
  exact ⟨m, D, h1.block hb, h2, h3⟩
theorem LvM.lt {w : World} {mb : Nat} {Q : List (Nat × Nat)} (h : LvM w mb Q) : mb < w.heap.size := by
  obtain ⟨m, D, h1, _⟩ := h
  exact h1.lt
theorem LvM.below {w w' : World} {mb : Nat} {Q : List (Nat × Nat)} (h : LvM w mb Q) (hb : Below w.heap.size w w') : LvM w' mb Q := h.block (hb.block mb h.lt)
theorem LvM.set {w : World} {mb g k : Nat} {v : Value} {Q : List (Nat × Nat)} (h : LvM w mb Q) (hne : mb ≠ g) : LvM (w.setCell ⟨g, k, none⟩ v) mb Q := by
  obtain ⟨m, D, h1, h2, h3⟩ := h
  exact ⟨m, D, World.ownsMap.setCell h1 (a := ⟨g, k, none⟩) hne v, h2, h3⟩
theorem LvM.goes {p : Nat → Prop} {T T' : Nat → Nat} {w w' : World} {mb : Nat} {Q : List (Nat × Nat)} (h : LvM w mb Q) (hg : Goes p T w T' w') (ht : ¬ p (T mb)) : LvM w' mb Q := h.block (hg.block mb h.lt ht)
theorem LvM.put {w w' : World} {mb n v : Nat} {Q : List (Nat × Nat)} (h : LvM w mb Q) (hn : n < U64) (hv : v < 100) (hq : n ∉ Q.map Prod.fst) (hm : ∃ m D, OwnM w mb m D ∧ m < 1000000000)
    (hr : (Instr.mapUpdate 66 (.map (some mb)) (.int .u64 (n : Int)) (.int .i64 (v : Int))).run Try.prog w = .ok () w') : LvM w' mb (Q ++ [(n, v)]) := by
  obtain ⟨m0, D, h1, h2, h3⟩ := h
  obtain ⟨m, D', k1, k2⟩ := hm
  have e : D' = D := by
    obtain ⟨es, c, a1, a2, a3, a4⟩ := h1
    obtain ⟨es', c', b1, b2, b3, b4⟩ := k1
    rw [a1] at b1
    cases b1
    exact b4.trans a4.symm
  subst e
  obtain ⟨w2, hr2, h4, h5⟩ := World.ownsMap.update k1 law64 Try.underlying66 (by unfold maxLen; omega) (key64 hn) (plainElem_int Try.underlying3 (a := (v : Int)) (WalkArith.wf_i64 (by omega)))
  rw [hr] at hr2
  cases hr2
  refine ⟨m + 1, _, h4, by omega, fun p hp => ?_⟩
  rcases List.mem_append.1 hp with hp | hp
  · obtain ⟨g1, g2, g3⟩ := h3 p hp
    have hne : p.1 ≠ n := fun e => hq (e ▸ List.mem_map_of_mem hp)
    exact ⟨g1, by rw [Maps.has_put_other (lit_ne hne)]; exact g2, by rw [Maps.atKey_put_other (lit_ne hne)]; exact g3⟩
  · simp at hp
    subst hp
    have hk : WideAt.IsKeyLit (Lit.int .u64 (n : Int)) := by simp [WideAt.IsKeyLit]
    exact ⟨hn, Maps.has_put_same k1.isMap hk _, Maps.atKey_put_same k1.isMap hk _ _⟩
theorem nod_take {V : Lv} (h : (nums V).Nodup) (k : Nat) : (nums (V.take k)).Nodup := by
  have e : nums V = nums (V.take k) ++ nums (V.drop k) := by
    unfold nums
    rw [← List.map_append, ← List.flatten_append, List.take_append_drop]
  rw [e, List.nodup_append] at h
  exact h.1
theorem nod_new {V : Lv} {k j : Nat} {l : List Tb} {t : Tb} (h : (nums V).Nodup) (hl : V[k]? = some l) (ht : l[j]? = some t) : t.no ∉ nums (V.take k) ++ (l.take j).map Tb.no := by
  have h1 := nod_take h (k + 1)
  rw [nums_take hl] at h1
  obtain ⟨q1, q2⟩ := List.getElem?_eq_some_iff.1 ht
  have e : l = l.take j ++ t :: l.drop (j + 1) := by rw [← q2, ← List.drop_eq_getElem_cons q1, List.take_append_drop]
  rw [e, List.map_append, List.map_cons, ← List.append_assoc, List.nodup_append] at h1
  intro hm
  exact h1.2.2 _ hm t.no (by simp) rfl
def DqIs (w : World) (V : Lv) (e : Ending) (w' : World) : Prop := ∃ T db mb lb, e = .returned (.pointer (some ⟨db, 0, none⟩)) ∧ DAt w T w' db mb (some ⟨lb, 0, none⟩, V.length, V.length) V (nums V) ∧ LvM w' mb (prs V 0)
set_option maxHeartbeats 4000000 in
theorem draft_lv (vb : Nat) (V : Lv) (w : World) (h : VAt w vb V) (hn : NumOk V) (hq : (nums V).Nodup) : Calls Try.prog 36 #[.pointer (some ⟨vb, 0, none⟩)] w fun e w' => DqIs w V e w' := by
  have HV : Hid (VAt w vb V ∧ NumOk V) := ⟨h, hn⟩
  have HQ : Hid ((nums V).Nodup) := hq
  clear hq
  obtain ⟨hf, ⟨sa, sn, sc⟩, hz, hl⟩ := h
  have c0 := hz.2.1 0 _ rfl
  have e := hl.1
  change sn = V.length at e
  subst e
  simp only [svV] at c0
  have hv5 := hf.1
  have hvb : vb < w.heap.size := hz.1
  have k1 := run_make_row' (P := Try.prog) 63 58 (.slice none 0 0) 24 Try.underlying63 infoS rfl .i64 .i64 V.length (by omega) (by omega)
  have k3 := @run_makeMap Try.prog
  have g0 : (((w.alloc (Obj.cells (madeCells #[.slice none 0 0] V.length) 58)).alloc (Obj.map #[] 0)).alloc (Obj.cells #[.slice (some ⟨w.heap.size, 0, none⟩) V.length V.length, .map (some (w.heap.size + 1))] 96)).cell? ⟨vb, 0, none⟩ = some (.slice sa V.length sc) :=
    (((((Below.refl w.heap.size w).alloc (Nat.le_refl _) _).alloc (by simp) _).alloc (by simp; omega) _).cell (p := ⟨vb, 0, none⟩) hvb).trans c0
  clear hz hl hf hn
  go_enter Try.func36, Try.ntmps36
  go_wp2
  have HS : Hid (∃ T W, W = _ ∧ DAt w T W (w.heap.size + 1 + 1) (w.heap.size + 1) (some ⟨w.heap.size, 0, none⟩, V.length, V.length) (part V 0) (nums (V.take 0)) ∧ LvM W (w.heap.size + 1) (prs (V.take 0) 0)) := ⟨_, _, rfl, by rw [part_zero]; exact draft_start w V.length hv5, by
    obtain ⟨D, g1, _⟩ := (draft_start w V.length hv5).map.own
    exact ⟨_, D, g1, by simp, fun p hp => by simp [prs] at hp⟩⟩
  clear g0 k1 k3
  go_loopw [21] (fun i wr => ∃ (k : Nat) (T : Nat → Nat), k ≤ V.length ∧ i = .int .i64 (k : Int) ∧ Hid (DAt w T wr (w.heap.size + 1 + 1) (w.heap.size + 1) (some ⟨w.heap.size, 0, none⟩, V.length, V.length) (part V k) (nums (V.take k)) ∧ LvM wr (w.heap.size + 1) (prs (V.take k) 0))) (fun i _ => V.length - (intOf i).toNat)
  case atStart =>
    obtain ⟨T, W, rfl, hd⟩ := HS.out
    exact ⟨0, T, Nat.zero_le _, rfl, hd⟩
  case round =>
    clear HS c0
    obtain ⟨k, T, hk, rfl, HD⟩ := hrel
    rename World => wr
    by_cases hlt : k < V.length
    · have q1 : (k : Int) < (V.length : Int) := by omega
      obtain ⟨l, hl⟩ : ∃ l, V[k]? = some l := ⟨_, List.getElem?_eq_getElem hlt⟩
      have HVl : Hid (V[k]? = some l) := hl
      have c0 := HD.out.1.box.2.1 0 _ rfl
      have c1 := HD.out.1.box.2.1 1 _ rfl
      simp only [svV] at c0
      have hll : l.length ≤ 3000000 := HV.out.1.1.2 l (List.mem_of_getElem? hl)
      have HC : Hid (Calls Try.prog 30 #[.pointer (some ⟨vb, 0, none⟩), .int .i64 (k : Int)] wr.drew fun e w' => NewIs wr.drew l e w') := by
        have := tables_any vb V (k : Int) wr.drew (HV.out.1.below HD.out.1.old.below.drew)
        rw [lev_in hl] at this
        exact this
      clear hl
      go_wp2
      go_region_with (go_at_call 30; go_loud (refine HC.out.mono ?_; rintro e w2 ⟨_, rfl, ⟨G, rfl, hG, hrow⟩, hb2'⟩; have hb2 : Below wr.heap.size wr w2 := ⟨hb2'.os, hb2'.tape, hb2'.output, hb2'.size, hb2'.block⟩; clear hb2'; have HN : Hid (w2.ownsRow 0 47 6 (.slice (some ⟨G, 0, none⟩) l.length l.length) l.length (kTb.cells l) ∧ wr.heap.size ≤ G ∧ Below wr.heap.size wr w2) := ⟨hrow, hG, hb2⟩; obtain ⟨u5, hu5, hfr5, ho5⟩ := (HD.out.1.below hb2).cell (by rw [part_len hk]; exact hlt) (List.getElem?_eq_getElem (by rw [part_len hk]; exact hlt)); have d0 := (HD.out.1.below hb2).box.2.1 0 _ rfl; simp only [svV] at d0; clear hrow hG hb2 ho5; simp only [svV]))
      all_goals
        have hz0 := (fun b hb => HD.out.1.old.zero b (.inr hb) : ∀ b, wr.heap.size ≤ b → T b = 0)
        have HX5 : Hid _ := (own_tag (k := k) hz0 HN.out.2.1 HN.out.1 HN.out.2.2 : OwnK kTb (10 + k) (upd T G (10 + k)) w2 (svV (some ⟨G, 0, none⟩, l.length, l.length)) l ∧ Goes (· = 10 + k) T wr (upd T G (10 + k)) w2)
        have HD5 : Hid _ := HD.out.1.setl HX5.out.2 HX5.out.1 (by rw [part_len hk]; exact hlt)
        rw [part_set HVl.out] at HD5
        have HL5 : Hid (LvM (w2.setCell ⟨w.heap.size, k, none⟩ (.slice (some ⟨G, 0, none⟩) l.length l.length)) (w.heap.size + 1) (prs (V.take k) 0)) := (HD.out.2.below HN.out.2.2).set (by omega)
        simp only [svV] at HD5
        obtain ⟨W5, hW5⟩ : ∃ W, w2.setCell ⟨w.heap.size, k, none⟩ (.slice (some ⟨G, 0, none⟩) l.length l.length) = W := ⟨_, rfl⟩
        obtain ⟨T5, hT5⟩ : ∃ T5, upd T G (10 + k) = T5 := ⟨_, rfl⟩
        rw [hW5, hT5] at HD5
        rw [hW5] at HL5
        rw [hW5]
        have z0 := HD5.out.1.box.2.1 0 _ rfl
        simp only [svV] at z0
        have z1 := HD5.out.2.1
        clear hW5 hT5 HX5 hz0 HN hu5 hfr5 d0 HC HD c0 c1 u5
        go_wp2
        go_loopw [41] (fun i wr => ∃ j : Nat, j ≤ l.length ∧ i = .int .i64 (j : Int) ∧ Hid (DAt w T5 wr (w.heap.size + 1 + 1) (w.heap.size + 1) (some ⟨w.heap.size, 0, none⟩, V.length, V.length) (part V (k + 1)) (nums (V.take k) ++ (l.take j).map Tb.no) ∧ OwnK kTb (10 + k) T5 wr (.slice (some ⟨G, 0, none⟩) l.length l.length) l ∧ LvM wr (w.heap.size + 1) (prs (V.take k) 0 ++ (l.take j).map (fun t => (t.no, k))))) (fun i _ => l.length - (intOf i).toNat)
        case atStart => exact ⟨0, Nat.zero_le _, rfl, by simpa using HD5.out.1, HD5.out.2.2, by simpa using HL5.out⟩
        case round =>
          clear HD5 HL5 z0 z1
          obtain ⟨j, hj, rfl, HY⟩ := hrel
          rename World => wq
          by_cases hlj : j < l.length
          · have q2 : (j : Int) < (l.length : Int) := by omega
            obtain ⟨b, off, e1, hb, t, ht, y0, y1, y2, y3, y4, y5⟩ := (Ls.own (s := (some ⟨G, 0, none⟩, l.length, l.length)) HY.out.2.1).tb hlj
            cases e1
            rw [Nat.zero_add] at y0 y1 y2 y3 y4 y5
            have hb1 : Below wq.heap.size wq (wq.alloc (Obj.cells #[.int .u64 (t.no : Int), .int .i64 t.we, .int .i64 t.by_, .int .i64 t.en, .string t.le, .string t.gr] 47)) := (Below.refl _ _).alloc (Nat.le_refl _) _
            have x0 := (HY.out.1.below hb1).box.2.1 1 _ rfl
            have hlen : (nums (V.take k) ++ (l.take j).map Tb.no).length < 1000000000 := by
              have h1 := nums_le HV.out.1.1 k
              have h2 : k * 3000000 ≤ 5 * 3000000 := Nat.mul_le_mul_right _ (by omega)
              rw [List.length_append, List.length_map, List.length_take]
              have h3 : min j l.length ≤ 3000000 := Nat.le_trans (Nat.min_le_right _ _) hll
              omega
            obtain ⟨w7, hr7, hd7, hg7⟩ := (HY.out.1.below hb1.drew).put t.no (k : Int) (HV.out.2 l (List.mem_of_getElem? HVl.out) t (List.mem_of_getElem? ht)) (WalkArith.wf_i64 (by omega)) hlen
            have HW7 : Hid (DAt w T5 w7 (w.heap.size + 1 + 1) (w.heap.size + 1) (some ⟨w.heap.size, 0, none⟩, V.length, V.length) (part V (k + 1)) (nums (V.take k) ++ (l.take j).map Tb.no ++ [t.no]) ∧ OwnK kTb (10 + k) T5 w7 (.slice (some ⟨G, 0, none⟩) l.length l.length) l) := ⟨hd7, (HY.out.2.1.below hb1.drew).goes hg7 (by omega)⟩
            have HL7 : Hid (LvM w7 (w.heap.size + 1) (prs (V.take k) 0 ++ (l.take j).map (fun t => (t.no, k)) ++ [(t.no, k)])) := (HY.out.2.2.below hb1.drew).put (HV.out.2 l (List.mem_of_getElem? HVl.out) t (List.mem_of_getElem? ht)) (by omega) (by
              rw [List.map_append, prs_nums, List.map_map]
              exact nod_new HQ.out HVl.out ht) (by
              obtain ⟨D9, g1, _⟩ := (HY.out.1.below hb1.drew).map.own
              exact ⟨_, D9, g1, by omega⟩) hr7
            clear hd7 hlen hg7
            go_wp2
            go_region
            all_goals
              go_wp2
              go_roundw
              case rel =>
                refine ⟨j + 1, by omega, by go_num, ?_, ?_⟩
                · have e : (l.take (j + 1)).map Tb.no = (l.take j).map Tb.no ++ [t.no] := by rw [List.take_add_one, ht]; simp
                  rw [e, ← List.append_assoc]
                  exact HW7.out.1
                · refine ⟨HW7.out.2, ?_⟩
                  have e : (l.take (j + 1)).map (fun t => (t.no, k)) = (l.take j).map (fun t => (t.no, k)) ++ [(t.no, k)] := by rw [List.take_add_one, ht]; simp
                  rw [e, ← List.append_assoc]
                  exact HL7.out
              case measure => simp [intOf]; omega
          · have q2 : ¬ (j : Int) < (l.length : Int) := by omega
            have HK : Hid (j = l.length) := show j = l.length by omega
            go_wp2
            go_roundw
            case rel =>
              refine ⟨k + 1, T5, by omega, by go_num, ?_⟩
              have h9 := HY.out.1
              have h8 := HY.out.2.2
              rw [HK.out, List.take_length, ← nums_take HVl.out] at h9
              rw [HK.out, List.take_length] at h8
              have h7 := prs_take 0 HVl.out
              rw [Nat.zero_add] at h7
              rw [← h7] at h8
              exact ⟨h9, h8⟩
            case measure => simp [intOf]; omega
    · have q1 : ¬ (k : Int) < (V.length : Int) := by omega
      have HK : Hid (k = V.length) := show k = V.length by omega
      go_wp2
      go_ret
      have := HD.out
      rw [HK.out, part_all, List.take_length] at this
      exact ⟨T, _, _, _, rfl, this⟩
end Vr
end Go.Proofs.Ytecgecolghgjoaa
