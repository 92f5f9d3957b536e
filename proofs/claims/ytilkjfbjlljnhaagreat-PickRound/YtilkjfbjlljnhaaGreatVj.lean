import Derived.Test.YtilkjfbjlljnhaaGreatVi
namespace Go.Proofs.YtilkjfbjlljnhaaGreat
namespace Vr
open Go.RowKit Go.Maps Go.ChangeMaps Go.MapKept Laws Irw Crw
set_option linter.unusedVariables false
set_option linter.unusedSimpArgs false
set_option maxRecDepth 20000
def NumOk (V : Lv) : Prop := ∀ l ∈ V, ∀ t ∈ l, t.no < U64
def DrIs (w : World) (V : Lv) (e : Ending) (w' : World) : Prop := ∃ T db mb lb, e = .returned (.pointer (some ⟨db, 0, none⟩)) ∧ DAt w T w' db mb (some ⟨lb, 0, none⟩, V.length, V.length) V (nums V)
/-- the levels while they are copied -/
def part (V : Lv) (k : Nat) : Lv := V.take k ++ List.replicate (V.length - k) []
theorem part_len {V : Lv} {k : Nat} (hk : k ≤ V.length) : (part V k).length = V.length := by simp [part]; omega
theorem part_zero (V : Lv) : part V 0 = List.replicate V.length [] := by simp [part]
theorem part_all (V : Lv) : part V V.length = V := by simp [part]
theorem part_set {V : Lv} {k : Nat} {l : List Tb} (h : V[k]? = some l) : (part V k).set k l = part V (k + 1) := by
  have hk := (List.getElem?_eq_some_iff.1 h).1
  unfold part
  have e : V.length - k = (V.length - (k + 1)) + 1 := by omega
  rw [List.set_append_right _ _ (by simp; omega), List.length_take, Nat.min_eq_left (by omega), Nat.sub_self, e, List.replicate_succ, List.set_cons_zero, List.take_add_one, h]
  simp
theorem nums_take {V : Lv} {k : Nat} {l : List Tb} (h : V[k]? = some l) : nums (V.take (k + 1)) = nums (V.take k) ++ l.map Tb.no := by
  unfold nums
  rw [List.take_add_one, h]
  simp
theorem nums_le {V : Lv} (h : Fits V) : ∀ k, (nums (V.take k)).length ≤ k * 1000000 := by
  intro k
  induction k with
  | zero => simp [nums]
  | succ k ih =>
    cases e : V[k]? with
    | none =>
      rw [List.take_of_length_le (by have := List.getElem?_eq_none_iff.1 e; omega)]
      rw [List.take_of_length_le (by have := List.getElem?_eq_none_iff.1 e; omega)] at ih
      exact Nat.le_trans ih (Nat.mul_le_mul_right _ (Nat.le_succ k))
    | some l =>
      rw [nums_take e, List.length_append, List.length_map]
      have := h.2 l (List.mem_of_getElem? e)
      rw [Nat.succ_mul]
      exact Nat.add_le_add ih this
set_option maxHeartbeats 4000000 in
theorem draft_any (vb : Nat) (V : Lv) (w : World) (h : VAt w vb V) (hn : NumOk V) : Calls Tryz.prog 57 #[.pointer (some ⟨vb, 0, none⟩)] w fun e w' => DrIs w V e w' := by
  have HV : Hid (VAt w vb V ∧ NumOk V) := ⟨h, hn⟩
  obtain ⟨hf, ⟨sa, sn, sc⟩, hz, hl⟩ := h
  have c0 := hz.2.1 0 _ rfl
  have e := hl.1
  change sn = V.length at e
  subst e
  simp only [svV] at c0
  have hv5 := hf.1
  have hvb : vb < w.heap.size := hz.1
  have k1 := run_make_row' (P := Tryz.prog) 30 34 (.slice none 0 0) 24 Tryz.underlying30 infoS rfl .i64 .i64 V.length (by omega) (by omega)
  have k3 := @run_makeMap Tryz.prog
  have g0 : (((w.alloc (Obj.cells (madeCells #[.slice none 0 0] V.length) 34)).alloc (Obj.map #[] 0)).alloc (Obj.cells #[.slice (some ⟨w.heap.size, 0, none⟩) V.length V.length, .map (some (w.heap.size + 1))] 120)).cell? ⟨vb, 0, none⟩ = some (.slice sa V.length sc) :=
    (((((Below.refl w.heap.size w).alloc (Nat.le_refl _) _).alloc (by simp) _).alloc (by simp; omega) _).cell (p := ⟨vb, 0, none⟩) hvb).trans c0
  clear hz hl hf hn
  go_enter Tryz.func57, Tryz.ntmps57
  go_wp2
  have HS : Hid (∃ T W, W = _ ∧ DAt w T W (w.heap.size + 1 + 1) (w.heap.size + 1) (some ⟨w.heap.size, 0, none⟩, V.length, V.length) (part V 0) (nums (V.take 0))) := ⟨_, _, rfl, by rw [part_zero]; exact draft_start w V.length hv5⟩
  clear g0 k1 k3
  go_loopw [21] (fun i wr => ∃ (k : Nat) (T : Nat → Nat), k ≤ V.length ∧ i = .int .i64 (k : Int) ∧ Hid (DAt w T wr (w.heap.size + 1 + 1) (w.heap.size + 1) (some ⟨w.heap.size, 0, none⟩, V.length, V.length) (part V k) (nums (V.take k)))) (fun i _ => V.length - (intOf i).toNat)
  case atStart =>
    obtain ⟨T, W, rfl, hd⟩ := HS.out
    exact ⟨0, T, Nat.zero_le _, rfl, hd⟩
  case round =>
    clear HS c0
    obtain ⟨k, T, hk, rfl, HD⟩ := hrel
    rename World => wr
    by_cases hlt : k < V.length
    · have q1 : (k : Int) < (V.length : Int) := by omega
      obtain ⟨l, hl⟩ : ∃ l, V[k]? = some l := ⟨_, List.getElem?_eq_getElem hlt⟩
      have HVl : Hid (V[k]? = some l) := hl
      have c0 := HD.out.box.2.1 0 _ rfl
      have c1 := HD.out.box.2.1 1 _ rfl
      simp only [svV] at c0
      have hll : l.length ≤ 1000000 := HV.out.1.1.2 l (List.mem_of_getElem? hl)
      have HC : Hid (Calls Tryz.prog 9 #[.pointer (some ⟨vb, 0, none⟩), .int .i64 (k : Int)] wr.drew fun e w' => NewIs wr.drew l e w') := by
        have := tables_any vb V (k : Int) wr.drew (HV.out.1.below HD.out.old.below.drew)
        rw [lev_in hl] at this
        exact this
      clear hl
      go_wp2
      go_region_with (go_at_call 9; go_loud (refine HC.out.mono ?_; rintro e w2 ⟨_, rfl, ⟨G, rfl, hG, hrow⟩, hb2'⟩; have hb2 : Below wr.heap.size wr w2 := ⟨hb2'.os, hb2'.tape, hb2'.output, hb2'.size, hb2'.block⟩; clear hb2'; have HN : Hid (w2.ownsRow 0 43 6 (.slice (some ⟨G, 0, none⟩) l.length l.length) l.length (kTb.cells l) ∧ wr.heap.size ≤ G ∧ Below wr.heap.size wr w2) := ⟨hrow, hG, hb2⟩; obtain ⟨u5, hu5, hfr5, ho5⟩ := (HD.out.below hb2).cell (by rw [part_len hk]; exact hlt) (List.getElem?_eq_getElem (by rw [part_len hk]; exact hlt)); have d0 := (HD.out.below hb2).box.2.1 0 _ rfl; simp only [svV] at d0; clear hrow hG hb2 ho5; simp only [svV]))
      all_goals
        have hz0 := (fun b hb => HD.out.old.zero b (.inr hb) : ∀ b, wr.heap.size ≤ b → T b = 0)
        have HX5 : Hid _ := (own_tag (k := k) hz0 HN.out.2.1 HN.out.1 HN.out.2.2 : OwnK kTb (10 + k) (upd T G (10 + k)) w2 (svV (some ⟨G, 0, none⟩, l.length, l.length)) l ∧ Goes (· = 10 + k) T wr (upd T G (10 + k)) w2)
        have HD5 : Hid _ := HD.out.setl HX5.out.2 HX5.out.1 (by rw [part_len hk]; exact hlt)
        rw [part_set HVl.out] at HD5
        simp only [svV] at HD5
        obtain ⟨W5, hW5⟩ : ∃ W, w2.setCell ⟨w.heap.size, k, none⟩ (.slice (some ⟨G, 0, none⟩) l.length l.length) = W := ⟨_, rfl⟩
        obtain ⟨T5, hT5⟩ : ∃ T5, upd T G (10 + k) = T5 := ⟨_, rfl⟩
        rw [hW5, hT5] at HD5
        rw [hW5]
        have z0 := HD5.out.1.box.2.1 0 _ rfl
        simp only [svV] at z0
        have z1 := HD5.out.2.1
        clear hW5 hT5 HX5 hz0 HN hu5 hfr5 d0 HC HD c0 c1 u5
        go_wp2
        go_loopw [41] (fun i wr => ∃ j : Nat, j ≤ l.length ∧ i = .int .i64 (j : Int) ∧ Hid (DAt w T5 wr (w.heap.size + 1 + 1) (w.heap.size + 1) (some ⟨w.heap.size, 0, none⟩, V.length, V.length) (part V (k + 1)) (nums (V.take k) ++ (l.take j).map Tb.no) ∧ OwnK kTb (10 + k) T5 wr (.slice (some ⟨G, 0, none⟩) l.length l.length) l)) (fun i _ => l.length - (intOf i).toNat)
        case atStart => exact ⟨0, Nat.zero_le _, rfl, by simpa using HD5.out.1, HD5.out.2.2⟩
        case round =>
          clear HD5 z0 z1
          obtain ⟨j, hj, rfl, HY⟩ := hrel
          rename World => wq
          by_cases hlj : j < l.length
          · have q2 : (j : Int) < (l.length : Int) := by omega
            obtain ⟨b, off, e1, hb, t, ht, y0, y1, y2, y3, y4, y5⟩ := (Ls.own (s := (some ⟨G, 0, none⟩, l.length, l.length)) HY.out.2).tb hlj
            cases e1
            rw [Nat.zero_add] at y0 y1 y2 y3 y4 y5
            have hb1 : Below wq.heap.size wq (wq.alloc (Obj.cells #[.int .u64 (t.no : Int), .int .i64 t.we, .int .i64 t.by_, .int .i64 t.en, .string t.le, .string t.gr] 43)) := (Below.refl _ _).alloc (Nat.le_refl _) _
            have x0 := (HY.out.1.below hb1).box.2.1 1 _ rfl
            have hlen : (nums (V.take k) ++ (l.take j).map Tb.no).length < 1000000000 := by
              have h1 := nums_le HV.out.1.1 k
              have h2 : k * 1000000 ≤ 5 * 1000000 := Nat.mul_le_mul_right _ (by omega)
              rw [List.length_append, List.length_map, List.length_take]
              have h3 : min j l.length ≤ 1000000 := Nat.le_trans (Nat.min_le_right _ _) hll
              omega
            obtain ⟨w7, hr7, hd7, hg7⟩ := (HY.out.1.below hb1.drew).put t.no (k : Int) (HV.out.2 l (List.mem_of_getElem? HVl.out) t (List.mem_of_getElem? ht)) (WalkArith.wf_i64 (by omega)) hlen
            have HW7 : Hid (DAt w T5 w7 (w.heap.size + 1 + 1) (w.heap.size + 1) (some ⟨w.heap.size, 0, none⟩, V.length, V.length) (part V (k + 1)) (nums (V.take k) ++ (l.take j).map Tb.no ++ [t.no]) ∧ OwnK kTb (10 + k) T5 w7 (.slice (some ⟨G, 0, none⟩) l.length l.length) l) := ⟨hd7, (HY.out.2.below hb1.drew).goes hg7 (by omega)⟩
            clear hd7 hlen hg7
            go_wp2
            go_region
            all_goals
              go_wp2
              go_roundw
              case rel =>
                refine ⟨j + 1, by omega, by go_num, ?_, ?_⟩
                · have e : (l.take (j + 1)).map Tb.no = (l.take j).map Tb.no ++ [t.no] := by rw [List.take_add_one, ht]; simp
                  rw [e, ← List.append_assoc]
                  exact HW7.out.1
                · exact HW7.out.2
              case measure => simp [intOf]; omega
          · have q2 : ¬ (j : Int) < (l.length : Int) := by omega
            have HK : Hid (j = l.length) := show j = l.length by omega
            go_wp2
            go_roundw
            case rel =>
              refine ⟨k + 1, T5, by omega, by go_num, ?_⟩
              have := HY.out.1
              rw [HK.out, List.take_length, ← nums_take HVl.out] at this
              exact this
            case measure => simp [intOf]; omega
    · have q1 : ¬ (k : Int) < (V.length : Int) := by omega
      have HK : Hid (k = V.length) := show k = V.length by omega
      go_wp2
      go_ret
      have := HD.out
      rw [HK.out, part_all, List.take_length] at this
      exact ⟨T, _, _, _, rfl, this⟩
end Vr
end Go.Proofs.YtilkjfbjlljnhaaGreat
