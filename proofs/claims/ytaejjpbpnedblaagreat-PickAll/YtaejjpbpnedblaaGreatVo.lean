import Derived.Test.YtaejjpbpnedblaaGreatVn
import Derived.Deep.RegionLaw
namespace Go.Proofs.YtaejjpbpnedblaaGreat
namespace Vr
open Go.Shelf Go.RowKit Go.Maps Go.ChangeMaps Go.MapKept Laws Irw Crw
set_option linter.unusedVariables false
set_option linter.unusedSimpArgs false
set_option maxRecDepth 20000
/-- what comes in may come in -/
def PiOk (l : List Pi) : Prop := ∀ p ∈ l, p.t.no < U64
def BrIs (w0 : World) (db mb lb n c : Nat) (V : Lv) (l : List Pi) (e : Ending) (w' : World) : Prop :=
  match bring V l with
  | .error x => e = .returned (.int .i64 x) ∧ Below w0.heap.size w0 w'
  | .ok V1 => e = .returned (.int .i64 0) ∧ ∃ T ns, DAt w0 T w' db mb (some ⟨lb, 0, none⟩, n, c) V1 ns
theorem BrIs.err {w0 : World} {db mb lb n c : Nat} {V : Lv} {l : List Pi} {w' : World} {x : Int} (h : bring V l = .error x) (hb : Below w0.heap.size w0 w') : BrIs w0 db mb lb n c V l (.returned (.int .i64 x)) w' := by
  unfold BrIs
  rw [h]
  exact ⟨rfl, hb⟩
theorem level_le : ∀ {V : Lv} {i : Nat} {l : List Tb}, V[i]? = some l → l.length ≤ (nums V).length
  | [], i, l, h => by simp at h
  | x :: V, 0, l, h => by
    simp at h
    subst h
    simp [nums]
  | x :: V, i + 1, l, h => by
    have := level_le (V := V) (i := i) (by simpa using h)
    simp only [nums, List.flatten_cons, List.map_append, List.length_append] at *
    omega
theorem DAt.lblt {w0 : World} {T : Nat → Nat} {w : World} {db mb lb n c : Nat} {V : Lv} {ns : List Nat} (h : DAt w0 T w db mb (some ⟨lb, 0, none⟩, n, c) V ns) : lb < w.heap.size := by
  obtain ⟨vs, l1, _⟩ := h.lvl
  exact (l1.1.lt lb rfl).2
theorem DAt.lbtag {w0 : World} {T : Nat → Nat} {w : World} {db mb lb n c : Nat} {V : Lv} {ns : List Nat} (h : DAt w0 T w db mb (some ⟨lb, 0, none⟩, n, c) V ns) : T lb = 3 := by
  obtain ⟨vs, l1, _⟩ := h.lvl
  exact l1.2 lb rfl
/-- what is read behind an append -/
theorem DAt.after {w0 : World} {T T' : Nat → Nat} {w w' : World} {db mb lb n c i : Nat} {V : Lv} {ns : List Nat} (h : DAt w0 T w db mb (some ⟨lb, 0, none⟩, n, c) V ns) (hg : Goes (· = 10 + i) T w T' w') (hi : i < V.length) : w'.cell? ⟨db, 0, none⟩ = some (.slice (some ⟨lb, 0, none⟩) n c) ∧ (∃ u, w'.cell? ⟨lb, i, none⟩ = some u) ∧ w'.frozen? ⟨lb, i, none⟩ = false := by
  obtain ⟨s, h1, h2, _⟩ := h.cell hi (List.getElem?_eq_getElem hi)
  obtain ⟨vs, l1, _⟩ := h.lvl
  have hlb : T lb = 3 := l1.2 lb rfl
  have hlt := (l1.1.lt lb rfl).2
  exact ⟨(h.box.goes hg (by rw [h.td]; omega)).2.1 0 _ rfl, ⟨_, (hg.cell hlt (by rw [hlb]; omega)).trans h1⟩, (World.frozen?_of_block (a := ⟨lb, i, none⟩) (hg.block lb hlt (by rw [hlb]; omega))).trans h2⟩
theorem bl_dn {b : Nat} {w0 w : World} (h : Below b w0 w) (n : Nat) : Below b w0 (w.drewN n) := ⟨h.os, h.tape, h.output, h.size, h.block⟩
theorem Ls.pi {w : World} {a : Option Addr} {n c : Nat} {l : List Pi} (h : Ls kPi w (a, n, c) l) {i : Nat} (hi : i < l.length) : ∃ b off, a = some ⟨b, off, none⟩ ∧ b < w.heap.size ∧ ∃ p, l[i]? = some p ∧ w.cell? ⟨b, off + i * 7, none⟩ = some (.int .i64 p.lv) ∧ w.cell? ⟨b, off + i * 7 + 1, none⟩ = some (.int .u64 (p.t.no : Int)) ∧ w.cell? ⟨b, off + i * 7 + 2, none⟩ = some (.int .i64 p.t.we) ∧ w.cell? ⟨b, off + i * 7 + 3, none⟩ = some (.int .i64 p.t.by_) ∧ w.cell? ⟨b, off + i * 7 + 4, none⟩ = some (.int .i64 p.t.en) ∧ w.cell? ⟨b, off + i * 7 + 5, none⟩ = some (.string p.t.le) ∧ w.cell? ⟨b, off + i * 7 + 6, none⟩ = some (.string p.t.gr) := by
  obtain ⟨b, off, e, hb, hc⟩ := h.cell (List.getElem?_eq_getElem hi)
  exact ⟨b, off, e, hb, _, List.getElem?_eq_getElem hi, hc 0 _ rfl, hc 1 _ rfl, hc 2 _ rfl, hc 3 _ rfl, hc 4 _ rfl, hc 5 _ rfl, hc 6 _ rfl⟩
set_option maxHeartbeats 2000000 in
theorem bringIn_any {w0 : World} {T : Nat → Nat} {w : World} {db mb lb n c : Nat} {V : Lv} {ns : List Nat} (ia : Option Addr) (ic : Nat) (l : List Pi) (h : DAt w0 T w db mb (some ⟨lb, 0, none⟩, n, c) V ns) (hmem : ∀ x, x ∈ ns ↔ x ∈ nums V) (hlen : ns.length = (nums V).length) (hl : Ls kPi w0 (ia, l.length, ic) l) (hno : PiOk l) (hsm : (nums V).length + l.length ≤ 1000000) (hv5 : V.length ≤ 5) :
    Calls Tryz.prog 91 #[.pointer (some ⟨db, 0, none⟩), .slice ia l.length ic] w fun e w' => BrIs w0 db mb lb n c V l e w' := by
  obtain ⟨iz, hi, hz0, hz1', hz2⟩ := info_parts infoTb
  have hn := h.len
  have hn5 : n ≤ 5 := by omega
  have HA : Hid (Ls kPi w0 (ia, l.length, ic) l ∧ PiOk l) := ⟨hl, hno⟩
  have HB : Hid (bring V (l.take 0) = .ok V ∧ DAt w0 T w db mb (some ⟨lb, 0, none⟩, n, c) V ns ∧ (∀ x, x ∈ ns ↔ x ∈ nums V) ∧ ns.length = (nums V).length + 0 ∧ (nums V).length = (nums V).length + 0 ∧ V.length = n) := ⟨by simp [bring], h, hmem, hlen, rfl, hn.symm⟩
  clear h hmem hlen hl hno hn
  have hl6 : l.length ≤ 1000000 := by omega
  go_enter Tryz.func91, Tryz.ntmps91
  go_wp2
  go_loopw [11] (fun i wr => ∃ (k : Nat) (T : Nat → Nat) (V1 : Lv) (ns : List Nat), k ≤ l.length ∧ i = .int .i64 (k : Int) ∧ Hid (bring V (l.take k) = .ok V1 ∧ DAt w0 T wr db mb (some ⟨lb, 0, none⟩, n, c) V1 ns ∧ (∀ x, x ∈ ns ↔ x ∈ nums V1) ∧ ns.length = (nums V).length + k ∧ (nums V1).length = (nums V).length + k ∧ V1.length = n)) (fun i _ => l.length - (intOf i).toNat)
  case atStart => exact ⟨0, T, V, ns, Nat.zero_le _, rfl, HB.out⟩
  case round =>
    clear HB
    obtain ⟨k, T, V1, ns, hk, rfl, HX⟩ := hrel
    rename World => wr
    by_cases hlt : k < l.length
    · have q1 : (k : Int) < (l.length : Int) := by omega
      obtain ⟨b, off, rfl, hb, p, hp, c0, c1, c2, c3, c4, c5, c6⟩ := (HA.out.1.below HX.out.2.1.old.below).pi hlt
      obtain ⟨lv, t⟩ := p
      simp only at c0 c1 c2 c3 c4 c5 c6
      have HP : Hid (l[k]? = some ⟨lv, t⟩) := hp
      have hpn : t.no < U64 := HA.out.2 _ (List.mem_of_getElem? hp)
      clear hp
      go_upto_region 4 with (fail)
      obtain ⟨W, hW⟩ : ∃ W, wr.alloc (Obj.cells #[.int .i64 lv, .int .u64 (t.no : Int), .int .i64 t.we, .int .i64 t.by_, .int .i64 t.en, .string t.le, .string t.gr] 78) = W := ⟨_, rfl⟩
      have HW : Hid (Below wr.heap.size wr W ∧ Zb W wr.heap.size [.int .i64 lv, .int .u64 (t.no : Int), .int .i64 t.we, .int .i64 t.by_, .int .i64 t.en, .string t.le, .string t.gr]) := by
        rw [← hW]
        exact ⟨(Below.refl _ _).alloc (Nat.le_refl _) _, Zb.new _ _ _⟩
      have HD : Hid (DAt w0 T W db mb (some ⟨lb, 0, none⟩, n, c) V1 ns) := HX.out.2.1.below HW.out.1
      have d0 := HD.out.box.2.1 0 _ rfl
      have d1 := HD.out.box.2.1 1 _ rfl
      simp only [svV] at d0
      have z0 := HW.out.2.2.1 0 _ rfl
      have z1 := HW.out.2.2.1 1 _ rfl
      have z2 := HW.out.2.2.1 2 _ rfl
      have z3 := HW.out.2.2.1 3 _ rfl
      have z4 := HW.out.2.2.1 4 _ rfl
      have z5 := HW.out.2.2.1 5 _ rfl
      have z6 := HW.out.2.2.1 6 _ rfl
      obtain ⟨bx, hbx⟩ : ∃ b, wr.heap.size = b := ⟨_, rfl⟩
      have HBX : Hid (T bx = 0) := HX.out.2.1.old.zero bx (.inr (by omega))
      obtain ⟨x, hx⟩ := HD.out.map.look' t.no hpn
      have HZB : Hid (Zb W bx [.int .i64 lv, .int .u64 (t.no : Int), .int .i64 t.we, .int .i64 t.by_, .int .i64 t.en, .string t.le, .string t.gr]) := by rw [← hbx]; exact HW.out.2
      rw [hW, hbx]
      rw [hbx] at z0 z1 z2 z3 z4 z5 z6
      clear c0 c1 c2 c3 c4 c5 c6 hW hbx
      by_cases hlv : 0 ≤ lv ∧ lv < n
      · have hd : decide (0 ≤ lv ∧ lv < (n : Int)) = true := by simpa using hlv
        have HI : Hid (∀ d, Calls Tryz.prog 84 #[.slice (some ⟨lb, 0, none⟩) n c, .int .i64 lv] (W.drewN d) fun e w' => e = .returned (.bool true) ∧ w' = W.drewN d) := fun d => by
          have := isLevel_any (some ⟨lb, 0, none⟩) n c lv (W.drewN d)
          rw [hd] at this
          exact this
        go_quiet ((go_at_call 84; exact Calls.quiet_of_same (HI.out _)))
        go_wp2
        have hx1 := hx (W.drewN (nq + 1)) rfl
        clear hx
        by_cases hin : t.no ∈ ns
        · have hdn : decide (t.no ∈ ns) = true := by simpa using hin
          rw [hdn] at hx1
          go_region
          all_goals
            go_wp2
            go_ret
            exact BrIs.err (bring_err HX.out.1 HP.out (bring_one_twice (by rw [HX.out.2.2.2.2.2]; exact hlv) ((HX.out.2.2.1 _).1 hin))) (bl_dn HD.out.old.below _)
        · have hdn : decide (t.no ∈ ns) = false := by simpa using hin
          rw [hdn] at hx1
          go_region
          all_goals
            cases hgl : ltS t.gr t.le with
            | true =>
              have hg2 : Op.bytesLess t.gr.toList t.le.toList = true := by rw [lt_ltS]; exact hgl
              go_wp2
              go_ret
              exact BrIs.err (bring_err HX.out.1 HP.out (bring_one_order (by rw [HX.out.2.2.2.2.2]; exact hlv) (fun hi => hin ((HX.out.2.2.1 _).2 hi)) hgl)) (bl_dn HD.out.old.below _)
            | false =>
              have hg2 : Op.bytesLess t.gr.toList t.le.toList = false := by rw [lt_ltS]; exact hgl
              go_wp2
              obtain ⟨w7, hr7, hd7, hg7⟩ := (HD.out.below (bl_dn (Below.refl _ _) (nq + 1 + 1))).put t.no lv hpn (WalkArith.wf_i64 (by omega)) (by rw [HX.out.2.2.2.1]; omega)
              have HW7 : Hid (DAt w0 T w7 db mb (some ⟨lb, 0, none⟩, n, c) V1 (ns ++ [t.no]) ∧ Goes (· = 4) T W T w7) := ⟨hd7, (Goes.below (t := (· = 4)) (bl_dn (Below.refl _ _) (nq + 1 + 1))).trans hg7⟩
              clear hd7 hg7
              go_region
              all_goals
                obtain ⟨i, rfl⟩ : ∃ i : Nat, lv = i := ⟨lv.toNat, by omega⟩
                have hi1 : i < V1.length := by rw [HX.out.2.2.2.2.2]; omega
                have hin1 : (i : Int) < (n : Int) := by omega
                obtain ⟨li, hli⟩ : ∃ li, V1[i]? = some li := ⟨_, List.getElem?_eq_getElem hi1⟩
                obtain ⟨⟨sa, sn, sc⟩, hc, hfr, hown⟩ := HW7.out.1.cell hi1 hli
                have hsn := (OwnK.sk hown).1
                change sn = li.length at hsn
                subst hsn
                simp only [svV] at hc hown
                have hll : li.length ≤ 1000000 := by
                  have h1 := level_le hli
                  rw [HX.out.2.2.2.2.1] at h1
                  omega
                have HO : Hid (OwnK kTb (10 + i) T w7 (.slice sa li.length sc) li ∧ V1[i]? = some li) := ⟨hown, hli⟩
                have HZ7 : Hid (Zb w7 bx [.int .i64 (i : Int), .int .u64 (t.no : Int), .int .i64 t.we, .int .i64 t.by_, .int .i64 t.en, .string t.le, .string t.gr]) := HZB.out.goes HW7.out.2 (by rw [HBX.out]; decide)
                have f0 := HW7.out.1.box.2.1 0 _ rfl
                simp only [svV] at f0
                have y0 := HZ7.out.2.1 0 _ rfl
                have y1 := HZ7.out.2.1 1 _ rfl
                have y2 := HZ7.out.2.1 2 _ rfl
                have y3 := HZ7.out.2.1 3 _ rfl
                have y4 := HZ7.out.2.1 4 _ rfl
                have y5 := HZ7.out.2.1 5 _ rfl
                have y6 := HZ7.out.2.1 6 _ rfl
                have hlblt : lb < w7.heap.size := HW7.out.1.lblt
                have hbA : Below w7.heap.size w7 (w7.alloc (Obj.cells #[.int .u64 (t.no : Int), .int .i64 t.we, .int .i64 t.by_, .int .i64 t.en, .string t.le, .string t.gr] 76)) := (Below.refl _ _).alloc (Nat.le_refl _) _
                have e1 := (hbA.cell (p := ⟨lb, i, none⟩) hlblt).trans hc
                have e2 := (hbA.cell (p := ⟨db, 0, none⟩) HW7.out.1.box.1).trans f0
                have e3 := (hbA.cell (p := ⟨bx, 0, none⟩) HZ7.out.1).trans y0
                clear hown hli hx1 z0 z1 z2 z3 z4 z5 z6 d0 d1 hr7
                go_wp2
                refine wp_region_held_drew (S := fun V => (V.cell? ⟨db, 0, none⟩ = some (.slice (some ⟨lb, 0, none⟩) n c) ∧ V.cell? ⟨bx, 0, none⟩ = some (.int .i64 (i : Int)) ∧ V.cell? ⟨bx, 1, none⟩ = some (.int .u64 (t.no : Int)) ∧ V.cell? ⟨bx, 2, none⟩ = some (.int .i64 t.we) ∧ V.cell? ⟨bx, 3, none⟩ = some (.int .i64 t.by_) ∧ V.cell? ⟨bx, 4, none⟩ = some (.int .i64 t.en) ∧ V.cell? ⟨bx, 5, none⟩ = some (.string t.le) ∧ V.cell? ⟨bx, 6, none⟩ = some (.string t.gr))) (by kernel_rfl) ?_ (fun hHeld => ?_)
                · exact ⟨f0, y0, y1, y2, y3, y4, y5, y6⟩
                refine wpAnyH_take (i := 0) (oi := { dst := some 51, op := Go.Op.move (Go.Operand.tmp 0), type := 159, pos := "draft.go:78", after := #[], guard := none }) (v := ?_) rfl (by kernel_rfl) (by kernel_rfl) (by kernel_rfl) (fun _ _ _ h => h) (Or.inl ⟨by rfl, ?_⟩) hHeld ?_
                rotate_left
                · (intro wq hSw; (try dsimp only at hSw); go_simp; try (with_reducible rfl))
                try simp only [Act.put, List.setIfInBounds_toArray, List.set_cons_zero, List.set_cons_succ]
                refine wpAnyH_take (i := 1) (oi := { dst := some 52, op := Go.Op.nilCheck (Go.Operand.tmp 51), type := 0, pos := "draft.go:78", after := #[{ on := 0, ground := Go.Ground.data }], guard := none }) (v := ?_) rfl (by kernel_rfl) (by kernel_rfl) (by kernel_rfl) (fun _ _ _ h => h) (Or.inl ⟨by rfl, ?_⟩) hHeld ?_
                rotate_left
                · (intro wq hSw; (try dsimp only at hSw); go_simp; try (with_reducible rfl))
                try simp only [Act.put, List.setIfInBounds_toArray, List.set_cons_zero, List.set_cons_succ]
                refine wpAnyH_take (i := 2) (oi := { dst := some 53, op := Go.Op.fieldAddr 165 (Go.Operand.tmp 52) 0, type := 0, pos := "draft.go:78", after := #[{ on := 1, ground := Go.Ground.data }], guard := none }) (v := ?_) rfl (by kernel_rfl) (by kernel_rfl) (by kernel_rfl) (fun _ _ _ h => h) (Or.inl ⟨by rfl, ?_⟩) hHeld ?_
                rotate_left
                · (intro wq hSw; (try dsimp only at hSw); go_simp; try (with_reducible rfl))
                try simp only [Act.put, List.setIfInBounds_toArray, List.set_cons_zero, List.set_cons_succ]
                refine wpAnyH_take (i := 3) (oi := { dst := some 54, op := Go.Op.load 30 (Go.Operand.tmp 53), type := 30, pos := "draft.go:78", after := #[{ on := 2, ground := Go.Ground.data }], guard := none }) (v := ?_) rfl (by kernel_rfl) (by kernel_rfl) (by kernel_rfl) (fun _ _ _ h => h) (Or.inl ⟨by rfl, ?_⟩) hHeld ?_
                rotate_left
                · (intro wq hSw; (try dsimp only at hSw); go_simp; try (with_reducible rfl))
                try simp only [Act.put, List.setIfInBounds_toArray, List.set_cons_zero, List.set_cons_succ]
                refine wpAnyH_take (i := 4) (oi := { dst := some 55, op := Go.Op.fieldAddr 78 (Go.Operand.tmp 6) 0, type := 0, pos := "draft.go:78", after := #[], guard := none }) (v := ?_) rfl (by kernel_rfl) (by kernel_rfl) (by kernel_rfl) (fun _ _ _ h => h) (Or.inl ⟨by rfl, ?_⟩) hHeld ?_
                rotate_left
                · (intro wq hSw; (try dsimp only at hSw); go_simp; try (with_reducible rfl))
                try simp only [Act.put, List.setIfInBounds_toArray, List.set_cons_zero, List.set_cons_succ]
                refine wpAnyH_take (i := 5) (oi := { dst := some 56, op := Go.Op.load 3 (Go.Operand.tmp 55), type := 3, pos := "draft.go:78", after := #[{ on := 4, ground := Go.Ground.data }], guard := none }) (v := ?_) rfl (by kernel_rfl) (by kernel_rfl) (by kernel_rfl) (fun _ _ _ h => h) (Or.inl ⟨by rfl, ?_⟩) hHeld ?_
                rotate_left
                · (intro wq hSw; (try dsimp only at hSw); go_simp; try (with_reducible rfl))
                try simp only [Act.put, List.setIfInBounds_toArray, List.set_cons_zero, List.set_cons_succ]
                refine wpAnyH_take (i := 6) (oi := { dst := some 57, op := Go.Op.move (Go.Operand.tmp 0), type := 159, pos := "draft.go:78", after := #[], guard := none }) (v := ?_) rfl (by kernel_rfl) (by kernel_rfl) (by kernel_rfl) (fun _ _ _ h => h) (Or.inl ⟨by rfl, ?_⟩) hHeld ?_
                rotate_left
                · (intro wq hSw; (try dsimp only at hSw); go_simp; try (with_reducible rfl))
                try simp only [Act.put, List.setIfInBounds_toArray, List.set_cons_zero, List.set_cons_succ]
                refine wpAnyH_take (i := 7) (oi := { dst := some 58, op := Go.Op.nilCheck (Go.Operand.tmp 57), type := 0, pos := "draft.go:78", after := #[{ on := 6, ground := Go.Ground.data }], guard := none }) (v := ?_) rfl (by kernel_rfl) (by kernel_rfl) (by kernel_rfl) (fun _ _ _ h => h) (Or.inl ⟨by rfl, ?_⟩) hHeld ?_
                rotate_left
                · (intro wq hSw; (try dsimp only at hSw); go_simp; try (with_reducible rfl))
                try simp only [Act.put, List.setIfInBounds_toArray, List.set_cons_zero, List.set_cons_succ]
                refine wpAnyH_take (i := 8) (oi := { dst := some 59, op := Go.Op.fieldAddr 165 (Go.Operand.tmp 58) 0, type := 0, pos := "draft.go:78", after := #[{ on := 7, ground := Go.Ground.data }], guard := none }) (v := ?_) rfl (by kernel_rfl) (by kernel_rfl) (by kernel_rfl) (fun _ _ _ h => h) (Or.inl ⟨by rfl, ?_⟩) hHeld ?_
                rotate_left
                · (intro wq hSw; (try dsimp only at hSw); go_simp; try (with_reducible rfl))
                try simp only [Act.put, List.setIfInBounds_toArray, List.set_cons_zero, List.set_cons_succ]
                refine wpAnyH_take (i := 9) (oi := { dst := some 60, op := Go.Op.load 30 (Go.Operand.tmp 59), type := 30, pos := "draft.go:78", after := #[{ on := 8, ground := Go.Ground.data }], guard := none }) (v := ?_) rfl (by kernel_rfl) (by kernel_rfl) (by kernel_rfl) (fun _ _ _ h => h) (Or.inl ⟨by rfl, ?_⟩) hHeld ?_
                rotate_left
                · (intro wq hSw; (try dsimp only at hSw); go_simp; try (with_reducible rfl))
                try simp only [Act.put, List.setIfInBounds_toArray, List.set_cons_zero, List.set_cons_succ]
                refine wpAnyH_take (i := 10) (oi := { dst := some 61, op := Go.Op.fieldAddr 78 (Go.Operand.tmp 6) 0, type := 0, pos := "draft.go:78", after := #[], guard := none }) (v := ?_) rfl (by kernel_rfl) (by kernel_rfl) (by kernel_rfl) (fun _ _ _ h => h) (Or.inl ⟨by rfl, ?_⟩) hHeld ?_
                rotate_left
                · (intro wq hSw; (try dsimp only at hSw); go_simp; try (with_reducible rfl))
                try simp only [Act.put, List.setIfInBounds_toArray, List.set_cons_zero, List.set_cons_succ]
                refine wpAnyH_take (i := 11) (oi := { dst := some 62, op := Go.Op.load 3 (Go.Operand.tmp 61), type := 3, pos := "draft.go:78", after := #[{ on := 10, ground := Go.Ground.data }], guard := none }) (v := ?_) rfl (by kernel_rfl) (by kernel_rfl) (by kernel_rfl) (fun _ _ _ h => h) (Or.inl ⟨by rfl, ?_⟩) hHeld ?_
                rotate_left
                · (intro wq hSw; (try dsimp only at hSw); go_simp; try (with_reducible rfl))
                try simp only [Act.put, List.setIfInBounds_toArray, List.set_cons_zero, List.set_cons_succ]
                refine wpAnyH_take (i := 12) (oi := { dst := some 63, op := Go.Op.indexAddr 30 (Go.Operand.tmp 60) (Go.Operand.tmp 62), type := 0, pos := "draft.go:78", after := #[{ on := 9, ground := Go.Ground.data }, { on := 11, ground := Go.Ground.data }], guard := none }) (v := ?_) rfl (by kernel_rfl) (by kernel_rfl) (by kernel_rfl) (fun _ _ _ h => h) (Or.inl ⟨by rfl, ?_⟩) hHeld ?_
                rotate_left
                · (intro wq hSw; (try dsimp only at hSw); go_simp; try (with_reducible rfl))
                try simp only [Act.put, List.setIfInBounds_toArray, List.set_cons_zero, List.set_cons_succ]
                refine wpAnyH_take (i := 14) (oi := { dst := some 65, op := Go.Op.fieldAddr 78 (Go.Operand.tmp 6) 1, type := 0, pos := "draft.go:78", after := #[], guard := none }) (v := ?_) rfl (by kernel_rfl) (by kernel_rfl) (by kernel_rfl) (fun _ _ _ h => h) (Or.inl ⟨by rfl, ?_⟩) hHeld ?_
                rotate_left
                · (intro wq hSw; (try dsimp only at hSw); go_simp; try (with_reducible rfl))
                try simp only [Act.put, List.setIfInBounds_toArray, List.set_cons_zero, List.set_cons_succ]
                refine wpAnyH_take (i := 15) (oi := { dst := some 66, op := Go.Op.load 76 (Go.Operand.tmp 65), type := 76, pos := "draft.go:78", after := #[{ on := 14, ground := Go.Ground.data }], guard := none }) (v := ?_) rfl (by kernel_rfl) (by kernel_rfl) (by kernel_rfl) (fun _ _ _ h => h) (Or.inl ⟨by rfl, ?_⟩) hHeld ?_
                rotate_left
                · (intro wq hSw; (try dsimp only at hSw); go_simp; try (with_reducible rfl))
                try simp only [Act.put, List.setIfInBounds_toArray, List.set_cons_zero, List.set_cons_succ]
                refine wpAnyH_ready (rs := [13, 16]) (by kernel_rfl) (by simp) ?_
                refine (AllReadyH.cons (o := { dst := some 64, op := Go.Op.load 58 (Go.Operand.tmp 63), type := 58, pos := "draft.go:78", after := #[{ on := 12, ground := Go.Ground.data }], guard := none }) rfl (fun K hK => ?_) (AllReadyH.cons (o := { dst := some 67, op := Go.Op.buildSlice 58 1 #[(0, Go.Operand.tmp 66)], type := 58, pos := "draft.go:78", after := #[{ on := 15, ground := Go.Ground.data }], guard := none }) rfl (fun K hK => ?_) AllReadyH.nil))
                · skip
                  go_simp
                  refine hK.out _ _ ?_ (fun hHeld => ?_)
                  · exact hHeld
                  clear hK K
                  try simp only [Act.put, List.setIfInBounds_toArray, List.set_cons_zero, List.set_cons_succ]
                  refine wpAnyH_ready (rs := [16]) (by kernel_rfl) (by simp) ?_
                  refine AllReadyH.cons (o := { dst := some 67, op := Go.Op.buildSlice 58 1 #[(0, Go.Operand.tmp 66)], type := 58, pos := "draft.go:78", after := #[{ on := 15, ground := Go.Ground.data }], guard := none }) rfl (fun K hK => ?_) AllReadyH.nil
                  go_simp
                  refine hK.out _ _ ?_ (fun hHeld => ?_)
                  · exact ⟨e2, (HZ7.out.below hbA).2.1 0 _ rfl, (HZ7.out.below hbA).2.1 1 _ rfl, (HZ7.out.below hbA).2.1 2 _ rfl, (HZ7.out.below hbA).2.1 3 _ rfl, (HZ7.out.below hbA).2.1 4 _ rfl, (HZ7.out.below hbA).2.1 5 _ rfl, (HZ7.out.below hbA).2.1 6 _ rfl⟩
                  clear hK K
                  try simp only [Act.put, List.setIfInBounds_toArray, List.set_cons_zero, List.set_cons_succ]
                  refine wpAnyH_ready (rs := [17]) (by kernel_rfl) (by simp) ?_
                  refine AllReadyH.cons (o := { dst := some 68, op := Go.Op.call { callee := Go.Callee.builtin Go.Builtin.append, args := #[Go.Operand.tmp 64, Go.Operand.tmp 67], argTypes := #[58, 58] }, type := 58, pos := "draft.go:78", after := #[{ on := 13, ground := Go.Ground.data }, { on := 16, ground := Go.Ground.data }], guard := none }) rfl (fun K hK => ?_) AllReadyH.nil
                  (refine step_appK kTb _ (by rfl) (.tmp 64) (.tmp 67) 58 (by rfl) iz Tryz.underlying58 hi hz0 hz1' hz2 (10 + i) T (.slice sa li.length sc) li (by simp [Act.eval, Act.put]) (HO.out.1.below hbA.drew) (some ⟨w7.heap.size, 0, none⟩) 1 1 [t] (by simp [Act.eval, Act.put]) rfl (by simp) ((isK_new w7 t).below (Below.refl _ _).drew) (by simp; omega) ?_; intro a' c' T' w9 ho9 hg9; have HY : Hid (OwnK kTb (10 + i) T' w9 (.slice a' (li.length + 1) c') (li ++ [t]) ∧ Goes (· = 10 + i) T w7 T' w9) := ⟨ho9, (Goes.below (t := (· = 10 + i)) hbA.drew).trans hg9⟩; clear ho9 hg9; obtain ⟨x0, ⟨x1, x2⟩, x3⟩ := HW7.out.1.after HY.out.2 hi1; simp only [List.length_singleton])
                  refine hK.out _ _ ?_ (fun hHeld => ?_)
                  · exact ⟨x0, (HZ7.out.goes HY.out.2 (by rw [HBX.out]; omega)).2.1 0 _ rfl, (HZ7.out.goes HY.out.2 (by rw [HBX.out]; omega)).2.1 1 _ rfl, (HZ7.out.goes HY.out.2 (by rw [HBX.out]; omega)).2.1 2 _ rfl, (HZ7.out.goes HY.out.2 (by rw [HBX.out]; omega)).2.1 3 _ rfl, (HZ7.out.goes HY.out.2 (by rw [HBX.out]; omega)).2.1 4 _ rfl, (HZ7.out.goes HY.out.2 (by rw [HBX.out]; omega)).2.1 5 _ rfl, (HZ7.out.goes HY.out.2 (by rw [HBX.out]; omega)).2.1 6 _ rfl⟩
                  clear hK K
                  try simp only [Act.put, List.setIfInBounds_toArray, List.set_cons_zero, List.set_cons_succ]
                  refine wpAnyH_ready (rs := [18]) (by kernel_rfl) (by simp) ?_
                  refine AllReadyH.cons (o := { dst := some 69, op := Go.Op.indexAddr 30 (Go.Operand.tmp 54) (Go.Operand.tmp 56), type := 0, pos := "draft.go:78", after := #[{ on := 3, ground := Go.Ground.data }, { on := 5, ground := Go.Ground.data }, { on := 0, ground := Go.Ground.phase }, { on := 1, ground := Go.Ground.phase }, { on := 2, ground := Go.Ground.phase }, { on := 3, ground := Go.Ground.phase }, { on := 4, ground := Go.Ground.phase }, { on := 5, ground := Go.Ground.phase }, { on := 6, ground := Go.Ground.phase }, { on := 7, ground := Go.Ground.phase }, { on := 8, ground := Go.Ground.phase }, { on := 9, ground := Go.Ground.phase }, { on := 10, ground := Go.Ground.phase }, { on := 11, ground := Go.Ground.phase }, { on := 12, ground := Go.Ground.phase }, { on := 13, ground := Go.Ground.phase }, { on := 14, ground := Go.Ground.phase }, { on := 15, ground := Go.Ground.phase }, { on := 16, ground := Go.Ground.phase }, { on := 17, ground := Go.Ground.phase }], guard := none }) rfl (fun K hK => ?_) AllReadyH.nil
                  go_simp
                  refine hK.out _ _ ?_ (fun hHeld => ?_)
                  · exact hHeld
                  clear hK K
                  try simp only [Act.put, List.setIfInBounds_toArray, List.set_cons_zero, List.set_cons_succ]
                  refine wpAnyH_ready (rs := [19]) (by kernel_rfl) (by simp) ?_
                  refine AllReadyH.cons (o := { dst := none, op := Go.Op.store 58 (Go.Operand.tmp 69) (Go.Operand.tmp 68), type := 0, pos := "draft.go:78", after := #[{ on := 18, ground := Go.Ground.data }, { on := 17, ground := Go.Ground.data }, { on := 17, ground := Go.Ground.chain }, { on := 0, ground := Go.Ground.phase }, { on := 1, ground := Go.Ground.phase }, { on := 2, ground := Go.Ground.phase }, { on := 3, ground := Go.Ground.phase }, { on := 4, ground := Go.Ground.phase }, { on := 5, ground := Go.Ground.phase }, { on := 6, ground := Go.Ground.phase }, { on := 7, ground := Go.Ground.phase }, { on := 8, ground := Go.Ground.phase }, { on := 9, ground := Go.Ground.phase }, { on := 10, ground := Go.Ground.phase }, { on := 11, ground := Go.Ground.phase }, { on := 12, ground := Go.Ground.phase }, { on := 13, ground := Go.Ground.phase }, { on := 14, ground := Go.Ground.phase }, { on := 15, ground := Go.Ground.phase }, { on := 16, ground := Go.Ground.phase }, { on := 17, ground := Go.Ground.phase }], guard := none }) rfl (fun K hK => ?_) AllReadyH.nil
                  go_simp
                  refine hK.out _ _ ?_ (fun hHeld => ?_)
                  · exact ⟨(World.cell?_setCell_other _ _ _ _ (by intro e; have h1 := HW7.out.1.lbtag; have h2 := HW7.out.1.td; injection e with e1 e2; rw [e1] at h1; omega)).trans x0, ((HZ7.out.goes HY.out.2 (by rw [HBX.out]; omega)).other (w' := w9) _ _ (fun e => by have h1 := HW7.out.1.lbtag; rw [← e, HBX.out] at h1; cases h1)).2.1 0 _ rfl, ((HZ7.out.goes HY.out.2 (by rw [HBX.out]; omega)).other (w' := w9) _ _ (fun e => by have h1 := HW7.out.1.lbtag; rw [← e, HBX.out] at h1; cases h1)).2.1 1 _ rfl, ((HZ7.out.goes HY.out.2 (by rw [HBX.out]; omega)).other (w' := w9) _ _ (fun e => by have h1 := HW7.out.1.lbtag; rw [← e, HBX.out] at h1; cases h1)).2.1 2 _ rfl, ((HZ7.out.goes HY.out.2 (by rw [HBX.out]; omega)).other (w' := w9) _ _ (fun e => by have h1 := HW7.out.1.lbtag; rw [← e, HBX.out] at h1; cases h1)).2.1 3 _ rfl, ((HZ7.out.goes HY.out.2 (by rw [HBX.out]; omega)).other (w' := w9) _ _ (fun e => by have h1 := HW7.out.1.lbtag; rw [← e, HBX.out] at h1; cases h1)).2.1 4 _ rfl, ((HZ7.out.goes HY.out.2 (by rw [HBX.out]; omega)).other (w' := w9) _ _ (fun e => by have h1 := HW7.out.1.lbtag; rw [← e, HBX.out] at h1; cases h1)).2.1 5 _ rfl, ((HZ7.out.goes HY.out.2 (by rw [HBX.out]; omega)).other (w' := w9) _ _ (fun e => by have h1 := HW7.out.1.lbtag; rw [← e, HBX.out] at h1; cases h1)).2.1 6 _ rfl⟩
                  clear hK K
                  try simp only [Act.put, List.setIfInBounds_toArray, List.set_cons_zero, List.set_cons_succ]
                  refine wpAnyH_done (by kernel_rfl) ?_ _
                  go_wp2
                  go_roundw
                  case rel =>
                    have h1 := HW7.out.1.setl HY.out.2 HY.out.1 hi1 (s := (a', li.length + 1, c'))
                    have e5 := bring_one_ok (V := V1) (p := ⟨(i : Int), t⟩) ⟨Int.natCast_nonneg i, by rw [HX.out.2.2.2.2.2]; exact hin1⟩ (fun hx => hin ((HX.out.2.2.1 _).2 hx)) hgl
                    simp only [Int.toNat_natCast] at e5
                    have e6 := nums_modify (V := V1) (i := i) (t := t) hi1
                    refine ⟨k + 1, T', V1.set i (li ++ [t]), ns ++ [t.no], by omega, by go_num, ?_, h1.1, fun x => ?_, ?_, ?_, ?_⟩
                    · rw [← modify_set HO.out.2]
                      exact bring_step HX.out.1 HP.out e5
                    · rw [← modify_set HO.out.2, e6.mem_iff, List.mem_append, List.mem_append, HX.out.2.2.1]
                    · rw [List.length_append, HX.out.2.2.2.1]; simp; omega
                    · rw [← modify_set HO.out.2, e6.length_eq, List.length_append, HX.out.2.2.2.2.1]; simp; omega
                    · rw [List.length_set]; exact HX.out.2.2.2.2.2
                  case measure => simp [intOf]; omega
                · skip
                  go_simp
                  refine hK.out _ _ ?_ (fun hHeld => ?_)
                  · exact ⟨e2, (HZ7.out.below hbA).2.1 0 _ rfl, (HZ7.out.below hbA).2.1 1 _ rfl, (HZ7.out.below hbA).2.1 2 _ rfl, (HZ7.out.below hbA).2.1 3 _ rfl, (HZ7.out.below hbA).2.1 4 _ rfl, (HZ7.out.below hbA).2.1 5 _ rfl, (HZ7.out.below hbA).2.1 6 _ rfl⟩
                  clear hK K
                  try simp only [Act.put, List.setIfInBounds_toArray, List.set_cons_zero, List.set_cons_succ]
                  refine wpAnyH_ready (rs := [13]) (by kernel_rfl) (by simp) ?_
                  refine AllReadyH.cons (o := { dst := some 64, op := Go.Op.load 58 (Go.Operand.tmp 63), type := 58, pos := "draft.go:78", after := #[{ on := 12, ground := Go.Ground.data }], guard := none }) rfl (fun K hK => ?_) AllReadyH.nil
                  go_simp
                  refine hK.out _ _ ?_ (fun hHeld => ?_)
                  · exact hHeld
                  clear hK K
                  try simp only [Act.put, List.setIfInBounds_toArray, List.set_cons_zero, List.set_cons_succ]
                  refine wpAnyH_ready (rs := [17]) (by kernel_rfl) (by simp) ?_
                  refine AllReadyH.cons (o := { dst := some 68, op := Go.Op.call { callee := Go.Callee.builtin Go.Builtin.append, args := #[Go.Operand.tmp 64, Go.Operand.tmp 67], argTypes := #[58, 58] }, type := 58, pos := "draft.go:78", after := #[{ on := 13, ground := Go.Ground.data }, { on := 16, ground := Go.Ground.data }], guard := none }) rfl (fun K hK => ?_) AllReadyH.nil
                  (refine step_appK kTb _ (by rfl) (.tmp 64) (.tmp 67) 58 (by rfl) iz Tryz.underlying58 hi hz0 hz1' hz2 (10 + i) T (.slice sa li.length sc) li (by simp [Act.eval, Act.put]) (HO.out.1.below hbA.drew) (some ⟨w7.heap.size, 0, none⟩) 1 1 [t] (by simp [Act.eval, Act.put]) rfl (by simp) ((isK_new w7 t).below (Below.refl _ _).drew) (by simp; omega) ?_; intro a' c' T' w9 ho9 hg9; have HY : Hid (OwnK kTb (10 + i) T' w9 (.slice a' (li.length + 1) c') (li ++ [t]) ∧ Goes (· = 10 + i) T w7 T' w9) := ⟨ho9, (Goes.below (t := (· = 10 + i)) hbA.drew).trans hg9⟩; clear ho9 hg9; obtain ⟨x0, ⟨x1, x2⟩, x3⟩ := HW7.out.1.after HY.out.2 hi1; simp only [List.length_singleton])
                  refine hK.out _ _ ?_ (fun hHeld => ?_)
                  · exact ⟨x0, (HZ7.out.goes HY.out.2 (by rw [HBX.out]; omega)).2.1 0 _ rfl, (HZ7.out.goes HY.out.2 (by rw [HBX.out]; omega)).2.1 1 _ rfl, (HZ7.out.goes HY.out.2 (by rw [HBX.out]; omega)).2.1 2 _ rfl, (HZ7.out.goes HY.out.2 (by rw [HBX.out]; omega)).2.1 3 _ rfl, (HZ7.out.goes HY.out.2 (by rw [HBX.out]; omega)).2.1 4 _ rfl, (HZ7.out.goes HY.out.2 (by rw [HBX.out]; omega)).2.1 5 _ rfl, (HZ7.out.goes HY.out.2 (by rw [HBX.out]; omega)).2.1 6 _ rfl⟩
                  clear hK K
                  try simp only [Act.put, List.setIfInBounds_toArray, List.set_cons_zero, List.set_cons_succ]
                  refine wpAnyH_ready (rs := [18]) (by kernel_rfl) (by simp) ?_
                  refine AllReadyH.cons (o := { dst := some 69, op := Go.Op.indexAddr 30 (Go.Operand.tmp 54) (Go.Operand.tmp 56), type := 0, pos := "draft.go:78", after := #[{ on := 3, ground := Go.Ground.data }, { on := 5, ground := Go.Ground.data }, { on := 0, ground := Go.Ground.phase }, { on := 1, ground := Go.Ground.phase }, { on := 2, ground := Go.Ground.phase }, { on := 3, ground := Go.Ground.phase }, { on := 4, ground := Go.Ground.phase }, { on := 5, ground := Go.Ground.phase }, { on := 6, ground := Go.Ground.phase }, { on := 7, ground := Go.Ground.phase }, { on := 8, ground := Go.Ground.phase }, { on := 9, ground := Go.Ground.phase }, { on := 10, ground := Go.Ground.phase }, { on := 11, ground := Go.Ground.phase }, { on := 12, ground := Go.Ground.phase }, { on := 13, ground := Go.Ground.phase }, { on := 14, ground := Go.Ground.phase }, { on := 15, ground := Go.Ground.phase }, { on := 16, ground := Go.Ground.phase }, { on := 17, ground := Go.Ground.phase }], guard := none }) rfl (fun K hK => ?_) AllReadyH.nil
                  go_simp
                  refine hK.out _ _ ?_ (fun hHeld => ?_)
                  · exact hHeld
                  clear hK K
                  try simp only [Act.put, List.setIfInBounds_toArray, List.set_cons_zero, List.set_cons_succ]
                  refine wpAnyH_ready (rs := [19]) (by kernel_rfl) (by simp) ?_
                  refine AllReadyH.cons (o := { dst := none, op := Go.Op.store 58 (Go.Operand.tmp 69) (Go.Operand.tmp 68), type := 0, pos := "draft.go:78", after := #[{ on := 18, ground := Go.Ground.data }, { on := 17, ground := Go.Ground.data }, { on := 17, ground := Go.Ground.chain }, { on := 0, ground := Go.Ground.phase }, { on := 1, ground := Go.Ground.phase }, { on := 2, ground := Go.Ground.phase }, { on := 3, ground := Go.Ground.phase }, { on := 4, ground := Go.Ground.phase }, { on := 5, ground := Go.Ground.phase }, { on := 6, ground := Go.Ground.phase }, { on := 7, ground := Go.Ground.phase }, { on := 8, ground := Go.Ground.phase }, { on := 9, ground := Go.Ground.phase }, { on := 10, ground := Go.Ground.phase }, { on := 11, ground := Go.Ground.phase }, { on := 12, ground := Go.Ground.phase }, { on := 13, ground := Go.Ground.phase }, { on := 14, ground := Go.Ground.phase }, { on := 15, ground := Go.Ground.phase }, { on := 16, ground := Go.Ground.phase }, { on := 17, ground := Go.Ground.phase }], guard := none }) rfl (fun K hK => ?_) AllReadyH.nil
                  go_simp
                  refine hK.out _ _ ?_ (fun hHeld => ?_)
                  · exact ⟨(World.cell?_setCell_other _ _ _ _ (by intro e; have h1 := HW7.out.1.lbtag; have h2 := HW7.out.1.td; injection e with e1 e2; rw [e1] at h1; omega)).trans x0, ((HZ7.out.goes HY.out.2 (by rw [HBX.out]; omega)).other (w' := w9) _ _ (fun e => by have h1 := HW7.out.1.lbtag; rw [← e, HBX.out] at h1; cases h1)).2.1 0 _ rfl, ((HZ7.out.goes HY.out.2 (by rw [HBX.out]; omega)).other (w' := w9) _ _ (fun e => by have h1 := HW7.out.1.lbtag; rw [← e, HBX.out] at h1; cases h1)).2.1 1 _ rfl, ((HZ7.out.goes HY.out.2 (by rw [HBX.out]; omega)).other (w' := w9) _ _ (fun e => by have h1 := HW7.out.1.lbtag; rw [← e, HBX.out] at h1; cases h1)).2.1 2 _ rfl, ((HZ7.out.goes HY.out.2 (by rw [HBX.out]; omega)).other (w' := w9) _ _ (fun e => by have h1 := HW7.out.1.lbtag; rw [← e, HBX.out] at h1; cases h1)).2.1 3 _ rfl, ((HZ7.out.goes HY.out.2 (by rw [HBX.out]; omega)).other (w' := w9) _ _ (fun e => by have h1 := HW7.out.1.lbtag; rw [← e, HBX.out] at h1; cases h1)).2.1 4 _ rfl, ((HZ7.out.goes HY.out.2 (by rw [HBX.out]; omega)).other (w' := w9) _ _ (fun e => by have h1 := HW7.out.1.lbtag; rw [← e, HBX.out] at h1; cases h1)).2.1 5 _ rfl, ((HZ7.out.goes HY.out.2 (by rw [HBX.out]; omega)).other (w' := w9) _ _ (fun e => by have h1 := HW7.out.1.lbtag; rw [← e, HBX.out] at h1; cases h1)).2.1 6 _ rfl⟩
                  clear hK K
                  try simp only [Act.put, List.setIfInBounds_toArray, List.set_cons_zero, List.set_cons_succ]
                  refine wpAnyH_done (by kernel_rfl) ?_ _
                  go_wp2
                  go_roundw
                  case rel =>
                    have h1 := HW7.out.1.setl HY.out.2 HY.out.1 hi1 (s := (a', li.length + 1, c'))
                    have e5 := bring_one_ok (V := V1) (p := ⟨(i : Int), t⟩) ⟨Int.natCast_nonneg i, by rw [HX.out.2.2.2.2.2]; exact hin1⟩ (fun hx => hin ((HX.out.2.2.1 _).2 hx)) hgl
                    simp only [Int.toNat_natCast] at e5
                    have e6 := nums_modify (V := V1) (i := i) (t := t) hi1
                    refine ⟨k + 1, T', V1.set i (li ++ [t]), ns ++ [t.no], by omega, by go_num, ?_, h1.1, fun x => ?_, ?_, ?_, ?_⟩
                    · rw [← modify_set HO.out.2]
                      exact bring_step HX.out.1 HP.out e5
                    · rw [← modify_set HO.out.2, e6.mem_iff, List.mem_append, List.mem_append, HX.out.2.2.1]
                    · rw [List.length_append, HX.out.2.2.2.1]; simp; omega
                    · rw [← modify_set HO.out.2, e6.length_eq, List.length_append, HX.out.2.2.2.2.1]; simp; omega
                    · rw [List.length_set]; exact HX.out.2.2.2.2.2
                  case measure => simp [intOf]; omega
      · have hd : decide (0 ≤ lv ∧ lv < (n : Int)) = false := by simpa using hlv
        have HI : Hid (∀ d, Calls Tryz.prog 84 #[.slice (some ⟨lb, 0, none⟩) n c, .int .i64 lv] (W.drewN d) fun e w' => e = .returned (.bool false) ∧ w' = W.drewN d) := fun d => by
          have := isLevel_any (some ⟨lb, 0, none⟩) n c lv (W.drewN d)
          rw [hd] at this
          exact this
        go_quiet ((go_at_call 84; exact Calls.quiet_of_same (HI.out _)))
        go_wp2
        go_ret
        exact BrIs.err (bring_err HX.out.1 HP.out (bring_one_level (by rw [HX.out.2.2.2.2.2]; exact hlv))) (bl_dn HD.out.old.below _)
    · have q1 : ¬ (k : Int) < (l.length : Int) := by omega
      have HK : Hid (k = l.length) := show k = l.length by omega
      go_wp2
      go_ret
      have h1 := HX.out.1
      rw [HK.out, List.take_length] at h1
      unfold BrIs
      rw [h1]
      exact ⟨rfl, T, ns, HX.out.2.1⟩
end Vr
end Go.Proofs.YtaejjpbpnedblaaGreat
