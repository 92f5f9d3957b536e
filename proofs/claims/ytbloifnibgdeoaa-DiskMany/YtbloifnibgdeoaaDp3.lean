import Derived.Test.YtbloifnibgdeoaaDKno
import Derived.Test.YtbloifnibgdeoaaRLtw
import Derived.Deep.CutRange
import Derived.Deep.CutBlock
import Derived.Deep.DeepCutAuto
import Derived.Deep.RegionHeld3
import Derived.BigQuiet
namespace Go.Proofs.Ytbloifnibgdeoaa
namespace Dsk
open Go.RowKit Go.Shelf Go.Maps Go.Sort Byt Laws
set_option linter.unusedVariables false
set_option maxRecDepth 100000
set_option linter.unusedSimpArgs false
attribute [local go_sem ↓] Go.wp_at_zero Go.wp_at_succ

theorem HIDZ {p : Prop} (h : p) : Hid p := h
theorem keepZ {w W w' : World} (hb : Below W.heap.size W w') (h : Below w.heap.size w W) : Below w.heap.size w w' := h.trans (hb.mono h.size)
set_option maxHeartbeats 4000000 in
theorem does_any {T S : Nat → Nat} {w : World} {d mb : Nat} {fb : Nat → Nat} {m : Dm} {rb : Nat} {rm : Rm} {c P : Nat} (h : Pair T S w d mb fb m rb rm c) (hc : c ≤ 1000) (p0 : w.cell? ⟨P, 0, none⟩ = some (.pointer (some ⟨d, 0, none⟩))) (p1 : w.cell? ⟨P, 1, none⟩ = some (.pointer (some ⟨rb, 0, none⟩))) (pt : ts T S P = 0) (o : OpD) (ho : OpOk w o) (t1 : o.data ≠ [] → ∀ ad, o.da = some ad → ts T S ad.block = 0) (t2 : o.keep ≠ [] → ∀ ad, o.ka = some ad → ts T S ad.block = 0) (hkl : o.keep.length ≤ 1048576) :
    Calls Try.prog 11 #[.pointer (some ⟨P, 0, none⟩), .agg #[.int .i64 o.kind, .string o.name, .string o.too, .slice o.da o.data.length o.dc, .int .i64 o.x, .int .i64 o.y, .int .i64 o.z, .slice o.ka o.keep.length o.kc]] w fun e w' => e = .returned (.bool true) ∧ DoIs T S w w' d mb rb (c + 1) := by
  have HP : Hid (Pair T S w d mb fb m rb rm c) := h
  have HO : Hid (OpOk w o) := ho
  have HT : Hid ((o.data ≠ [] → ∀ ad, o.da = some ad → ts T S ad.block = 0) ∧ (o.keep ≠ [] → ∀ ad, o.ka = some ad → ts T S ad.block = 0) ∧ ts T S P = 0 ∧ w.cell? ⟨P, 0, none⟩ = some (.pointer (some ⟨d, 0, none⟩)) ∧ w.cell? ⟨P, 1, none⟩ = some (.pointer (some ⟨rb, 0, none⟩))) := ⟨t1, t2, pt, p0, p1⟩
  clear h ho t1 t2 pt p0 p1
  obtain ⟨i8, hi8, hy0, hy1, hy2⟩ := info_parts infoB
  obtain ⟨i9, hi9, hz0, hz1, hz2⟩ := info_parts infoJ
  go_enter Try.func11, Try.ntmps11
  go_upto_region 5 with (first
    | (at_builtin; refine wpList_cloneB _ (by rfl) (.const (.slice none 0 0)) (.tmp 14) 30 (by rfl) 5 i8 Try.underlying30 hi8 hy0 hy1 hy2 (by rfl) o.da o.data.length o.dc o.data (by rfl) rfl HO.out.dn (HO.out.isB.below ((Below.refl _ _).alloc (Nat.le_refl _) _)) HO.out.big.1 ?_; intro a1 c1 W1 hn1 hb1; have H1 : Hid (New 5 (w.alloc (.cells #[.int .i64 o.kind, .string o.name, .string o.too, .slice o.da o.data.length o.dc, .int .i64 o.x, .int .i64 o.y, .int .i64 o.z, .slice o.ka o.keep.length o.kc] 33)).heap.size W1 a1 c1 o.data ∧ Below (w.alloc (.cells #[.int .i64 o.kind, .string o.name, .string o.too, .slice o.da o.data.length o.dc, .int .i64 o.x, .int .i64 o.y, .int .i64 o.z, .slice o.ka o.keep.length o.kc] 33)).heap.size (w.alloc (.cells #[.int .i64 o.kind, .string o.name, .string o.too, .slice o.da o.data.length o.dc, .int .i64 o.x, .int .i64 o.y, .int .i64 o.z, .slice o.ka o.keep.length o.kc] 33)) W1) := ⟨hn1, hb1⟩; have k7 : W1.cell? ⟨w.heap.size, 7, none⟩ = some (.slice o.ka o.keep.length o.kc) := (H1.out.2.cell (p := ⟨w.heap.size, 7, none⟩) (by simp)).trans (by rw [Go.Joins.cell_alloc_mark_at w _ _ _ _ _ rfl]; rfl); clear hn1 hb1)
    | (at_builtin; refine wpList_cloneI2 _ (by rfl) (.const (.slice none 0 0)) (.tmp 17) 31 (by rfl) 3 i9 Try.underlying31 hi9 hz0 hz1 hz2 (by rfl) o.ka o.keep.length o.kc o.keep (by rfl) rfl HO.out.kn ((HO.out.ints.below ((Below.refl _ _).alloc (Nat.le_refl _) _)).below H1.out.2) hkl ?_; intro a2 c2 W2 hn2 hb2; have H2 : Hid (NInts W1.heap.size W2 a2 c2 o.keep ∧ Below W1.heap.size W1 W2) := ⟨hn2, hb2⟩; clear hn2 hb2)
    | fail)
  have HA0 : Hid (Below w.heap.size w (w.alloc (.cells #[.int .i64 o.kind, .string o.name, .string o.too, .slice o.da o.data.length o.dc, .int .i64 o.x, .int .i64 o.y, .int .i64 o.z, .slice o.ka o.keep.length o.kc] 33))) := (Below.refl _ _).alloc (Nat.le_refl _) _
  have HB1 : Hid (Below w.heap.size w W1) := HA0.out.trans (H1.out.2.mono HA0.out.size)
  have HB2 : Hid (Below w.heap.size w W2) := HB1.out.trans (H2.out.2.mono HB1.out.size)
  have lt0 : w.heap.size < (w.alloc (.cells #[.int .i64 o.kind, .string o.name, .string o.too, .slice o.da o.data.length o.dc, .int .i64 o.x, .int .i64 o.y, .int .i64 o.z, .slice o.ka o.keep.length o.kc] 33)).heap.size := by simp
  have D2 : Hid (Dn T S w T S W2 d mb fb m rb rm P w.heap.size o a1 a2 c) := Dn.first HP.out HT.out.2.2.2.1 HT.out.2.2.2.2 HT.out.2.2.1 HO.out HT.out.1 HT.out.2.1 HB2.out (Nat.le_refl _) (Nat.lt_of_lt_of_le lt0 (Nat.le_trans H1.out.2.size H2.out.2.size)) (fun t ht => by
      rw [H2.out.2.cell (p := ⟨w.heap.size, t, none⟩) (Nat.lt_of_lt_of_le lt0 H1.out.2.size), H1.out.2.cell (p := ⟨w.heap.size, t, none⟩) lt0, Go.Joins.cell_alloc_mark_at w _ _ _ _ _ rfl]
      match t, ht with
      | 0, _ => rfl
      | 1, _ => rfl
      | 2, _ => rfl
      | 3, _ => rfl
      | 4, _ => rfl
      | 5, _ => rfl
      | 6, _ => rfl
      | 7, _ => rfl) ((Hb.of (H1.out.1.lower (Nat.zero_le _))).isB.below H2.out.2) H2.out.1.ints (fun ad e => by subst e; exact ⟨Nat.le_trans (Nat.le_of_lt lt0) (H1.out.1.row.lt ad.block rfl).1, Nat.lt_of_lt_of_le (H1.out.1.row.lt ad.block rfl).2 H2.out.2.size⟩) (fun ad e => Nat.le_trans HB1.out.size (H2.out.1.base ad e))
  have C1 : Hid ((a1 = none → c1 = 0) ∧ o.data.length ≤ c1 ∧ c1 ≤ 9223372036854775807) := ⟨(Hb.of (H1.out.1.lower (Nat.zero_le _))).cap, (Hb.of (H1.out.1.lower (Nat.zero_le _))).le, (Hb.of (H1.out.1.lower (Nat.zero_le _))).max⟩
  have C2 : Hid (o.keep.length ≤ c2 ∧ c2 ≤ 9223372036854775807 ∧ ∀ ad, a2 = some ad → ts T S ad.block = 0) := ⟨H2.out.1.le, H2.out.1.max, fun ad e => HP.out.two.fresh (Nat.le_trans HB1.out.size (H2.out.1.base ad e))⟩
  clear HA0 HB1 HB2 lt0 H1 H2 HT HP k7
  generalize w.heap.size = ob at *
  have k0 : W2.cell? ⟨ob, 0, none⟩ = some (.int .i64 o.kind) := D2.out.dz.ob.at_ 0 (by omega)
  go_upto_block 0 with fail
  generalize (Value.agg #[.int .i64 o.kind, .string o.name, .string o.too, .slice o.da o.data.length o.dc, .int .i64 o.x, .int .i64 o.y, .int .i64 o.z, .slice o.ka o.keep.length o.kc]) = vv at *
  go_cut [7, 8] from 9 (fun e f wx => ∃ (z : Int) (T' S' : Nat → Nat) (fb' : Nat → Nat) (m' : Dm) (rm' : Rm), e = .int .i64 z ∧ f = .int .i64 z ∧ Hid (Dn T S w T' S' wx d mb fb' m' rb rm' P ob o a1 a2 (c + 1)))
  case first =>
    obtain ⟨φ, hrl⟩ := D2.out.rel
    have HR : Hid (Rel φ m rm) := hrl
    have hch : m.ch.length ≤ 1000 := by have := D2.out.szs; omega
    have hcr : rm.ch.length ≤ 1000 := by rw [HR.out.len]; exact hch
    have hnw : m.now.length ≤ 8392000 := by have := D2.out.szs; omega
    have hnr : rm.now.length ≤ 8392000 := by rw [HR.out.now, mp_length]; exact hnw
    have hfl : rm.fl.length ≤ 8392000 := by have := D2.out.szs; omega
    have hus : m.used ≤ 20000000000000000 := by have := D2.out.dz.two.pd.used_le; omega
    clear hrl
    by_cases e1 : o.kind = 1
    · as_aux_lemma =>
        have q1 := e1
        have HHI : Hid (Hist m) := D2.out.hist
        go_wp2_with fail
        have hS1 := (D2.out.dz.below (Below.refl _ _).drew).cells
        go_region_held3 (fun W => W.cell? ⟨P, 0, none⟩ = some (.pointer (some ⟨d, 0, none⟩)) ∧ W.cell? ⟨P, 1, none⟩ = some (.pointer (some ⟨rb, 0, none⟩)) ∧ W.cell? ⟨ob, 1, none⟩ = some (.string o.name) ∧ W.cell? ⟨ob, 2, none⟩ = some (.string o.too) ∧ W.cell? ⟨ob, 3, none⟩ = some (.slice o.da o.data.length o.dc) ∧ W.cell? ⟨ob, 4, none⟩ = some (.int .i64 o.x) ∧ W.cell? ⟨ob, 5, none⟩ = some (.int .i64 o.y) ∧ W.cell? ⟨ob, 6, none⟩ = some (.int .i64 o.z) ∧ W.cell? ⟨ob, 7, none⟩ = some (.slice o.ka o.keep.length o.kc)) (first | assumption | exact hS1)
          (first | (go_at_call 23; go_loud (refine (create_any (D2.out.dz.below (Below.refl _ _).drew).two.pd o.name HO.out.nm.1 (by omega)).mono ?_; rintro e w5 ⟨rfl, T5, fb5, hp5, hg5⟩; have D5 : Hid (Dz T5 S w5 d mb fb5 (m.create o.name).2 rb rm P ob o a1 a2 ∧ Go2 T S T5 S W2.drew w5) := (D2.out.dz.below (Below.refl _ _).drew).prog hp5 hg5; have hS5 := D5.out.1.cells; clear hp5 hg5)))
        clear hS1
        go_wp2_with fail
        have hS7 := (D5.out.1.below (Below.refl _ _).drew).cells
        go_region_held3 (fun W => W.cell? ⟨P, 0, none⟩ = some (.pointer (some ⟨d, 0, none⟩)) ∧ W.cell? ⟨P, 1, none⟩ = some (.pointer (some ⟨rb, 0, none⟩)) ∧ W.cell? ⟨ob, 1, none⟩ = some (.string o.name) ∧ W.cell? ⟨ob, 2, none⟩ = some (.string o.too) ∧ W.cell? ⟨ob, 3, none⟩ = some (.slice o.da o.data.length o.dc) ∧ W.cell? ⟨ob, 4, none⟩ = some (.int .i64 o.x) ∧ W.cell? ⟨ob, 5, none⟩ = some (.int .i64 o.y) ∧ W.cell? ⟨ob, 6, none⟩ = some (.int .i64 o.z) ∧ W.cell? ⟨ob, 7, none⟩ = some (.slice o.ka o.keep.length o.kc)) (first | assumption | exact hS7)
          (first | (go_at_call 24; go_loud (refine (rcreate_any (D5.out.1.below (Below.refl _ _).drew).two.re o.name HO.out.nm.1 (by omega) (by omega)).mono ?_; rintro e w6 ⟨rfl, S6, hr6, hg6⟩; have D6 : Hid (Dz T5 S6 w6 d mb fb5 (m.create o.name).2 rb (rm.create o.name).2 P ob o a1 a2 ∧ Go2 T5 S T5 S6 w5.drew w6) := (D5.out.1.below (Below.refl _ _).drew).ref hr6 hg6; have hS6 := D6.out.1.cells; clear hr6 hg6)))
        clear hS5 hS7
        have D7 : Hid (Dn T S w T5 S6 w6 d mb fb5 (m.create o.name).2 rb (rm.create o.name).2 P ob o a1 a2 (c + 1)) := D2.out.step D6.out.1 (((Go2.below (Below.refl _ _).drew).trans D5.out.2).trans ((Go2.below (Below.refl _ _).drew).trans D6.out.2)) ((HR.out.create D2.out.hist o.name).2) ((D2.out.hist.create o.name).hist) ⟨(Add.create D2.out.hist o.name).1, (D2.out.hist.create o.name).len.2, rfl_create rm o.name⟩
        clear D5 D6 D2 hS6
        go_wp2_with fail
        go_meet
        case rel => exact ⟨_, T5, S6, fb5, _, _, rfl, by rw [(HR.out.create HHI.out o.name).1], D7.out⟩
    by_cases e2 : o.kind = 2
    · as_aux_lemma =>
        have q2 := e2
        have HHI : Hid (Hist m) := D2.out.hist
        have hbd := HO.out.big.1
        have hur : rm.used ≤ 20000000000000000 := by rw [HR.out.used]; exact hus
        go_wp2_with fail
        have hS1 := (D2.out.dz.below (Below.refl _ _).drew).cells
        go_region_held3 (fun W => W.cell? ⟨P, 0, none⟩ = some (.pointer (some ⟨d, 0, none⟩)) ∧ W.cell? ⟨P, 1, none⟩ = some (.pointer (some ⟨rb, 0, none⟩)) ∧ W.cell? ⟨ob, 1, none⟩ = some (.string o.name) ∧ W.cell? ⟨ob, 2, none⟩ = some (.string o.too) ∧ W.cell? ⟨ob, 3, none⟩ = some (.slice o.da o.data.length o.dc) ∧ W.cell? ⟨ob, 4, none⟩ = some (.int .i64 o.x) ∧ W.cell? ⟨ob, 5, none⟩ = some (.int .i64 o.y) ∧ W.cell? ⟨ob, 6, none⟩ = some (.int .i64 o.z) ∧ W.cell? ⟨ob, 7, none⟩ = some (.slice o.ka o.keep.length o.kc)) (first | assumption | exact hS1)
          (first | (go_at_call 27; go_loud (refine (append_any (D2.out.dz.below (Below.refl _ _).drew).two.pd o.name HO.out.nm.1 a1 c1 o.data (D2.out.dz.below (Below.refl _ _).drew).cp C1.out.1 C1.out.2.1 C1.out.2.2 (fun ad e => (ts0.1 (D2.out.dz.tc ad e).1).1) (by omega)).mono ?_; rintro e w5 ⟨rfl, T5, hp5, hg5⟩; have D5 : Hid (Dz T5 S w5 d mb fb (m.append o.name o.data).2 rb rm P ob o a1 a2 ∧ Go2 T S T5 S W2.drew w5) := (D2.out.dz.below (Below.refl _ _).drew).prog hp5 hg5; have hS5 := D5.out.1.cells; clear hp5 hg5)))
        clear hS1
        go_wp2_with fail
        have hS7 := (D5.out.1.below (Below.refl _ _).drew).cells
        go_region_held3 (fun W => W.cell? ⟨P, 0, none⟩ = some (.pointer (some ⟨d, 0, none⟩)) ∧ W.cell? ⟨P, 1, none⟩ = some (.pointer (some ⟨rb, 0, none⟩)) ∧ W.cell? ⟨ob, 1, none⟩ = some (.string o.name) ∧ W.cell? ⟨ob, 2, none⟩ = some (.string o.too) ∧ W.cell? ⟨ob, 3, none⟩ = some (.slice o.da o.data.length o.dc) ∧ W.cell? ⟨ob, 4, none⟩ = some (.int .i64 o.x) ∧ W.cell? ⟨ob, 5, none⟩ = some (.int .i64 o.y) ∧ W.cell? ⟨ob, 6, none⟩ = some (.int .i64 o.z) ∧ W.cell? ⟨ob, 7, none⟩ = some (.slice o.ka o.keep.length o.kc)) (first | assumption | exact hS7)
          (first | (go_at_call 40; go_loud (refine (rappend2_any (D5.out.1.below (Below.refl _ _).drew).two.re o.name HO.out.nm.1 o.da o.dc o.data (D5.out.1.below (Below.refl _ _).drew).isB HO.out.dn HO.out.dl HO.out.dm (fun hne ad e => (ts0.1 ((D5.out.1.below (Below.refl _ _).drew).td hne ad e).1).2) (by omega)).mono ?_; rintro e w6 ⟨rfl, S6, hr6, hg6⟩; have D6 : Hid (Dz T5 S6 w6 d mb fb (m.append o.name o.data).2 rb (rm.append o.name o.data).2 P ob o a1 a2 ∧ Go2 T5 S T5 S6 w5.drew w6) := (D5.out.1.below (Below.refl _ _).drew).ref hr6 hg6; have hS6 := D6.out.1.cells; clear hr6 hg6)))
        clear hS5 hS7
        have D7 : Hid (Dn T S w T5 S6 w6 d mb fb (m.append o.name o.data).2 rb (rm.append o.name o.data).2 P ob o a1 a2 (c + 1)) := D2.out.step D6.out.1 (((Go2.below (Below.refl _ _).drew).trans D5.out.2).trans ((Go2.below (Below.refl _ _).drew).trans D6.out.2)) ⟨φ, (HR.out.append o.name o.data).2⟩ (HHI.out.append o.name o.data).hist ⟨(Add.append HHI.out o.name o.data).1, (HHI.out.append o.name o.data).len.2, by rw [rfl_append]; omega⟩
        clear D5 D6 D2 hS6
        go_wp2_with fail
        go_meet
        case rel => exact ⟨_, T5, S6, fb, _, _, rfl, by rw [(HR.out.append o.name o.data).1], D7.out⟩
    by_cases e3 : o.kind = 3
    · as_aux_lemma =>
        have q3 := e3
        have HHI : Hid (Hist m) := D2.out.hist
        go_wp2_with fail
        have hS1 := (D2.out.dz.below (Below.refl _ _).drew).cells
        go_region_held3 (fun W => W.cell? ⟨P, 0, none⟩ = some (.pointer (some ⟨d, 0, none⟩)) ∧ W.cell? ⟨P, 1, none⟩ = some (.pointer (some ⟨rb, 0, none⟩)) ∧ W.cell? ⟨ob, 1, none⟩ = some (.string o.name) ∧ W.cell? ⟨ob, 2, none⟩ = some (.string o.too) ∧ W.cell? ⟨ob, 3, none⟩ = some (.slice o.da o.data.length o.dc) ∧ W.cell? ⟨ob, 4, none⟩ = some (.int .i64 o.x) ∧ W.cell? ⟨ob, 5, none⟩ = some (.int .i64 o.y) ∧ W.cell? ⟨ob, 6, none⟩ = some (.int .i64 o.z) ∧ W.cell? ⟨ob, 7, none⟩ = some (.slice o.ka o.keep.length o.kc)) (first | assumption | exact hS1)
          (first | (go_at_call 28; go_loud (refine (sync_any (D2.out.dz.below (Below.refl _ _).drew).two.pd o.name HO.out.nm.1).mono ?_; rintro e w5 ⟨rfl, hp5, hg5⟩; have D5 : Hid (Dz T S w5 d mb fb (m.sync o.name).2 rb rm P ob o a1 a2 ∧ Go2 T S T S W2.drew w5) := (D2.out.dz.below (Below.refl _ _).drew).prog hp5 hg5; have hS5 := D5.out.1.cells; clear hp5 hg5)))
        clear hS1
        go_wp2_with fail
        have hS7 := (D5.out.1.below (Below.refl _ _).drew).cells
        go_region_held3 (fun W => W.cell? ⟨P, 0, none⟩ = some (.pointer (some ⟨d, 0, none⟩)) ∧ W.cell? ⟨P, 1, none⟩ = some (.pointer (some ⟨rb, 0, none⟩)) ∧ W.cell? ⟨ob, 1, none⟩ = some (.string o.name) ∧ W.cell? ⟨ob, 2, none⟩ = some (.string o.too) ∧ W.cell? ⟨ob, 3, none⟩ = some (.slice o.da o.data.length o.dc) ∧ W.cell? ⟨ob, 4, none⟩ = some (.int .i64 o.x) ∧ W.cell? ⟨ob, 5, none⟩ = some (.int .i64 o.y) ∧ W.cell? ⟨ob, 6, none⟩ = some (.int .i64 o.z) ∧ W.cell? ⟨ob, 7, none⟩ = some (.slice o.ka o.keep.length o.kc)) (first | assumption | exact hS7)
          (first | (go_at_call 41; go_loud (refine (rsync_any (D5.out.1.below (Below.refl _ _).drew).two.re o.name HO.out.nm.1).mono ?_; rintro e w6 ⟨rfl, S6, hr6, hg6⟩; have D6 : Hid (Dz T S6 w6 d mb fb (m.sync o.name).2 rb (rm.sync o.name).2 P ob o a1 a2 ∧ Go2 T S T S6 w5.drew w6) := (D5.out.1.below (Below.refl _ _).drew).ref hr6 hg6; have hS6 := D6.out.1.cells; clear hr6 hg6)))
        clear hS5 hS7
        have D7 : Hid (Dn T S w T S6 w6 d mb fb (m.sync o.name).2 rb (rm.sync o.name).2 P ob o a1 a2 (c + 1)) := D2.out.step D6.out.1 (((Go2.below (Below.refl _ _).drew).trans D5.out.2).trans ((Go2.below (Below.refl _ _).drew).trans D6.out.2)) (⟨φ, (HR.out.sync o.name).2⟩) ((D2.out.hist.sync o.name).hist) ⟨(Add.sync m o.name).1, (D2.out.hist.sync o.name).len.2, by rw [rfl_sync]; omega⟩
        clear D5 D6 D2 hS6
        go_wp2_with fail
        go_meet
        case rel => exact ⟨_, T, S6, fb, _, _, rfl, by rw [(HR.out.sync o.name).1], D7.out⟩
    by_cases e4 : o.kind = 4
    · as_aux_lemma =>
        have q4 := e4
        have HHI : Hid (Hist m) := D2.out.hist
        go_wp2_with fail
        have hS1 := (D2.out.dz.below (Below.refl _ _).drew).cells
        go_region_held3 (fun W => W.cell? ⟨P, 0, none⟩ = some (.pointer (some ⟨d, 0, none⟩)) ∧ W.cell? ⟨P, 1, none⟩ = some (.pointer (some ⟨rb, 0, none⟩)) ∧ W.cell? ⟨ob, 1, none⟩ = some (.string o.name) ∧ W.cell? ⟨ob, 2, none⟩ = some (.string o.too) ∧ W.cell? ⟨ob, 3, none⟩ = some (.slice o.da o.data.length o.dc) ∧ W.cell? ⟨ob, 4, none⟩ = some (.int .i64 o.x) ∧ W.cell? ⟨ob, 5, none⟩ = some (.int .i64 o.y) ∧ W.cell? ⟨ob, 6, none⟩ = some (.int .i64 o.z) ∧ W.cell? ⟨ob, 7, none⟩ = some (.slice o.ka o.keep.length o.kc)) (first | assumption | exact hS1)
          (first | (go_at_call 30; go_loud (refine (rename_any (D2.out.dz.below (Below.refl _ _).drew).two.pd o.name o.too HO.out.nm.1 HO.out.nm.2 (by omega) (by omega)).mono ?_; rintro e w5 ⟨rfl, T5, hp5, hg5⟩; have D5 : Hid (Dz T5 S w5 d mb fb (m.rename o.name o.too).2 rb rm P ob o a1 a2 ∧ Go2 T S T5 S W2.drew w5) := (D2.out.dz.below (Below.refl _ _).drew).prog hp5 hg5; have hS5 := D5.out.1.cells; clear hp5 hg5)))
        clear hS1
        go_wp2_with fail
        have hS7 := (D5.out.1.below (Below.refl _ _).drew).cells
        go_region_held3 (fun W => W.cell? ⟨P, 0, none⟩ = some (.pointer (some ⟨d, 0, none⟩)) ∧ W.cell? ⟨P, 1, none⟩ = some (.pointer (some ⟨rb, 0, none⟩)) ∧ W.cell? ⟨ob, 1, none⟩ = some (.string o.name) ∧ W.cell? ⟨ob, 2, none⟩ = some (.string o.too) ∧ W.cell? ⟨ob, 3, none⟩ = some (.slice o.da o.data.length o.dc) ∧ W.cell? ⟨ob, 4, none⟩ = some (.int .i64 o.x) ∧ W.cell? ⟨ob, 5, none⟩ = some (.int .i64 o.y) ∧ W.cell? ⟨ob, 6, none⟩ = some (.int .i64 o.z) ∧ W.cell? ⟨ob, 7, none⟩ = some (.slice o.ka o.keep.length o.kc)) (first | assumption | exact hS7)
          (first | (go_at_call 42; go_loud (refine (rrename_any (D5.out.1.below (Below.refl _ _).drew).two.re o.name o.too HO.out.nm.1 HO.out.nm.2 (by omega) (by omega)).mono ?_; rintro e w6 ⟨rfl, S6, hr6, hg6⟩; have D6 : Hid (Dz T5 S6 w6 d mb fb (m.rename o.name o.too).2 rb (rm.rename o.name o.too).2 P ob o a1 a2 ∧ Go2 T5 S T5 S6 w5.drew w6) := (D5.out.1.below (Below.refl _ _).drew).ref hr6 hg6; have hS6 := D6.out.1.cells; clear hr6 hg6)))
        clear hS5 hS7
        have D7 : Hid (Dn T S w T5 S6 w6 d mb fb (m.rename o.name o.too).2 rb (rm.rename o.name o.too).2 P ob o a1 a2 (c + 1)) := D2.out.step D6.out.1 (((Go2.below (Below.refl _ _).drew).trans D5.out.2).trans ((Go2.below (Below.refl _ _).drew).trans D6.out.2)) (⟨φ, (HR.out.rename D2.out.hist o.name o.too).2⟩) ((D2.out.hist.rename o.name o.too).hist) ⟨(Add.rename D2.out.hist o.name o.too).1, (D2.out.hist.rename o.name o.too).len.2, by rw [rfl_rename]; omega⟩
        clear D5 D6 D2 hS6
        go_wp2_with fail
        go_meet
        case rel => exact ⟨_, T5, S6, fb, _, _, rfl, by rw [(HR.out.rename HHI.out o.name o.too).1], D7.out⟩
    by_cases e5 : o.kind = 5
    · as_aux_lemma =>
        have q5 := e5
        have HHI : Hid (Hist m) := D2.out.hist
        go_wp2_with fail
        have hS1 := (D2.out.dz.below (Below.refl _ _).drew).cells
        go_region_held3 (fun W => W.cell? ⟨P, 0, none⟩ = some (.pointer (some ⟨d, 0, none⟩)) ∧ W.cell? ⟨P, 1, none⟩ = some (.pointer (some ⟨rb, 0, none⟩)) ∧ W.cell? ⟨ob, 1, none⟩ = some (.string o.name) ∧ W.cell? ⟨ob, 2, none⟩ = some (.string o.too) ∧ W.cell? ⟨ob, 3, none⟩ = some (.slice o.da o.data.length o.dc) ∧ W.cell? ⟨ob, 4, none⟩ = some (.int .i64 o.x) ∧ W.cell? ⟨ob, 5, none⟩ = some (.int .i64 o.y) ∧ W.cell? ⟨ob, 6, none⟩ = some (.int .i64 o.z) ∧ W.cell? ⟨ob, 7, none⟩ = some (.slice o.ka o.keep.length o.kc)) (first | assumption | exact hS1)
          (first | (go_at_call 31; go_loud (refine (delete_any (D2.out.dz.below (Below.refl _ _).drew).two.pd o.name HO.out.nm.1 (by omega) (by omega)).mono ?_; rintro e w5 ⟨rfl, T5, hp5, hg5⟩; have D5 : Hid (Dz T5 S w5 d mb fb (m.delete o.name).2 rb rm P ob o a1 a2 ∧ Go2 T S T5 S W2.drew w5) := (D2.out.dz.below (Below.refl _ _).drew).prog hp5 hg5; have hS5 := D5.out.1.cells; clear hp5 hg5)))
        clear hS1
        go_wp2_with fail
        have hS7 := (D5.out.1.below (Below.refl _ _).drew).cells
        go_region_held3 (fun W => W.cell? ⟨P, 0, none⟩ = some (.pointer (some ⟨d, 0, none⟩)) ∧ W.cell? ⟨P, 1, none⟩ = some (.pointer (some ⟨rb, 0, none⟩)) ∧ W.cell? ⟨ob, 1, none⟩ = some (.string o.name) ∧ W.cell? ⟨ob, 2, none⟩ = some (.string o.too) ∧ W.cell? ⟨ob, 3, none⟩ = some (.slice o.da o.data.length o.dc) ∧ W.cell? ⟨ob, 4, none⟩ = some (.int .i64 o.x) ∧ W.cell? ⟨ob, 5, none⟩ = some (.int .i64 o.y) ∧ W.cell? ⟨ob, 6, none⟩ = some (.int .i64 o.z) ∧ W.cell? ⟨ob, 7, none⟩ = some (.slice o.ka o.keep.length o.kc)) (first | assumption | exact hS7)
          (first | (go_at_call 43; go_loud (refine (rdelete_any (D5.out.1.below (Below.refl _ _).drew).two.re o.name HO.out.nm.1 (by omega)).mono ?_; rintro e w6 ⟨rfl, S6, hr6, hg6⟩; have D6 : Hid (Dz T5 S6 w6 d mb fb (m.delete o.name).2 rb (rm.delete o.name).2 P ob o a1 a2 ∧ Go2 T5 S T5 S6 w5.drew w6) := (D5.out.1.below (Below.refl _ _).drew).ref hr6 hg6; have hS6 := D6.out.1.cells; clear hr6 hg6)))
        clear hS5 hS7
        have D7 : Hid (Dn T S w T5 S6 w6 d mb fb (m.delete o.name).2 rb (rm.delete o.name).2 P ob o a1 a2 (c + 1)) := D2.out.step D6.out.1 (((Go2.below (Below.refl _ _).drew).trans D5.out.2).trans ((Go2.below (Below.refl _ _).drew).trans D6.out.2)) (⟨φ, (HR.out.delete D2.out.hist o.name).2⟩) ((D2.out.hist.delete o.name).hist) ⟨(Add.delete m o.name).1, (D2.out.hist.delete o.name).len.2, by rw [rfl_delete]; omega⟩
        clear D5 D6 D2 hS6
        go_wp2_with fail
        go_meet
        case rel => exact ⟨_, T5, S6, fb, _, _, rfl, by rw [(HR.out.delete HHI.out o.name).1], D7.out⟩
    by_cases e6 : o.kind = 6
    · as_aux_lemma =>
        have q6 := e6
        have HHI : Hid (Hist m) := D2.out.hist
        have g0 := D2.out.dz.p0
        go_wp2_with fail
        refine (syncDir_any D2.out.dz.two.pd).mono ?_
        rintro e w5 ⟨rfl, hp5, hg5⟩
        have D5 : Hid (Dz T S w5 d mb fb m.syncDir.2 rb rm P ob o a1 a2 ∧ Go2 T S T S W2 w5) := D2.out.dz.prog hp5 hg5
        have hS5 := D5.out.1.cells
        clear hp5 hg5
        have g1 := D5.out.1.p1
        go_wp2_with fail
        refine (rsyncDir_any D5.out.1.two.re).mono ?_
        rintro e w6 ⟨rfl, S6, hr6, hg6⟩
        have D6 : Hid (Dz T S6 w6 d mb fb m.syncDir.2 rb rm.syncDir.2 P ob o a1 a2 ∧ Go2 T S T S6 w5 w6) := D5.out.1.ref hr6 hg6
        have hS6 := D6.out.1.cells
        clear hr6 hg6
        have D7 : Hid (Dn T S w T S6 w6 d mb fb m.syncDir.2 rb rm.syncDir.2 P ob o a1 a2 (c + 1)) := D2.out.step D6.out.1 (D5.out.2.trans D6.out.2) ⟨φ, HR.out.syncDir.2⟩ HHI.out.syncDir ⟨(Add.syncDir m).1, syncDir_ch m, by rw [rfl_syncDir]; omega⟩
        clear D5 D6 D2 hS6
        go_wp2_with fail
        go_meet
        case rel => exact ⟨_, T, S6, fb, _, _, rfl, by rw [HR.out.syncDir.1], D7.out⟩
    by_cases e7 : o.kind = 7
    · as_aux_lemma =>
        have q7 := e7
        have HRD : Hid (∀ W, Re S W rb rm → Calls Try.prog 45 #[.pointer (some ⟨rb, 0, none⟩), .string o.name] W fun e w' => ∃ a' c', e = .returned (.tuple #[.slice a' (m.read o.name).1.length c', .int .i64 (m.read o.name).2]) ∧ New 5 W.heap.size w' a' c' (m.read o.name).1 ∧ Below W.heap.size W w') := fun W h => by
          have z := rread_any h o.name HO.out.nm.1
          rw [HR.out.read o.name] at z
          exact z
        go_wp2_with fail
        have hS1 := (D2.out.dz.below (Below.refl _ _).drew).cells
        go_region_held3 (fun W => W.cell? ⟨P, 0, none⟩ = some (.pointer (some ⟨d, 0, none⟩)) ∧ W.cell? ⟨P, 1, none⟩ = some (.pointer (some ⟨rb, 0, none⟩)) ∧ W.cell? ⟨ob, 1, none⟩ = some (.string o.name) ∧ W.cell? ⟨ob, 2, none⟩ = some (.string o.too) ∧ W.cell? ⟨ob, 3, none⟩ = some (.slice o.da o.data.length o.dc) ∧ W.cell? ⟨ob, 4, none⟩ = some (.int .i64 o.x) ∧ W.cell? ⟨ob, 5, none⟩ = some (.int .i64 o.y) ∧ W.cell? ⟨ob, 6, none⟩ = some (.int .i64 o.z) ∧ W.cell? ⟨ob, 7, none⟩ = some (.slice o.ka o.keep.length o.kc)) (first | assumption | exact hS1)
          (first | (go_at_call 29; go_loud (refine (read_any (D2.out.dz.below (Below.refl _ _).drew).two.pd o.name HO.out.nm.1).mono ?_; rintro e w5 ⟨a5, c5, rfl, hn5, hb5⟩; have D5 : Hid (Dn T S w T S w5 d mb fb m rb rm P ob o a1 a2 c) := (D2.out.below (Below.refl _ _).drew).below hb5; have N5 : Hid (IsB w5 a5 (m.read o.name).1 ∧ (a5 = none → c5 = 0)) := ⟨(Hb.of (hn5.lower (Nat.zero_le _))).isB, (Hb.of (hn5.lower (Nat.zero_le _))).cap⟩; have hS5 := D5.out.dz.cells; clear hn5 hb5)))
        clear hS1
        go_wp2_with fail
        have hS7 := (D5.out.dz.below (Below.refl _ _).drew).cells
        go_region_held3 (fun W => W.cell? ⟨P, 0, none⟩ = some (.pointer (some ⟨d, 0, none⟩)) ∧ W.cell? ⟨P, 1, none⟩ = some (.pointer (some ⟨rb, 0, none⟩)) ∧ W.cell? ⟨ob, 1, none⟩ = some (.string o.name) ∧ W.cell? ⟨ob, 2, none⟩ = some (.string o.too) ∧ W.cell? ⟨ob, 3, none⟩ = some (.slice o.da o.data.length o.dc) ∧ W.cell? ⟨ob, 4, none⟩ = some (.int .i64 o.x) ∧ W.cell? ⟨ob, 5, none⟩ = some (.int .i64 o.y) ∧ W.cell? ⟨ob, 6, none⟩ = some (.int .i64 o.z) ∧ W.cell? ⟨ob, 7, none⟩ = some (.slice o.ka o.keep.length o.kc)) (first | assumption | exact hS7)
          (first | (go_at_call 45; go_loud (refine (HRD.out _ (D5.out.dz.below (Below.refl _ _).drew).two.re).mono ?_; rintro e w6 ⟨a6, c6, rfl, hn6, hb6⟩; have D6 : Hid (Dn T S w T S w6 d mb fb m rb rm P ob o a1 a2 c) := (D5.out.below (Below.refl _ _).drew).below hb6; have N6 : Hid (IsB w6 a6 (m.read o.name).1 ∧ (a6 = none → c6 = 0) ∧ IsB w6 a5 (m.read o.name).1) := ⟨(Hb.of (hn6.lower (Nat.zero_le _))).isB, (Hb.of (hn6.lower (Nat.zero_le _))).cap, (N5.out.1.below (Below.refl _ _).drew).below hb6⟩; have hS6 := D6.out.dz.cells; clear hn6 hb6)))
        clear hS5 hS7
        go_wp2_with fail
        refine (sameB_true a5 a6 c5 c6 _ _ (m.read o.name).1 w6 N6.out.2.2 N6.out.1 N5.out.2 N6.out.2.1 rfl rfl).mono ?_
        rintro e w7 ⟨rfl, hw7⟩
        subst hw7
        go_wp2_with fail
        go_meet
        case rel => exact ⟨_, T, S, fb, m, rm, rfl, rfl, D6.out.one⟩
    by_cases e8 : o.kind = 8
    · as_aux_lemma =>
        have q8 := e8
        have HFA : Hid (∀ W, Below W2.heap.size W2 W → Calls Try.prog 13 #[.pointer (some ⟨d, 0, none⟩)] W fun e w' => ∃ v, e = .returned v ∧ Below W2.heap.size W2 w' ∧ Calls Try.prog 14 #[.pointer (some ⟨rb, 0, none⟩)] w' fun e w'' => ∃ v', e = .returned v' ∧ Below W2.heap.size W2 w'' ∧ Calls Try.prog 12 #[v, v'] w'' fun e w3 => e = .returned (.bool true) ∧ Below W2.heap.size W2 w3) := fun W hW => by
          refine (files_any (D2.out.dz.below hW).two.pd).mono ?_
          rintro e w' ⟨v, dsv, rfl, hfv, hb⟩
          have hb' := keepZ hb hW
          refine ⟨v, rfl, hb', ?_⟩
          refine (Re.files_any (D2.out.dz.below hb').two.re (by omega)).mono ?_
          rintro e w'' ⟨v', dsv', rfl, hfv', hb2⟩
          have hb'' := keepZ hb2 hb'
          refine ⟨v', rfl, hb'', ?_⟩
          rw [HR.out.files] at hfv'
          refine (sameFiles_true _ _ v v' _ dsv dsv' w'' (hfv.below hb2) hfv' (by show (m.now.map _).length ≤ _; rw [List.length_map]; omega) (files_big D2.out.dz.two.pd)).mono ?_
          rintro e w3 ⟨rfl, k, rfl⟩
          exact ⟨rfl, below_drewN hb'' _⟩
        have HBX : Hid (∀ W, Below W2.heap.size W2 W → DzC W d rb P ob o) := fun W hW => (D2.out.dz.below hW).cells
        go_wp2_with fail
        have hS1 := HBX.out W2.drew (Below.refl _ _).drew
        unfold DzC at hS1
        go_region_held3 (fun W => W.cell? ⟨P, 0, none⟩ = some (.pointer (some ⟨d, 0, none⟩)) ∧ W.cell? ⟨P, 1, none⟩ = some (.pointer (some ⟨rb, 0, none⟩)) ∧ W.cell? ⟨ob, 1, none⟩ = some (.string o.name) ∧ W.cell? ⟨ob, 2, none⟩ = some (.string o.too) ∧ W.cell? ⟨ob, 3, none⟩ = some (.slice o.da o.data.length o.dc) ∧ W.cell? ⟨ob, 4, none⟩ = some (.int .i64 o.x) ∧ W.cell? ⟨ob, 5, none⟩ = some (.int .i64 o.y) ∧ W.cell? ⟨ob, 6, none⟩ = some (.int .i64 o.z) ∧ W.cell? ⟨ob, 7, none⟩ = some (.slice o.ka o.keep.length o.kc)) (first | assumption | exact hS1)
          (first
          | (go_at_call 13; go_loud (refine (HFA.out _ (Below.refl _ _).drew).mono ?_; rintro e w5 ⟨v5, rfl, hb5, hc5⟩; have HC5 := HIDZ hc5; have hS5 := HBX.out w5 hb5; unfold DzC at hS5; clear hb5 hc5))
          | (go_at_call 14; go_loud (refine HC5.out.mono ?_; rintro e w6 ⟨v6, rfl, hb6, hc6⟩; have HC6 := HIDZ hc6; have hS6 := HBX.out w6 hb6; unfold DzC at hS6; clear hb6 hc6))
          | (go_at_call 12; go_loud (refine HC6.out.mono ?_; rintro e w7 ⟨rfl, hb7⟩; have D7 : Hid (Dn T S w T S w7 d mb fb m rb rm P ob o a1 a2 c) := D2.out.below hb7; have hS7 := D7.out.dz.cells; clear hb7)))
        all_goals
          go_wp2_with fail
          go_ret
          exact ⟨rfl, T, S, fb, m, rm, D7.out.one.pair, D7.out.one.go⟩
    by_cases e9 : o.kind = 9
    · as_aux_lemma =>
        have q9 := e9
        have HFA : Hid (∀ W, Below W2.heap.size W2 W → Calls Try.prog 17 #[.pointer (some ⟨d, 0, none⟩), .int .i64 o.x, .slice a2 o.keep.length c2] W fun e w' => ∃ v, e = .returned v ∧ Below W2.heap.size W2 w' ∧ Calls Try.prog 18 #[.pointer (some ⟨rb, 0, none⟩), .int .i64 o.x, .slice o.ka o.keep.length o.kc] w' fun e w'' => ∃ v', e = .returned v' ∧ Below W2.heap.size W2 w'' ∧ Calls Try.prog 12 #[v, v'] w'' fun e w3 => e = .returned (.bool true) ∧ Below W2.heap.size W2 w3) := fun W hW => by
          refine (image_any (D2.out.dz.below hW).two.pd o.x a2 c2 o.keep (D2.out.dz.below hW).kp C2.out.1 C2.out.2.1 HO.out.kw (by omega) (by omega)).mono ?_
          rintro e w' ⟨v, dsv, rfl, hfv, hb⟩
          have hb' := keepZ hb hW
          refine ⟨v, rfl, hb', ?_⟩
          refine (rimage_any (D2.out.dz.below hb').two.re (by omega) HR.out.kinds o.x HO.out.num.2.1 (HR.out.restIds D2.out.hist o.x) o.ka o.kc o.keep (D2.out.dz.below hb').ints HO.out.kl HO.out.km HO.out.kw).mono ?_
          rintro e w'' ⟨v', dsv', rfl, hfv', hb2, _⟩
          have hb'' := keepZ hb2 hb'
          refine ⟨v', rfl, hb'', ?_⟩
          rw [HR.out.image] at hfv'
          refine (sameFiles_true _ _ v v' _ dsv dsv' w'' (hfv.below hb2) hfv' (by have z := image_le m o.x o.keep; omega) (D2.out.dz.two.pd.image_big o.x o.keep)).mono ?_
          rintro e w3 ⟨rfl, k, rfl⟩
          exact ⟨rfl, below_drewN hb'' _⟩
        have HBX : Hid (∀ W, Below W2.heap.size W2 W → DzC W d rb P ob o) := fun W hW => (D2.out.dz.below hW).cells
        go_wp2_with fail
        have hS1 := HBX.out W2.drew (Below.refl _ _).drew
        unfold DzC at hS1
        go_region_held3 (fun W => W.cell? ⟨P, 0, none⟩ = some (.pointer (some ⟨d, 0, none⟩)) ∧ W.cell? ⟨P, 1, none⟩ = some (.pointer (some ⟨rb, 0, none⟩)) ∧ W.cell? ⟨ob, 1, none⟩ = some (.string o.name) ∧ W.cell? ⟨ob, 2, none⟩ = some (.string o.too) ∧ W.cell? ⟨ob, 3, none⟩ = some (.slice o.da o.data.length o.dc) ∧ W.cell? ⟨ob, 4, none⟩ = some (.int .i64 o.x) ∧ W.cell? ⟨ob, 5, none⟩ = some (.int .i64 o.y) ∧ W.cell? ⟨ob, 6, none⟩ = some (.int .i64 o.z) ∧ W.cell? ⟨ob, 7, none⟩ = some (.slice o.ka o.keep.length o.kc)) (first | assumption | exact hS1)
          (first
          | (go_at_call 17; go_loud (refine (HFA.out _ (Below.refl _ _).drew).mono ?_; rintro e w5 ⟨v5, rfl, hb5, hc5⟩; have HC5 := HIDZ hc5; have hS5 := HBX.out w5 hb5; unfold DzC at hS5; clear hb5 hc5))
          | (go_at_call 18; go_loud (refine HC5.out.mono ?_; rintro e w6 ⟨v6, rfl, hb6, hc6⟩; have HC6 := HIDZ hc6; have hS6 := HBX.out w6 hb6; unfold DzC at hS6; clear hb6 hc6))
          | (go_at_call 12; go_loud (refine HC6.out.mono ?_; rintro e w7 ⟨rfl, hb7⟩; have D7 : Hid (Dn T S w T S w7 d mb fb m rb rm P ob o a1 a2 c) := D2.out.below hb7; have hS7 := D7.out.dz.cells; clear hb7)))
        all_goals
          go_wp2_with fail
          go_ret
          exact ⟨rfl, T, S, fb, m, rm, D7.out.one.pair, D7.out.one.go⟩
    by_cases e10 : o.kind = 10
    · as_aux_lemma =>
        have q10 := e10
        have HHI : Hid (Hist m) := D2.out.hist
        have hrl : (rm.rest o.x).length ≤ 8999998 := by rw [HR.out.rest, mp_length]; have z := dirAt_len m o.x; have z2 := D2.out.szs; omega
        go_wp2_with fail
        have hS1 := (D2.out.dz.below (Below.refl _ _).drew).cells
        go_region_held3 (fun W => W.cell? ⟨P, 0, none⟩ = some (.pointer (some ⟨d, 0, none⟩)) ∧ W.cell? ⟨P, 1, none⟩ = some (.pointer (some ⟨rb, 0, none⟩)) ∧ W.cell? ⟨ob, 1, none⟩ = some (.string o.name) ∧ W.cell? ⟨ob, 2, none⟩ = some (.string o.too) ∧ W.cell? ⟨ob, 3, none⟩ = some (.slice o.da o.data.length o.dc) ∧ W.cell? ⟨ob, 4, none⟩ = some (.int .i64 o.x) ∧ W.cell? ⟨ob, 5, none⟩ = some (.int .i64 o.y) ∧ W.cell? ⟨ob, 6, none⟩ = some (.int .i64 o.z) ∧ W.cell? ⟨ob, 7, none⟩ = some (.slice o.ka o.keep.length o.kc)) (first | assumption | exact hS1)
          (first | (go_at_call 21; go_loud (refine (fall_any (D2.out.dz.below (Below.refl _ _).drew).two.pd o.x a2 c2 o.keep (D2.out.dz.below (Below.refl _ _).drew).kp (fun ad e => (ts0.1 (C2.out.2.2 ad e)).1) C2.out.1 C2.out.2.1 HO.out.kw (HHI.out.dirAt o.x) (by omega) (by omega)).mono ?_; rintro e w5 ⟨rfl, hp5, hg5⟩; have D5 : Hid (Dz T S w5 d mb fb (m.fall o.x o.keep) rb rm P ob o a1 a2 ∧ Go2 T S T S W2.drew w5) := (D2.out.dz.below (Below.refl _ _).drew).prog hp5 hg5; have hS5 := D5.out.1.cells; clear hp5 hg5)))
        clear hS1
        go_wp2_with fail
        have hS7 := (D5.out.1.below (Below.refl _ _).drew).cells
        go_region_held3 (fun W => W.cell? ⟨P, 0, none⟩ = some (.pointer (some ⟨d, 0, none⟩)) ∧ W.cell? ⟨P, 1, none⟩ = some (.pointer (some ⟨rb, 0, none⟩)) ∧ W.cell? ⟨ob, 1, none⟩ = some (.string o.name) ∧ W.cell? ⟨ob, 2, none⟩ = some (.string o.too) ∧ W.cell? ⟨ob, 3, none⟩ = some (.slice o.da o.data.length o.dc) ∧ W.cell? ⟨ob, 4, none⟩ = some (.int .i64 o.x) ∧ W.cell? ⟨ob, 5, none⟩ = some (.int .i64 o.y) ∧ W.cell? ⟨ob, 6, none⟩ = some (.int .i64 o.z) ∧ W.cell? ⟨ob, 7, none⟩ = some (.slice o.ka o.keep.length o.kc)) (first | assumption | exact hS7)
          (first | (go_at_call 22; go_loud (refine (rfall_any (D5.out.1.below (Below.refl _ _).drew).two.re (by omega) HR.out.kinds o.x HO.out.num.2.1 (HR.out.restIds HHI.out o.x) hrl o.ka o.kc o.keep (D5.out.1.below (Below.refl _ _).drew).ints HO.out.kl HO.out.km HO.out.kw).mono ?_; rintro e w6 ⟨rfl, S6, hr6, hg6⟩; have D6 : Hid (Dz T S6 w6 d mb fb (m.fall o.x o.keep) rb (rm.fall o.x o.keep) P ob o a1 a2 ∧ Go2 T S T S6 w5.drew w6) := (D5.out.1.below (Below.refl _ _).drew).ref hr6 hg6; have hS6 := D6.out.1.cells; clear hr6 hg6)))
        clear hS5 hS7
        have D7 : Hid (Dn T S w T S6 w6 d mb fb (m.fall o.x o.keep) rb (rm.fall o.x o.keep) P ob o a1 a2 (c + 1)) := D2.out.fall HR.out D6.out.1 (((Go2.below (Below.refl _ _).drew).trans D5.out.2).trans ((Go2.below (Below.refl _ _).drew).trans D6.out.2))
        clear D5 D6 D2 hS6
        go_wp2_with fail
        go_meet
        case rel => exact ⟨0, T, S6, fb, _, _, rfl, rfl, D7.out⟩
    by_cases e11 : o.kind = 11
    · as_aux_lemma =>
        have q11 := e11
        have HHI : Hid (Hist m) := D2.out.hist
        go_wp2_with fail
        have hS1 := (D2.out.dz.below (Below.refl _ _).drew).cells
        go_region_held3 (fun W => W.cell? ⟨P, 0, none⟩ = some (.pointer (some ⟨d, 0, none⟩)) ∧ W.cell? ⟨P, 1, none⟩ = some (.pointer (some ⟨rb, 0, none⟩)) ∧ W.cell? ⟨ob, 1, none⟩ = some (.string o.name) ∧ W.cell? ⟨ob, 2, none⟩ = some (.string o.too) ∧ W.cell? ⟨ob, 3, none⟩ = some (.slice o.da o.data.length o.dc) ∧ W.cell? ⟨ob, 4, none⟩ = some (.int .i64 o.x) ∧ W.cell? ⟨ob, 5, none⟩ = some (.int .i64 o.y) ∧ W.cell? ⟨ob, 6, none⟩ = some (.int .i64 o.z) ∧ W.cell? ⟨ob, 7, none⟩ = some (.slice o.ka o.keep.length o.kc)) (first | assumption | exact hS1)
          (first | (go_at_call 19; go_loud (refine (arm_any (D2.out.dz.below (Below.refl _ _).drew).two.pd o.x HO.out.num.2.1).mono ?_; rintro e w5 ⟨rfl, hp5, hg5⟩; have D5 : Hid (Dz T S w5 d mb fb (m.arm o.x) rb rm P ob o a1 a2 ∧ Go2 T S T S W2.drew w5) := (D2.out.dz.below (Below.refl _ _).drew).prog hp5 hg5; have hS5 := D5.out.1.cells; clear hp5 hg5)))
        clear hS1
        go_wp2_with fail
        have hS7 := (D5.out.1.below (Below.refl _ _).drew).cells
        go_region_held3 (fun W => W.cell? ⟨P, 0, none⟩ = some (.pointer (some ⟨d, 0, none⟩)) ∧ W.cell? ⟨P, 1, none⟩ = some (.pointer (some ⟨rb, 0, none⟩)) ∧ W.cell? ⟨ob, 1, none⟩ = some (.string o.name) ∧ W.cell? ⟨ob, 2, none⟩ = some (.string o.too) ∧ W.cell? ⟨ob, 3, none⟩ = some (.slice o.da o.data.length o.dc) ∧ W.cell? ⟨ob, 4, none⟩ = some (.int .i64 o.x) ∧ W.cell? ⟨ob, 5, none⟩ = some (.int .i64 o.y) ∧ W.cell? ⟨ob, 6, none⟩ = some (.int .i64 o.z) ∧ W.cell? ⟨ob, 7, none⟩ = some (.slice o.ka o.keep.length o.kc)) (first | assumption | exact hS7)
          (first | (go_at_call 20; go_loud (refine (Re.arm_any (D5.out.1.below (Below.refl _ _).drew).two.re o.x HO.out.num.2.1).mono ?_; rintro e w6 ⟨rfl, hr6, hg6⟩; have D6 : Hid (Dz T S w6 d mb fb (m.arm o.x) rb (rm.arm o.x) P ob o a1 a2 ∧ Go2 T S T S w5.drew w6) := (D5.out.1.below (Below.refl _ _).drew).ref hr6 hg6; have hS6 := D6.out.1.cells; clear hr6 hg6)))
        clear hS5 hS7
        have D7 : Hid (Dn T S w T S w6 d mb fb (m.arm o.x) rb (rm.arm o.x) P ob o a1 a2 (c + 1)) := D2.out.step D6.out.1 (((Go2.below (Below.refl _ _).drew).trans D5.out.2).trans ((Go2.below (Below.refl _ _).drew).trans D6.out.2)) ⟨φ, HR.out.arm o.x⟩ (HHI.out.arm o.x) ⟨Nat.le_succ _, Nat.le_succ _, by rw [rarm_fl]; omega⟩
        clear D5 D6 D2 hS6
        go_wp2_with fail
        go_meet
        case rel => exact ⟨0, T, S, fb, _, _, rfl, rfl, D7.out⟩
    by_cases e12 : o.kind = 12
    · as_aux_lemma =>
        have q12 := e12
        have HHI : Hid (Hist m) := D2.out.hist
        go_wp2_with fail
        have hS1 := (D2.out.dz.below (Below.refl _ _).drew).cells
        go_region_held3 (fun W => W.cell? ⟨P, 0, none⟩ = some (.pointer (some ⟨d, 0, none⟩)) ∧ W.cell? ⟨P, 1, none⟩ = some (.pointer (some ⟨rb, 0, none⟩)) ∧ W.cell? ⟨ob, 1, none⟩ = some (.string o.name) ∧ W.cell? ⟨ob, 2, none⟩ = some (.string o.too) ∧ W.cell? ⟨ob, 3, none⟩ = some (.slice o.da o.data.length o.dc) ∧ W.cell? ⟨ob, 4, none⟩ = some (.int .i64 o.x) ∧ W.cell? ⟨ob, 5, none⟩ = some (.int .i64 o.y) ∧ W.cell? ⟨ob, 6, none⟩ = some (.int .i64 o.z) ∧ W.cell? ⟨ob, 7, none⟩ = some (.slice o.ka o.keep.length o.kc)) (first | assumption | exact hS1)
          (first | (go_at_call 37; go_loud (refine (fail_any (D2.out.dz.below (Below.refl _ _).drew).two.pd o.x o.y o.z HO.out.num.2.1 HO.out.num.2.2.1 HO.out.num.2.2.2).mono ?_; rintro e w5 ⟨rfl, hp5, hg5⟩; have D5 : Hid (Dz T S w5 d mb fb (m.fail o.x o.y o.z) rb rm P ob o a1 a2 ∧ Go2 T S T S W2.drew w5) := (D2.out.dz.below (Below.refl _ _).drew).prog hp5 hg5; have hS5 := D5.out.1.cells; clear hp5 hg5)))
        clear hS1
        go_wp2_with fail
        have hS7 := (D5.out.1.below (Below.refl _ _).drew).cells
        go_region_held3 (fun W => W.cell? ⟨P, 0, none⟩ = some (.pointer (some ⟨d, 0, none⟩)) ∧ W.cell? ⟨P, 1, none⟩ = some (.pointer (some ⟨rb, 0, none⟩)) ∧ W.cell? ⟨ob, 1, none⟩ = some (.string o.name) ∧ W.cell? ⟨ob, 2, none⟩ = some (.string o.too) ∧ W.cell? ⟨ob, 3, none⟩ = some (.slice o.da o.data.length o.dc) ∧ W.cell? ⟨ob, 4, none⟩ = some (.int .i64 o.x) ∧ W.cell? ⟨ob, 5, none⟩ = some (.int .i64 o.y) ∧ W.cell? ⟨ob, 6, none⟩ = some (.int .i64 o.z) ∧ W.cell? ⟨ob, 7, none⟩ = some (.slice o.ka o.keep.length o.kc)) (first | assumption | exact hS7)
          (first | (go_at_call 47; go_loud (refine (Re.fail_any (D5.out.1.below (Below.refl _ _).drew).two.re o.x o.y o.z HO.out.num.2.1 HO.out.num.2.2.1 HO.out.num.2.2.2).mono ?_; rintro e w6 ⟨rfl, hr6, hg6⟩; have D6 : Hid (Dz T S w6 d mb fb (m.fail o.x o.y o.z) rb (rm.fail o.x o.y o.z) P ob o a1 a2 ∧ Go2 T S T S w5.drew w6) := (D5.out.1.below (Below.refl _ _).drew).ref hr6 hg6; have hS6 := D6.out.1.cells; clear hr6 hg6)))
        clear hS5 hS7
        have D7 : Hid (Dn T S w T S w6 d mb fb (m.fail o.x o.y o.z) rb (rm.fail o.x o.y o.z) P ob o a1 a2 (c + 1)) := D2.out.step D6.out.1 (((Go2.below (Below.refl _ _).drew).trans D5.out.2).trans ((Go2.below (Below.refl _ _).drew).trans D6.out.2)) ⟨φ, HR.out.fail o.x o.y o.z⟩ (HHI.out.fail o.x o.y o.z) ⟨Nat.le_succ _, Nat.le_succ _, by rw [rfail_fl]; omega⟩
        clear D5 D6 D2 hS6
        go_wp2_with fail
        go_meet
        case rel => exact ⟨0, T, S, fb, _, _, rfl, rfl, D7.out⟩
    by_cases e13 : o.kind = 13
    · as_aux_lemma =>
        have q13 := e13
        have HDW : Hid (∀ W, Below W2.heap.size W2 W → Calls Try.prog 15 #[.pointer (some ⟨d, 0, none⟩)] W fun e w' => e = .returned (.bool m.down) ∧ w' = W) := fun W hW => down_any (D2.out.dz.below hW).two.pd
        have HFE : Hid (∀ W, Below W2.heap.size W2 W → Calls Try.prog 16 #[.pointer (some ⟨rb, 0, none⟩)] W fun e w' => e = .returned (.bool m.down) ∧ w' = W) := fun W hW => by
          have z := Re.fell_any (D2.out.dz.below hW).two.re
          rw [HR.out.down] at z
          exact z
        have D7 : Hid (Dn T S w T S W2.drew d mb fb m rb rm P ob o a1 a2 c) := D2.out.below (Below.refl _ _).drew
        have HBD : Hid (Below W2.heap.size W2 W2.drew) := (Below.refl _ _).drew
        have hbb : (m.down == m.down) = true := by cases m.down <;> rfl
        go_wp2_with fail
        have hS1 := D7.out.dz.cells
        go_region_held3 (fun W => W.cell? ⟨P, 0, none⟩ = some (.pointer (some ⟨d, 0, none⟩)) ∧ W.cell? ⟨P, 1, none⟩ = some (.pointer (some ⟨rb, 0, none⟩)) ∧ W.cell? ⟨ob, 1, none⟩ = some (.string o.name) ∧ W.cell? ⟨ob, 2, none⟩ = some (.string o.too) ∧ W.cell? ⟨ob, 3, none⟩ = some (.slice o.da o.data.length o.dc) ∧ W.cell? ⟨ob, 4, none⟩ = some (.int .i64 o.x) ∧ W.cell? ⟨ob, 5, none⟩ = some (.int .i64 o.y) ∧ W.cell? ⟨ob, 6, none⟩ = some (.int .i64 o.z) ∧ W.cell? ⟨ob, 7, none⟩ = some (.slice o.ka o.keep.length o.kc)) (first | assumption | exact hS1)
          (first
          | (go_at_call 15; go_loud (refine (HDW.out _ HBD.out).mono ?_; rintro e w5 ⟨rfl, rfl⟩))
          | (go_at_call 16; go_loud (refine (HFE.out _ HBD.out).mono ?_; rintro e w6 ⟨rfl, rfl⟩)))
        all_goals
          go_wp2_with fail
          go_ret
          exact ⟨by first | rfl | simp, T, S, fb, m, rm, D7.out.one.pair, D7.out.one.go⟩
    · have n1 : (o.kind == 1) = false := by simp [e1]
      have n2 : (o.kind == 2) = false := by simp [e2]
      have n3 : (o.kind == 3) = false := by simp [e3]
      have n4 : (o.kind == 4) = false := by simp [e4]
      have n5 : (o.kind == 5) = false := by simp [e5]
      have n6 : (o.kind == 6) = false := by simp [e6]
      have n7 : (o.kind == 7) = false := by simp [e7]
      have n8 : (o.kind == 8) = false := by simp [e8]
      have n9 : (o.kind == 9) = false := by simp [e9]
      have n10 : (o.kind == 10) = false := by simp [e10]
      have n11 : (o.kind == 11) = false := by simp [e11]
      have n12 : (o.kind == 12) = false := by simp [e12]
      have n13 : (o.kind == 13) = false := by simp [e13]
      go_wp2_with fail
      go_meet
      case rel => exact ⟨0, T, S, fb, m, rm, rfl, rfl, D2.out.one⟩
  case rest =>
    obtain ⟨z, T7, S7, fb7, m7, rm7, rfl, rfl, D7⟩ := hcut
    rename World => W7
    clear D2 k0
    have HS : Hid (∀ j, Calls Try.prog 46 #[.slice a1 o.data.length c1, .slice o.da o.data.length o.dc] (W7.drewN j) fun e w' => e = .returned (.bool true) ∧ w' = W7.drewN j) := fun j => sameB_true a1 o.da c1 o.dc _ _ o.data _ (D7.out.dz.cp.below (below_drewN (Below.refl _ _) _)) (D7.out.dz.isB.below (below_drewN (Below.refl _ _) _)) C1.out.1 HO.out.dn rfl rfl
    have c3 : W7.cell? ⟨ob, 3, none⟩ = some (.slice o.da o.data.length o.dc) := D7.out.dz.ob.at_ 3 (by omega)
    have c7 : W7.cell? ⟨ob, 7, none⟩ = some (.slice o.ka o.keep.length o.kc) := D7.out.dz.ob.at_ 7 (by omega)
    go_wp2_with fail
    refine (HS.out 0).mono ?_
    rintro e w8 ⟨rfl, rfl⟩
    go_wp2_with fail
    refine (sameInts_true a2 o.ka c2 o.kc _ _ o.keep _ D7.out.dz.kp D7.out.dz.ints (by omega) rfl rfl).mono ?_
    rintro e w9 ⟨rfl, q, rfl⟩
    go_wp2
    go_ret
    exact ⟨rfl, T7, S7, fb7, m7, rm7, (D7.out.below (below_drewN (Below.refl _ _) _)).pair, (D7.out.below (below_drewN (Below.refl _ _) _)).go⟩
end Dsk
end Go.Proofs.Ytbloifnibgdeoaa
