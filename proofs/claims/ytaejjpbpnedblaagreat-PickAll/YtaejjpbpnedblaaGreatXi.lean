import Derived.Test.YtaejjpbpnedblaaGreatXd
import Derived.Test.YtaejjpbpnedblaaGreatVv
import Derived.Test.YtaejjpbpnedblaaGreatXg
import Derived.WalkMore
import Derived.Deep.LoopGhost
namespace Go.Proofs.YtaejjpbpnedblaaGreat
namespace Vr
open Go.Shelf Go.RowKit Go.Lib Go.Sort Go.Maps Go.ChangeMaps Go.MapKept Laws Irw Crw
set_option linter.unusedVariables false
set_option linter.unusedSimpArgs false
set_option maxRecDepth 20000
set_option maxHeartbeats 1000000 in
theorem sort64_one (a : Option Addr) (cap : Nat) (w : World) : Calls Tryz.prog 95 #[.slice a 1 cap] w fun e w' => e = .returned (.tuple #[]) ∧ w' = w := by
  have HI : Hid (Calls Tryz.prog 126 #[.slice a 1 cap, .int .i64 0, .int .i64 1] w fun e w' => e = .returned (.tuple #[]) ∧ w' = w) := by
    go_enter Tryz.func126, Tryz.ntmps126
    go_wp2
    go_loopw [6] (fun i wr => i = .int .i64 1 ∧ wr = w) (fun _ _ => 0)
    case atStart => exact ⟨rfl, rfl⟩
    case round =>
      obtain ⟨rfl, rfl⟩ := hrel
      go_wp2
      go_end0
      exact ⟨rfl, rfl⟩
  have HP : Hid (∀ x : Int, Calls Tryz.prog 114 #[.slice a 1 cap, .int .i64 0, .int .i64 1, .int .i64 x] w fun e w' => e = .returned (.tuple #[]) ∧ w' = w) := fun x => by
    go_enter Tryz.func114, Tryz.ntmps114
    go_wp2
    go_loopw [1, 2] (fun a b wr => a = .int .i64 0 ∧ b = .int .i64 1 ∧ wr = w) (fun _ _ _ => 0)
    case atStart => exact ⟨rfl, rfl, rfl⟩
    case round =>
      obtain ⟨rfl, rfl, rfl⟩ := hrel
      go_wp2_with (go_at_call 126; go_loud (refine HI.out.mono ?_; rintro e w1 ⟨rfl, hw⟩; have hw := hw.symm; subst hw))
      refine bodyPost_ret (results_none rfl _ _ _) rfl ?_
      exact ⟨rfl, rfl⟩
  have hlen : Calls Tryz.prog 115 #[.int .u64 1] w fun e w' => (∃ x : Int, e = .returned (.int .i64 x)) ∧ w' = w := (Any.bits_Len Tryz.bitsLen 1 w (by omega) (by omega)).mono fun _ _ ⟨he, hw⟩ => ⟨⟨_, he⟩, hw⟩
  go_enter Tryz.func95, Tryz.ntmps95
  go_wp2_with (first
    | (go_at_call 115; go_loud (refine hlen.mono ?_; rintro e w1 ⟨⟨x, rfl⟩, hw⟩; have hw := hw.symm; subst hw))
    | (go_at_call 114; go_loud (refine (HP.out x).mono ?_; rintro e w1 ⟨rfl, hw⟩; have hw := hw.symm; subst hw)))
  go_end0
  exact ⟨rfl, rfl⟩
set_option maxHeartbeats 1000000 in
theorem sorted_one (w : World) (Bs b off lc : Nat) (x : Int) (hBs : Bs < w.heap.size) (hb : b < w.heap.size) (hc : w.cell? ⟨Bs, 0, none⟩ = some (.slice (some ⟨b, off, none⟩) 1 lc)) (hcs : w.cell? ⟨b, off, none⟩ = some (.int .u64 x)) :
    Calls Tryz.prog 96 #[.func (.func 117) #[] #[.pointer (some ⟨Bs, 0, none⟩)]] w fun e w' => ∃ g cap, e = .returned (.slice (some ⟨g, 0, none⟩) 1 cap) ∧ Zb w' g [.int .u64 x] ∧ RowKit.Below w.heap.size w w' := by
  have HK : Hid (Calls Tryz.prog 116 #[.func (.func 117) #[] #[.pointer (some ⟨Bs, 0, none⟩)]] w fun e w' => ∃ g cap, e = .returned (.slice (some ⟨g, 0, none⟩) 1 cap) ∧ Zb w' g [.int .u64 x] ∧ RowKit.Below w.heap.size w w') :=
    (collectU Bs b off lc [x] (by simp) w hBs hb hc (fun j hj => by
      have : j = 0 := by simp at hj; omega
      subst this
      exact hcs)).mono fun e w' ⟨v, he, ho, hb⟩ => by
      obtain ⟨g, cap, rfl, hg, hcap, hz⟩ := own3 ho (by simp)
      exact ⟨g, cap, he, hz, hb⟩
  clear hc hcs
  go_enter Tryz.func96, Tryz.ntmps96
  go_wp2_with (first
    | (go_at_call 116; go_loud (refine HK.out.mono ?_; rintro e w2 ⟨g, cap, rfl, hh⟩; have HH := hidV hh; clear hh))
    | (go_at_call 95; go_loud (refine (sort64_one _ _ _).mono ?_; rintro e w99 ⟨rfl, hw99⟩; have hw98 := hw99.symm; clear hw99; subst hw98)))
  go_ret
  exact ⟨g, cap, rfl, HH.out⟩
theorem isNaN64 (x : Int) (w : World) : Calls Tryz.prog 119 #[.int .u64 x] w fun e w' => e = .returned (.bool false) ∧ w' = w := by
  go_enter Tryz.func119, Tryz.ntmps119
  go_wp2
  go_ret
  exact ⟨by simp, rfl⟩
theorem cisNaN64 (x : Int) (w : World) : Calls Tryz.prog 137 #[.int .u64 x] w fun e w' => e = .returned (.bool false) ∧ w' = w := by
  go_enter Tryz.func137, Tryz.ntmps137
  go_wp2
  go_ret
  exact ⟨by simp, rfl⟩
set_option maxHeartbeats 1000000 in
theorem less64 (x y : Int) (w : World) : Calls Tryz.prog 118 #[.int .u64 x, .int .u64 y] w fun e w' => e = .returned (.bool (decide (x < y))) ∧ w' = w := by
  go_enter Tryz.func118, Tryz.ntmps118
  go_wp2_with (go_at_call 137; go_loud (refine (cisNaN64 _ _).mono ?_; rintro e w99 ⟨rfl, hw99⟩; have hw98 := hw99.symm; clear hw99; subst hw98))
  go_ret
  exact ⟨rfl, rfl⟩
def BsIs (x y : Int) (w : World) (e : Ending) (w' : World) : Prop := ∃ i : Int, e = .returned (.tuple #[.int .i64 i, .bool (decide (x = y))]) ∧ w' = w
set_option maxHeartbeats 2000000 in
theorem bs_one (g cap : Nat) (x y : Int) (w : World) (hz : Zb w g [.int .u64 x]) :
    Calls Tryz.prog 98 #[.slice (some ⟨g, 0, none⟩) 1 cap, .int .u64 y] w fun e w' => BsIs x y w e w' := by
  have c0 := hz.2.1 0 _ rfl
  clear hz
  have HL := hidV (fun W => less64 x y W)
  have HN := hidV (fun z W => isNaN64 z W)
  go_enter Tryz.func98, Tryz.ntmps98
  go_wp2
  go_loopw [7, 8] (fun i j wr => wr = w ∧ ((i = .int .i64 0 ∧ j = .int .i64 1) ∨ (i = .int .i64 1 ∧ j = .int .i64 1 ∧ Hid (x < y)) ∨ (i = .int .i64 0 ∧ j = .int .i64 0 ∧ Hid (y ≤ x)))) (fun i j _ => (intOf j).toNat - (intOf i).toNat)
  case atStart => exact ⟨rfl, .inl ⟨rfl, rfl⟩⟩
  case round =>
    obtain ⟨rfl, ⟨rfl, rfl⟩ | ⟨rfl, rfl, HLT⟩ | ⟨rfl, rfl, HLT⟩⟩ := hrel
    · by_cases hlt : x < y
      · have hd : decide (x < y) = true := by simp [hlt]
        have HLT := hidV hlt
        have HL2 : Hid (∀ W, Calls Tryz.prog 118 #[.int .u64 x, .int .u64 y] W fun e w' => e = .returned (.bool true) ∧ w' = W) := fun W => by rw [← hd]; exact HL.out W
        clear hlt hd HL
        go_wp2_with (go_at_call 118; go_loud (refine (HL2.out _).mono ?_; rintro e w99 ⟨rfl, hw99⟩; have hw98 := hw99.symm; clear hw99; subst hw98))
        go_roundw
        case rel => exact ⟨trivial, .inr (.inl ⟨by go_num, rfl, HLT⟩)⟩
        case measure => simp [intOf]
      · have hd : decide (x < y) = false := by simp [hlt]
        have HLT := hidV (Int.not_lt.1 hlt)
        have HL2 : Hid (∀ W, Calls Tryz.prog 118 #[.int .u64 x, .int .u64 y] W fun e w' => e = .returned (.bool false) ∧ w' = W) := fun W => by rw [← hd]; exact HL.out W
        clear hlt hd HL
        go_wp2_with (go_at_call 118; go_loud (refine (HL2.out _).mono ?_; rintro e w99 ⟨rfl, hw99⟩; have hw98 := hw99.symm; clear hw99; subst hw98))
        go_roundw
        case rel => exact ⟨trivial, .inr (.inr ⟨rfl, by go_num, HLT⟩)⟩
        case measure => simp [intOf]
    · have HD : Hid (decide (x = y) = false) := by
        have := HLT.out
        show decide (x = y) = false
        rw [decide_eq_false_iff_not]
        omega
      go_wp2
      go_ret2
      exact ⟨_, by rw [HD.out]; rfl, rfl⟩
    · by_cases he : x = y
      · have HD : Hid (decide (x = y) = true) := by show decide (x = y) = true; simp [he]
        go_wp2_with (go_at_call 119; go_loud (refine (HN.out _ _).mono ?_; rintro e w99 ⟨rfl, hw99⟩; have hw98 := hw99.symm; clear hw99; subst hw98))
        go_ret2
        exact ⟨_, by rw [HD.out]; rfl, rfl⟩
      · have HD : Hid (decide (x = y) = false) := by show decide (x = y) = false; simp [he]
        have hd : (x == y) = false := by simp [he]
        go_wp2_with (go_at_call 119; go_loud (refine (HN.out _ _).mono ?_; rintro e w99 ⟨rfl, hw99⟩; have hw98 := hw99.symm; clear hw99; subst hw98))
        go_ret2
        exact ⟨_, by rw [HD.out]; rfl, rfl⟩
end Vr
end Go.Proofs.YtaejjpbpnedblaaGreat
namespace Go.Proofs.YtaejjpbpnedblaaGreat
namespace Vr
open Go.Shelf Go.RowKit Go.Lib Go.Sort Go.Maps Go.ChangeMaps Go.MapKept Laws Irw Crw
set_option linter.unusedVariables false
set_option linter.unusedSimpArgs false
set_option maxRecDepth 20000
/-- a job, and where its lists lie -/
structure Jx where
  j : Jb
  us : Sv
  ls : Sv
def kJ : Knd Jx := ⟨62, 5, 80, .agg #[.int .i64 0, .slice none 0 0, .slice none 0 0, .string ⟨#[]⟩, .bool false], fun x => jbC x.j.lv x.us x.ls x.j.cut x.j.mv, fun _ => rfl, fun x u hu => by simp [jbC] at hu; rcases hu with rfl | rfl | rfl | rfl | rfl <;> rfl, by omega, rfl, by omega⟩
theorem infoJ : (Tryz.prog.info? 62).map (fun i => (i.zero, i.size, i.bytes)) = some (some kJ.zero, 5, 80) := by kernel_rfl
def hits (x : Nat) (j : Jb) : Bool := (j.up ++ j.lo).any fun t => t.no == x
def mkR (r : Nat → Bool) (l : Nat) : Nat → Bool := fun i => if i = l ∨ i = l + 1 then true else r i
def ffr (x : Nat) : (Nat → Bool) → List Jx → Option Jx
  | _, [] => none
  | r, y :: ys => if r y.j.lv.toNat || r (y.j.lv.toNat + 1) || hits x y.j then ffr x (mkR r y.j.lv.toNat) ys else some y
theorem ffr_go {x : Nat} {r : Nat → Bool} {y : Jx} {ys : List Jx} {l : Nat} (hl : y.j.lv = l) (h : (r l || r (l + 1) || hits x y.j) = true) : ffr x r (y :: ys) = ffr x (mkR r l) ys := by
  have e : y.j.lv.toNat = l := by rw [hl]; rfl
  show (if r y.j.lv.toNat || r (y.j.lv.toNat + 1) || hits x y.j then _ else _) = _
  rw [e, if_pos h]
theorem ffr_stop {x : Nat} {r : Nat → Bool} {y : Jx} {ys : List Jx} {l : Nat} (hl : y.j.lv = l) (h : (r l || r (l + 1) || hits x y.j) = false) : ffr x r (y :: ys) = some y := by
  have e : y.j.lv.toNat = l := by rw [hl]; rfl
  show (if r y.j.lv.toNat || r (y.j.lv.toNat + 1) || hits x y.j then _ else _) = _
  rw [e, if_neg (by rw [h]; decide)]
def rsC (r : Nat → Bool) : List Value := [.bool (r 0), .bool (r 1), .bool (r 2), .bool (r 3), .bool (r 4)]
theorem rsC_get (r : Nat → Bool) (l : Nat) (h : l < 5) : (rsC r)[l]? = some (.bool (r l)) := by
  have : l = 0 ∨ l = 1 ∨ l = 2 ∨ l = 3 ∨ l = 4 := by omega
  rcases this with rfl | rfl | rfl | rfl | rfl <;> rfl
theorem rsC_set (r : Nat → Bool) (l : Nat) (h : l < 4) : ((rsC r).set l (.bool true)).set (l + 1) (.bool true) = rsC (mkR r l) := by
  have : l = 0 ∨ l = 1 ∨ l = 2 ∨ l = 3 := by omega
  rcases this with rfl | rfl | rfl | rfl <;> rfl
/-- what lies there while a free job is looked for -/
structure FS (w : World) (A g R : Nat) (x : Nat) (r : Nat → Bool) (W : World) : Prop where
  a : Zb W A (jbC 0 nS nS ⟨#[]⟩ false)
  r : Zb W R (rsC r)
  g : Zb W g [.int .u64 (x : Int)]
  b : RowKit.Below w.heap.size w W
theorem FS.below {w W W' : World} {A g R x : Nat} {r : Nat → Bool} (h : FS w A g R x r W) (hb : RowKit.Below W.heap.size W W') : FS w A g R x r W' :=
  ⟨h.a.below hb, h.r.below hb, h.g.below hb, h.b.trans (hb.mono h.b.size)⟩
theorem FS.set {w W : World} {A g R x : Nat} {r : Nat → Bool} (h : FS w A g R x r W) (l : Nat) (hl : l < 4) (hR : w.heap.size ≤ R) (hA : A ≠ R) (hg : g ≠ R) : FS w A g R x (mkR r l) ((W.setCell ⟨R, l, none⟩ (.bool true)).setCell ⟨R, l + 1, none⟩ (.bool true)) :=
  ⟨(h.a.other (w' := W) _ _ hA).other (w' := W) _ _ hA, by rw [← rsC_set r l hl]; exact (h.r.set l _).set (l + 1) _, (h.g.other (w' := W) _ _ hg).other (w' := W) _ _ hg, (h.b.setCell (p := ⟨R, l, none⟩) hR _).setCell (p := ⟨R, l + 1, none⟩) hR _⟩
theorem idx2a (a a' : Option Addr) (n n' c c' : Nat) (W : World) : (Instr.index 174 (.agg #[.slice a n c, .slice a' n' c']) (.int .i64 0)).run Tryz.prog W = .ok (.slice a n c) W := by
  have u := run_underlying (P := Tryz.prog) Tryz.underlying174
  have i := Tryz.isAgg58
  have z := Tryz.sizeOf58
  simp [Instr.index, Sem.run_bind, go_sem, u, i, z, asIntOf]
theorem idx2b (a a' : Option Addr) (n n' c c' : Nat) (W : World) : (Instr.index 174 (.agg #[.slice a n c, .slice a' n' c']) (.int .i64 1)).run Tryz.prog W = .ok (.slice a' n' c') W := by
  have u := run_underlying (P := Tryz.prog) Tryz.underlying174
  have i := Tryz.isAgg58
  have z := Tryz.sizeOf58
  simp [Instr.index, Sem.run_bind, go_sem, u, i, z, asIntOf]
def FfIs (w : World) (res : Option Jx) (e : Ending) (w' : World) : Prop :=
  match res with
  | none => e = .returned (jbV 0 nS nS ⟨#[]⟩ false) ∧ RowKit.Below w.heap.size w w'
  | some y => e = .returned (jbV y.j.lv y.us y.ls y.j.cut y.j.mv) ∧ RowKit.Below w.heap.size w w'
set_option maxHeartbeats 4000000 in
theorem firstFree_any (ja : Option Addr) (jc : Nat) (js : List Jx) (lb lo lc x : Nat) (w : World) (hj : Ls kJ w (ja, js.length, jc) js) (hJ : ∀ y ∈ js, JAt w y.us y.ls y.j ∧ (∃ l : Nat, y.j.lv = l ∧ l < 4) ∧ y.j.up.length ≤ 1000000 ∧ y.j.lo.length ≤ 1000000) (hn : js.length ≤ 100) (hlo : w.cell? ⟨lb, lo, none⟩ = some (.int .u64 (x : Int))) :
    Calls Tryz.prog 73 #[.slice ja js.length jc, .slice (some ⟨lb, lo, none⟩) 1 lc] w fun e w' => FfIs w (ffr x (fun _ => false) js) e w' := by
  have HJ := hidV (And.intro hj hJ)
  have HLo := hidV hlo
  clear hj hJ hlo
  obtain ⟨W1, hW1⟩ : ∃ W1, (w.alloc (Obj.cells #[.int .i64 0, .slice none 0 0, .slice none 0 0, .string ⟨#[]⟩, .bool false] 62)).alloc (Obj.cells #[.slice (some ⟨lb, lo, none⟩) 1 lc] 26) = W1 := ⟨_, rfl⟩
  have H1 : Hid (RowKit.Below w.heap.size w W1 ∧ Zb W1 w.heap.size (jbC 0 nS nS ⟨#[]⟩ false) ∧ Zb W1 (w.heap.size + 1) [.slice (some ⟨lb, lo, none⟩) 1 lc]) := by
    subst hW1
    exact ⟨((Below.refl _ _).alloc (Nat.le_refl _) _).alloc (by simp) _, (Zb.new w _ _).below ((Below.refl _ _).alloc (Nat.le_refl _) _), Zb.new2 w _ _ _⟩
  have HSo : Hid (Calls Tryz.prog 96 #[.func (.func 117) #[] #[.pointer (some ⟨w.heap.size + 1, 0, none⟩)]] W1 fun e w' => ∃ g cap, e = .returned (.slice (some ⟨g, 0, none⟩) 1 cap) ∧ Zb w' g [.int .u64 (x : Int)] ∧ RowKit.Below W1.heap.size W1 w') := by
    have hlt := World.block_lt_of_cell? w _ HLo.out
    exact sorted_one W1 (w.heap.size + 1) lb lo lc x H1.out.2.2.1 (Nat.lt_of_lt_of_le hlt H1.out.1.size) (H1.out.2.2.2.1 0 _ rfl) ((H1.out.1.cell (p := ⟨lb, lo, none⟩) hlt).trans HLo.out)
  go_enter Tryz.func73, Tryz.ntmps73
  go_wp2
  go_step3
  go_upto_region 2 with (first
    | (go_at_call 97; go_loud (refine (valuesU _ _ _ _).mono ?_; rintro e w8 ⟨rfl, rfl⟩; (try rw [hW1])))
    | (go_at_call 96; go_loud ((try simp only [World.size_alloc]); refine HSo.out.mono ?_; rintro e w2 ⟨g, cap, rfl, hz2, hb2⟩; have H2 := hidV (And.intro hz2 hb2); clear hz2 hb2)))
  clear hW1 HSo
  obtain ⟨W3, hW3⟩ : ∃ W3, w2.alloc (Obj.cells #[.bool false, .bool false, .bool false, .bool false, .bool false] 172) = W3 := ⟨_, rfl⟩
  have HF : Hid (FS w w.heap.size g w2.heap.size x (fun _ => false) W3) := by
    subst hW3
    have hb3 : RowKit.Below w2.heap.size w2 (w2.alloc (Obj.cells #[.bool false, .bool false, .bool false, .bool false, .bool false] 172)) := (Below.refl _ _).alloc (Nat.le_refl _) _
    have hb := H1.out.1.trans (H2.out.2.mono H1.out.1.size)
    exact ⟨(H1.out.2.1.below H2.out.2).below hb3, Zb.new w2 _ _, H2.out.1.below hb3, hb.trans (hb3.mono hb.size)⟩
  have hR : w.heap.size ≤ w2.heap.size := Nat.le_trans H1.out.1.size H2.out.2.size
  have hA : w.heap.size ≠ w2.heap.size := by have h1 := H1.out.2.1.1; have h2 := H2.out.2.size; omega
  have hg : g ≠ w2.heap.size := by have := H2.out.1.1; omega
  have HN3 := hidV (And.intro hR (And.intro hA hg))
  clear hR hA hg H1 H2
  go_wp2
  (try rw [hW3])
  clear hW3
  generalize w2.heap.size = R at *
  go_step3
  go_wp2
  go_loopw [22] (fun i wr => ∃ (k : Nat) (r : Nat → Bool), k ≤ js.length ∧ i = .int .i64 (k : Int) ∧ Hid (FS w w.heap.size g R x r wr ∧ ffr x (fun _ => false) js = ffr x r (js.drop k))) (fun i _ => js.length - (intOf i).toNat)
  case atStart => exact ⟨0, fun _ => false, Nat.zero_le _, rfl, HF.out, rfl⟩
  case round =>
    obtain ⟨k, r, hk, rfl, HX⟩ := hrel
    by_cases hlt : k < js.length
    · obtain ⟨y, hy⟩ : ∃ y, js[k]? = some y := ⟨_, List.getElem?_eq_getElem hlt⟩
      have HD : Hid (js.drop k = y :: js.drop (k + 1)) := by
        rw [List.getElem?_eq_some_iff] at hy
        obtain ⟨h1, h2⟩ := hy
        show js.drop k = _
        rw [List.drop_eq_getElem_cons h1, h2]
      obtain ⟨b1, o1, e1, hb1, hc1⟩ := (HJ.out.1.below HX.out.1.b).cell hy
      change ja = _ at e1
      subst e1
      obtain ⟨hyJ, ⟨l, hl, hl4⟩, hu1, hlo1⟩ := HJ.out.2 y (List.mem_of_getElem? hy)
      obtain ⟨j, ⟨ua, un, uc⟩, ⟨va, vn, vc⟩⟩ := y
      dsimp only at *
      have e3 : un = j.up.length := hyJ.1.2.1
      have e4 : vn = j.lo.length := hyJ.2.2.1
      subst e3 e4
      have HY := hidV (And.intro hyJ (And.intro hl (And.intro hu1 hlo1)))
      have z0 := hc1 0 _ rfl
      have z1 := hc1 1 _ rfl
      have z2 := hc1 2 _ rfl
      have z3 := hc1 3 _ rfl
      have z4 := hc1 4 _ rfl
      rw [show o1 + k * kJ.size + 0 = o1 + k * 5 from rfl, hl] at z0
      rw [show o1 + k * kJ.size + 1 = o1 + k * 5 + 1 from rfl] at z1
      rw [show o1 + k * kJ.size + 2 = o1 + k * 5 + 2 from rfl] at z2
      rw [show o1 + k * kJ.size + 3 = o1 + k * 5 + 3 from rfl] at z3
      rw [show o1 + k * kJ.size + 4 = o1 + k * 5 + 4 from rfl] at z4
      have q1 : (k : Int) < (js.length : Int) := by omega
      clear hc1 hyJ hl hu1 hlo1 hy
      go_upto_region 6 with (fail)
      obtain ⟨W5, hW5⟩ : ∃ W5, wr.alloc (Obj.cells #[.int .i64 (l : Int), .slice ua j.up.length uc, .slice va j.lo.length vc, .string j.cut, .bool j.mv] 62) = W5 := ⟨_, rfl⟩
      have H5 : Hid (FS w w.heap.size g R x r W5 ∧ Zb W5 wr.heap.size (jbC (l : Int) (ua, j.up.length, uc) (va, j.lo.length, vc) j.cut j.mv) ∧ wr.heap.size ≠ R) := by
        subst hW5
        exact ⟨HX.out.1.below ((Below.refl _ _).alloc (Nat.le_refl _) _), Zb.new wr _ _, by have := HX.out.1.r.1; omega⟩
      have HR6 : Hid (FS w w.heap.size g R x (mkR r l) ((W5.setCell ⟨R, l, none⟩ (.bool true)).setCell ⟨R, l + 1, none⟩ (.bool true))) := H5.out.1.set l hl4 HN3.out.1 HN3.out.2.1 HN3.out.2.2
      rw [hW5]
      clear hW5 z0 z1 z2 z3 z4 hb1
      obtain ⟨jn, hjn⟩ : ∃ jn, wr.heap.size = jn := ⟨_, rfl⟩
      rw [hjn] at H5
      rw [hjn]
      clear hjn
      have y0 := H5.out.2.1.2.1 0 _ rfl
      have m0 := H5.out.1.r.2.1 l _ (rsC_get r l (by omega))
      have m1 := H5.out.1.r.2.1 (l + 1) _ (rsC_get r (l + 1) (by omega))
      have f0 := H5.out.1.r.2.2 l
      have f1 := H5.out.1.r.2.2 (l + 1)
      have q2 : IntKind.i64.wrap ((l : Int) + 2) = (l : Int) + 2 := IntWalk.i64_in _ (by omega)
      have q3 : (0 : Int) ≤ (l : Int) := by omega
      have q4 : (l : Int) + 2 ≤ 5 := by omega
      have q5 : (l : Int) ≤ (l : Int) + 2 := by omega
      have q6 : l + 2 - l = 2 := by omega
      have m2 : (W5.setCell ⟨R, l, none⟩ (.bool true)).cell? ⟨R, l + 1, none⟩ = some (.bool (r (l + 1))) := (World.cell?_setCell_other _ _ _ _ (by intro e; have := congrArg Addr.off e; simp at this)).trans m1
      have f2 : (W5.setCell ⟨R, l, none⟩ (.bool true)).frozen? ⟨R, l + 1, none⟩ = false := by rw [World.frozen?_setCell]; exact f1
      cases h0 : r l with
      | true =>
        rw [h0] at m0
        have HR0 := hidV h0
        clear h0
        go_wp2
        go_roundw
        case rel => exact ⟨k + 1, mkR r l, by omega, by go_num, HR6.out, HX.out.2.trans (by rw [HD.out]; exact ffr_go HY.out.2.1 (by simp [HR0.out]))⟩
        case measure => simp [intOf]; omega
      | false =>
        rw [h0] at m0
        have HR0 := hidV h0
        clear h0
        cases h1 : r (l + 1) with
        | true =>
          rw [h1] at m1 m2
          have HR1 := hidV h1
          clear h1
          go_wp2
          go_roundw
          case rel => exact ⟨k + 1, mkR r l, by omega, by go_num, HR6.out, HX.out.2.trans (by rw [HD.out]; exact ffr_go HY.out.2.1 (by simp [HR1.out]))⟩
          case measure => simp [intOf]; omega
        | false =>
          rw [h1] at m1 m2
          have HR1 := hidV h1
          clear h1
          have HJn : Hid (Zb ((W5.setCell ⟨R, l, none⟩ (.bool true)).setCell ⟨R, l + 1, none⟩ (.bool true)) jn (jbC (l : Int) (ua, j.up.length, uc) (va, j.lo.length, vc) j.cut j.mv)) := (H5.out.2.1.other (w' := W5) _ _ H5.out.2.2).other (w' := W5) _ _ H5.out.2.2
          go_upto_region 9 with (fail)
          obtain ⟨W6, hW6⟩ : ∃ W6, ((W5.setCell ⟨R, l, none⟩ (.bool true)).setCell ⟨R, l + 1, none⟩ (.bool true)) = W6 := ⟨_, rfl⟩
          rw [hW6] at HJn HR6
          rw [hW6]
          clear hW6 m0 m1 m2 f0 f1 f2 y0
          have y1 := HJn.out.2.1 1 _ rfl
          have y2 := HJn.out.2.1 2 _ rfl
          go_wp2
          go_loopw [50] (fun i wr => ∃ m : Nat, ((m = 0 ∧ i = .int .i64 0) ∨ (m = 1 ∧ i = .int .i64 1) ∨ (m = 2 ∧ i = .int .i64 2)) ∧ Hid (RowKit.Below W6.heap.size W6 wr ∧ (1 ≤ m → ∀ t ∈ j.up, t.no ≠ x) ∧ (2 ≤ m → ∀ t ∈ j.lo, t.no ≠ x))) (fun i _ => 2 - (intOf i).toNat)
          case atStart => exact ⟨0, .inl ⟨rfl, rfl⟩, Below.refl _ _, by omega, by omega⟩
          case round =>
            obtain ⟨m, hm3, HL2⟩ := hrel
            rename World => wr2
            rcases hm3 with ⟨rfl, rfl⟩ | ⟨rfl, rfl⟩ | ⟨rfl, rfl⟩
            · skip
              have ix := fun W => idx2a ua va j.up.length j.lo.length uc vc W
              have q9 : (j.up.length : Int) ≤ 1000000 := by have := HY.out.2.2.1; omega
              go_wp2
              go_loopw [55] (fun i wr => ∃ p : Nat, p ≤ j.up.length ∧ i = .int .i64 (p : Int) ∧ Hid (RowKit.Below W6.heap.size W6 wr ∧ ∀ t ∈ j.up.take p, t.no ≠ x)) (fun i _ => j.up.length - (intOf i).toNat)
              case atStart => exact ⟨0, Nat.zero_le _, rfl, HL2.out.1, by simp⟩
              case round =>
                obtain ⟨p, hp, rfl, HL3⟩ := hrel
                rename World => wr3
                by_cases hlp : p < j.up.length
                · obtain ⟨t, ht⟩ : ∃ t, j.up[p]? = some t := ⟨_, List.getElem?_eq_getElem hlp⟩
                  have HT := hidV ht
                  obtain ⟨b2, o2, e2, hb2, hc2⟩ := ((HY.out.1.1.below HR6.out.b).below HL3.out.1).cell ht
                  change ua = _ at e2
                  subst e2
                  have t0 := hc2 0 _ rfl
                  have t1 := hc2 1 _ rfl
                  have t2 := hc2 2 _ rfl
                  have t3 := hc2 3 _ rfl
                  have t4 := hc2 4 _ rfl
                  have t5 := hc2 5 _ rfl
                  rw [show o2 + p * kTb.size + 0 = o2 + p * 6 from rfl] at t0
                  rw [show o2 + p * kTb.size + 1 = o2 + p * 6 + 1 from rfl] at t1
                  rw [show o2 + p * kTb.size + 2 = o2 + p * 6 + 2 from rfl] at t2
                  rw [show o2 + p * kTb.size + 3 = o2 + p * 6 + 3 from rfl] at t3
                  rw [show o2 + p * kTb.size + 4 = o2 + p * 6 + 4 from rfl] at t4
                  rw [show o2 + p * kTb.size + 5 = o2 + p * 6 + 5 from rfl] at t5
                  have q1 : (p : Int) < (j.up.length : Int) := by omega
                  clear hc2 ht
                  obtain ⟨tn, tw, tb, te, tl, tg⟩ := t
                  dsimp only at t0 t1 t2 t3 t4 t5
                  obtain ⟨W7, hW7⟩ : ∃ W7, wr3.alloc (Obj.cells #[.int .u64 (tn : Int), .int .i64 tw, .int .i64 tb, .int .i64 te, .string tl, .string tg] 76) = W7 := ⟨_, rfl⟩
                  have H7 : Hid (RowKit.Below W6.heap.size W6 W7 ∧ Zb W7 g [.int .u64 (x : Int)] ∧ Zb W7 wr3.heap.size [.int .u64 (tn : Int), .int .i64 tw, .int .i64 tb, .int .i64 te, .string tl, .string tg]) := by
                    subst hW7
                    have h7 := HL3.out.1.alloc HL3.out.1.size (Obj.cells #[.int .u64 (tn : Int), .int .i64 tw, .int .i64 tb, .int .i64 te, .string tl, .string tg] 76)
                    exact ⟨h7, HR6.out.g.below h7, Zb.new wr3 _ _⟩
                  have v0 := H7.out.2.2.2.1 0 _ rfl
                  have HB : Hid (Calls Tryz.prog 98 #[.slice (some ⟨g, 0, none⟩) 1 cap, .int .u64 (tn : Int)] W7 fun e w' => BsIs x tn W7 e w') := bs_one g cap x tn W7 H7.out.2.1
                  go_upto_region 16 with (fail)
                  (try rw [hW7])
                  clear hW7 t0 t1 t2 t3 t4 t5 hb2
                  by_cases hx : (x : Int) = (tn : Int)
                  · have HB2 : Hid (Calls Tryz.prog 98 #[.slice (some ⟨g, 0, none⟩) 1 cap, .int .u64 (tn : Int)] W7 fun e w' => ∃ i : Int, e = .returned (.tuple #[.int .i64 i, .bool true]) ∧ w' = W7) := by
                      have hd : decide ((x : Int) = (tn : Int)) = true := by simp [hx]
                      have := HB.out
                      unfold BsIs at this
                      rw [hd] at this
                      exact this
                    have HHt : Hid (hits x j = true) := by
                      show hits x j = true
                      unfold hits
                      rw [List.any_eq_true]
                      exact ⟨_, List.mem_append_left _ (List.mem_of_getElem? HT.out), by simp; omega⟩
                    clear HB hx
                    go_wp2_with (go_at_call 98; go_loud (refine HB2.out.mono ?_; rintro e w99 ⟨i9, rfl, hw99⟩; have hw98 := hw99.symm; clear hw99; subst hw98))
                    go_roundw
                    case rel => exact ⟨k + 1, mkR r l, by omega, by go_num, HR6.out.below H7.out.1, HX.out.2.trans (by rw [HD.out]; exact ffr_go HY.out.2.1 (by simp [HHt.out]))⟩
                    case measure => simp [intOf]; omega
                  · have HB2 : Hid (Calls Tryz.prog 98 #[.slice (some ⟨g, 0, none⟩) 1 cap, .int .u64 (tn : Int)] W7 fun e w' => ∃ i : Int, e = .returned (.tuple #[.int .i64 i, .bool false]) ∧ w' = W7) := by
                      have hd : decide ((x : Int) = (tn : Int)) = false := by simp [hx]
                      have := HB.out
                      unfold BsIs at this
                      rw [hd] at this
                      exact this
                    have HNx := hidV hx
                    clear HB hx
                    go_wp2_with (go_at_call 98; go_loud (refine HB2.out.mono ?_; rintro e w99 ⟨i9, rfl, hw99⟩; have hw98 := hw99.symm; clear hw99; subst hw98))
                    go_roundw
                    case rel =>
                      refine ⟨p + 1, by omega, by go_num, H7.out.1, fun t ht => ?_⟩
                      rw [List.take_add_one, HT.out] at ht
                      rcases List.mem_append.1 ht with h | h
                      · exact HL3.out.2 t h
                      · simp at h
                        subst h
                        have := HNx.out
                        simp
                        omega
                    case measure => simp [intOf]; omega
                · have hp' : p = j.up.length := by omega
                  subst hp'
                  have HNo : Hid (∀ t ∈ j.up, t.no ≠ x) := by have := HL3.out.2; rwa [List.take_length] at this
                  go_wp2
                  go_roundw
                  case rel => exact ⟨1, .inr (.inl ⟨rfl, rfl⟩), HL3.out.1, fun _ => HNo.out, by omega⟩
                  case measure => simp [intOf]
            · skip
              have ix := fun W => idx2b ua va j.up.length j.lo.length uc vc W
              have q9 : (j.lo.length : Int) ≤ 1000000 := by have := HY.out.2.2.2; omega
              go_wp2
              go_loopw [55] (fun i wr => ∃ p : Nat, p ≤ j.lo.length ∧ i = .int .i64 (p : Int) ∧ Hid (RowKit.Below W6.heap.size W6 wr ∧ ∀ t ∈ j.lo.take p, t.no ≠ x)) (fun i _ => j.lo.length - (intOf i).toNat)
              case atStart => exact ⟨0, Nat.zero_le _, rfl, HL2.out.1, by simp⟩
              case round =>
                obtain ⟨p, hp, rfl, HL3⟩ := hrel
                rename World => wr3
                by_cases hlp : p < j.lo.length
                · obtain ⟨t, ht⟩ : ∃ t, j.lo[p]? = some t := ⟨_, List.getElem?_eq_getElem hlp⟩
                  have HT := hidV ht
                  obtain ⟨b2, o2, e2, hb2, hc2⟩ := ((HY.out.1.2.below HR6.out.b).below HL3.out.1).cell ht
                  change va = _ at e2
                  subst e2
                  have t0 := hc2 0 _ rfl
                  have t1 := hc2 1 _ rfl
                  have t2 := hc2 2 _ rfl
                  have t3 := hc2 3 _ rfl
                  have t4 := hc2 4 _ rfl
                  have t5 := hc2 5 _ rfl
                  rw [show o2 + p * kTb.size + 0 = o2 + p * 6 from rfl] at t0
                  rw [show o2 + p * kTb.size + 1 = o2 + p * 6 + 1 from rfl] at t1
                  rw [show o2 + p * kTb.size + 2 = o2 + p * 6 + 2 from rfl] at t2
                  rw [show o2 + p * kTb.size + 3 = o2 + p * 6 + 3 from rfl] at t3
                  rw [show o2 + p * kTb.size + 4 = o2 + p * 6 + 4 from rfl] at t4
                  rw [show o2 + p * kTb.size + 5 = o2 + p * 6 + 5 from rfl] at t5
                  have q1 : (p : Int) < (j.lo.length : Int) := by omega
                  clear hc2 ht
                  obtain ⟨tn, tw, tb, te, tl, tg⟩ := t
                  dsimp only at t0 t1 t2 t3 t4 t5
                  obtain ⟨W7, hW7⟩ : ∃ W7, wr3.alloc (Obj.cells #[.int .u64 (tn : Int), .int .i64 tw, .int .i64 tb, .int .i64 te, .string tl, .string tg] 76) = W7 := ⟨_, rfl⟩
                  have H7 : Hid (RowKit.Below W6.heap.size W6 W7 ∧ Zb W7 g [.int .u64 (x : Int)] ∧ Zb W7 wr3.heap.size [.int .u64 (tn : Int), .int .i64 tw, .int .i64 tb, .int .i64 te, .string tl, .string tg]) := by
                    subst hW7
                    have h7 := HL3.out.1.alloc HL3.out.1.size (Obj.cells #[.int .u64 (tn : Int), .int .i64 tw, .int .i64 tb, .int .i64 te, .string tl, .string tg] 76)
                    exact ⟨h7, HR6.out.g.below h7, Zb.new wr3 _ _⟩
                  have v0 := H7.out.2.2.2.1 0 _ rfl
                  have HB : Hid (Calls Tryz.prog 98 #[.slice (some ⟨g, 0, none⟩) 1 cap, .int .u64 (tn : Int)] W7 fun e w' => BsIs x tn W7 e w') := bs_one g cap x tn W7 H7.out.2.1
                  go_upto_region 16 with (fail)
                  (try rw [hW7])
                  clear hW7 t0 t1 t2 t3 t4 t5 hb2
                  by_cases hx : (x : Int) = (tn : Int)
                  · have HB2 : Hid (Calls Tryz.prog 98 #[.slice (some ⟨g, 0, none⟩) 1 cap, .int .u64 (tn : Int)] W7 fun e w' => ∃ i : Int, e = .returned (.tuple #[.int .i64 i, .bool true]) ∧ w' = W7) := by
                      have hd : decide ((x : Int) = (tn : Int)) = true := by simp [hx]
                      have := HB.out
                      unfold BsIs at this
                      rw [hd] at this
                      exact this
                    have HHt : Hid (hits x j = true) := by
                      show hits x j = true
                      unfold hits
                      rw [List.any_eq_true]
                      exact ⟨_, List.mem_append_right _ (List.mem_of_getElem? HT.out), by simp; omega⟩
                    clear HB hx
                    go_wp2_with (go_at_call 98; go_loud (refine HB2.out.mono ?_; rintro e w99 ⟨i9, rfl, hw99⟩; have hw98 := hw99.symm; clear hw99; subst hw98))
                    go_roundw
                    case rel => exact ⟨k + 1, mkR r l, by omega, by go_num, HR6.out.below H7.out.1, HX.out.2.trans (by rw [HD.out]; exact ffr_go HY.out.2.1 (by simp [HHt.out]))⟩
                    case measure => simp [intOf]; omega
                  · have HB2 : Hid (Calls Tryz.prog 98 #[.slice (some ⟨g, 0, none⟩) 1 cap, .int .u64 (tn : Int)] W7 fun e w' => ∃ i : Int, e = .returned (.tuple #[.int .i64 i, .bool false]) ∧ w' = W7) := by
                      have hd : decide ((x : Int) = (tn : Int)) = false := by simp [hx]
                      have := HB.out
                      unfold BsIs at this
                      rw [hd] at this
                      exact this
                    have HNx := hidV hx
                    clear HB hx
                    go_wp2_with (go_at_call 98; go_loud (refine HB2.out.mono ?_; rintro e w99 ⟨i9, rfl, hw99⟩; have hw98 := hw99.symm; clear hw99; subst hw98))
                    go_roundw
                    case rel =>
                      refine ⟨p + 1, by omega, by go_num, H7.out.1, fun t ht => ?_⟩
                      rw [List.take_add_one, HT.out] at ht
                      rcases List.mem_append.1 ht with h | h
                      · exact HL3.out.2 t h
                      · simp at h
                        subst h
                        have := HNx.out
                        simp
                        omega
                    case measure => simp [intOf]; omega
                · have hp' : p = j.lo.length := by omega
                  subst hp'
                  have HNo : Hid (∀ t ∈ j.lo, t.no ≠ x) := by have := HL3.out.2; rwa [List.take_length] at this
                  go_wp2
                  go_roundw
                  case rel => exact ⟨2, .inr (.inr ⟨rfl, rfl⟩), HL3.out.1, fun _ => HL2.out.2.1 (Nat.le_refl _), fun _ => HNo.out⟩
                  case measure => simp [intOf]
            · have HNh : Hid (hits x j = false) := by
                show hits x j = false
                unfold hits
                rw [List.any_eq_false]
                intro t ht
                rcases List.mem_append.1 ht with h | h
                · simpa using HL2.out.2.1 (by omega) t h
                · simpa using HL2.out.2.2 (by omega) t h
              have HA9 := hidV (HR6.out.below HL2.out.1).a
              have HJ9 := hidV (HJn.out.below HL2.out.1)
              have w0 := HJ9.out.2.1 0 _ rfl
              have w1 := HJ9.out.2.1 1 _ rfl
              have w3 := HJ9.out.2.1 2 _ rfl
              have w4 := HJ9.out.2.1 3 _ rfl
              have w5 := HJ9.out.2.1 4 _ rfl
              have a0 := HA9.out.2.1 0 _ rfl
              have a1 := HA9.out.2.1 1 _ rfl
              have a2 := HA9.out.2.1 2 _ rfl
              have a3 := HA9.out.2.1 3 _ rfl
              have a4 := HA9.out.2.1 4 _ rfl
              have g0 := HA9.out.2.2 0
              have g1 := HA9.out.2.2 1
              have g2 := HA9.out.2.2 2
              have g3 := HA9.out.2.2 3
              have g4 := HA9.out.2.2 4
              go_wp2
              (try rw [Exit.noGoto_ret])
              have hbz := (HR6.out.below HL2.out.1).b
              refine bodyPost_ret (res_jb rfl _ _ w.heap.size (l : Int) (ua, j.up.length, uc) (va, j.lo.length, vc) j.cut j.mv rfl (((((HA9.out.set 0 _).set 1 _).set 2 _).set 3 _).set 4 _)) rfl ?_
              unfold FfIs
              rw [HX.out.2, HD.out, ffr_stop HY.out.2.1 (by simp [HR0.out, HR1.out, HNh.out])]
              refine ⟨by show _ = Ending.returned (jbV j.lv _ _ _ _); rw [HY.out.2.1], ?_⟩
              exact ((((hbz.setCell (p := ⟨w.heap.size, 0, none⟩) (Nat.le_refl _) _).setCell (p := ⟨w.heap.size, 1, none⟩) (Nat.le_refl _) _).setCell (p := ⟨w.heap.size, 2, none⟩) (Nat.le_refl _) _).setCell (p := ⟨w.heap.size, 3, none⟩) (Nat.le_refl _) _).setCell (p := ⟨w.heap.size, 4, none⟩) (Nat.le_refl _) _
    · have hk' : k = js.length := by omega
      have HE : Hid (ffr x (fun _ => false) js = none) := by
        show ffr x (fun _ => false) js = none
        rw [HX.out.2, hk', List.drop_length]
        rfl
      have q1 : ¬ (k : Int) < (js.length : Int) := by omega
      have HA9 := hidV HX.out.1.a
      have a0 := HA9.out.2.1 0 _ rfl
      have a1 := HA9.out.2.1 1 _ rfl
      have a2 := HA9.out.2.1 2 _ rfl
      have a3 := HA9.out.2.1 3 _ rfl
      have a4 := HA9.out.2.1 4 _ rfl
      have g0 := HA9.out.2.2 0
      have g1 := HA9.out.2.2 1
      have g2 := HA9.out.2.2 2
      have g3 := HA9.out.2.2 3
      have g4 := HA9.out.2.2 4
      clear hk'
      go_wp2
      (try rw [Exit.noGoto_ret])
      have hbz := HX.out.1.b
      refine bodyPost_ret (res_jb rfl _ _ w.heap.size 0 nS nS ⟨#[]⟩ false rfl (((((HA9.out.set 0 _).set 1 _).set 2 _).set 3 _).set 4 _)) rfl ?_
      unfold FfIs
      rw [HE.out]
      refine ⟨rfl, ?_⟩
      exact ((((hbz.setCell (p := ⟨w.heap.size, 0, none⟩) (Nat.le_refl _) _).setCell (p := ⟨w.heap.size, 1, none⟩) (Nat.le_refl _) _).setCell (p := ⟨w.heap.size, 2, none⟩) (Nat.le_refl _) _).setCell (p := ⟨w.heap.size, 3, none⟩) (Nat.le_refl _) _).setCell (p := ⟨w.heap.size, 4, none⟩) (Nat.le_refl _) _
end Vr
end Go.Proofs.YtaejjpbpnedblaaGreat
