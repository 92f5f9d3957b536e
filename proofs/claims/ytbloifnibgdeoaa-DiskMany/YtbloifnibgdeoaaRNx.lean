import Derived.Test.YtbloifnibgdeoaaRNw
import Derived.Deep.RegionLaw
import Derived.Deep.RegionHeld3
namespace Go.Proofs.Ytbloifnibgdeoaa
namespace Dsk
open Go.RowKit Go.Shelf Go.Maps Go.Sort Byt Laws
set_option linter.unusedVariables false
set_option maxRecDepth 100000
set_option linter.unusedSimpArgs false
def newR (room : Nat) (fs : List Fj) : Rm := ⟨Rig.zero, room, flOf fs, addAll [] 0 fs, [], [], false⟩
theorem newR_snoc (room : Nat) (fs : List Fj) (f : Fj) : newR room (fs ++ [f]) = { ({ newR room fs with fl := (newR room fs).fl ++ [⟨f.data, f.sure.toNat⟩] } : Rm) with now := ins (newR room fs).now (ky f.name) (newR room fs).fl.length } := by
  unfold newR
  simp only [addAll_snoc]
  simp [flOf]
/-- Where the reference's New stands. -/
structure RnI (w : World) (d room : Nat) (fs : List Fj) (W : World) (T : Nat → Nat) (fb : Nat → Nat) (vf vn : Value) : Prop where
  rd : Rd T W d fb (newR room fs) vf vn (.slice none 0 0) (.slice none 0 0)
  low : ∀ b, b < w.heap.size → T b = 0
  below : Below w.heap.size w W
theorem RnI.under {w W : World} {d room : Nat} {fs : List Fj} {T : Nat → Nat} {fb : Nat → Nat} {vf vn : Value} (h : RnI w d room fs W T fb vf vn) {W' : World} (hb : Below W.heap.size W W') : RnI w d room fs W' T fb vf vn := ⟨h.rd.below hb, h.low, h.below.trans (hb.mono h.below.size)⟩
theorem below_keep {w W W' : World} {bs : List Nat} (h : Below w.heap.size w W) (k : Keep bs W W') (hb : ∀ b ∈ bs, w.heap.size ≤ b) : Below w.heap.size w W' :=
  h.trans ⟨k.os, k.tape, k.output, k.size, fun b hlt => k.block b (Nat.lt_of_lt_of_le hlt h.size) (fun hm => by have := hb b hm; omega)⟩
theorem rn_first (w : World) (room : Nat) (hr : room ≤ 9223372036854775807) : RnI w w.heap.size room [] (w.alloc (.cells #[.int .i64 room, .slice none 0 0, .slice none 0 0, .slice none 0 0, .slice none 0 0, .int .i64 0, .int .i64 0, .int .i64 0, .int .i64 0, .bool false] 95)) (upd (fun _ => 0) w.heap.size 1) (fun _ => 0) (.slice none 0 0) (.slice none 0 0) := by
  have hg : (w.alloc (.cells #[.int .i64 room, .slice none 0 0, .slice none 0 0, .slice none 0 0, .slice none 0 0, .int .i64 0, .int .i64 0, .int .i64 0, .int .i64 0, .bool false] 95)).heap[w.heap.size]? = some (.cells #[.int .i64 room, .slice none 0 0, .slice none 0 0, .slice none 0 0, .slice none 0 0, .int .i64 0, .int .i64 0, .int .i64 0, .int .i64 0, .bool false] 95) := heap_alloc_new w _
  refine ⟨⟨fld_of_block hg (fun j hj => ?_), upd_same _ _ _, fun b hb => ?_, World.ownsRow_nil _ _ _ _, by simp [Value.ownBlock], World.ownsRow_nil _ _ _ _, by simp [Value.ownBlock], World.ownsRow_nil _ _ _ _, by simp [Value.ownBlock], World.ownsRow_nil _ _ _ _, by simp [Value.ownBlock], fun i f hf => by simp [newR, flOf] at hf, by simp [newR, addAll, Rises], by simp [newR, Rises], by simp [newR, addAll], by simp [newR], hr, by simp [newR, addAll], by simp [newR], by simp [newR, flOf], ⟨Nat.zero_le _, Nat.zero_le _, Nat.zero_le _, Nat.zero_le _⟩⟩, fun b hb => upd_other _ _ (by omega), (Below.refl _ _).alloc (Nat.le_refl _) _⟩
  · match j, hj with
    | 0, _ => rfl
    | 1, _ => rfl
    | 2, _ => rfl
    | 3, _ => rfl
    | 4, _ => rfl
    | 5, _ => rfl
    | 6, _ => rfl
    | 7, _ => rfl
    | 8, _ => rfl
    | 9, _ => rfl
  · simp at hb
    exact upd_other _ _ (by omega)
theorem flOf_len (fs : List Fj) : (flOf fs).length = fs.length := by simp [flOf]
/-- the file is the disk's -/
theorem rn_born {w W w1 w2 : World} {d room : Nat} {fs : List Fj} {T : Nat → Nat} {fb : Nat → Nat} {vf vn : Value} (h : RnI w d room fs W T fb vf vn) {f : Fj} {a1 : Option Addr} {c1 g c2 k : Nat} (hk : fs.length = k) (hf : okF f = true)
    (hb : Below W.heap.size W w1) (hnew : New 5 W.heap.size w1 a1 c1 f.data) (hl : k < 8388608)
    (hown : w2.ownsRow 0 96 1 (.slice (some ⟨g, 0, none⟩) (k + 1) c2) (k + 1) (ptrRow fb k ++ [.pointer (some ⟨w1.heap.size, 0, none⟩)]))
    (hg : ((w1.alloc (.cells #[.slice a1 f.data.length c1, .int .i64 f.sure] 100)).alloc (.cells #[.pointer (some ⟨w1.heap.size, 0, none⟩)] 96)).grownBy w2 vf.ownBlock) (hat : vf.ownBlock = some g ∨ w1.heap.size + 1 < g) :
    ∃ T' fb', Rd T' (w2.setCell ⟨d, 1, none⟩ (.slice (some ⟨g, 0, none⟩) (k + 1) c2)) d fb' { newR room fs with fl := (newR room fs).fl ++ [⟨f.data, f.sure.toNat⟩] } (.slice (some ⟨g, 0, none⟩) (k + 1) c2) vn (.slice none 0 0) (.slice none 0 0) ∧ (∀ b, b < w.heap.size → T' b = 0) ∧ Below w.heap.size w (w2.setCell ⟨d, 1, none⟩ (.slice (some ⟨g, 0, none⟩) (k + 1) c2)) ∧ ∀ b, b < W.heap.size → T b = 0 → (w2.setCell ⟨d, 1, none⟩ (.slice (some ⟨g, 0, none⟩) (k + 1) c2)).heap[b]? = W.heap[b]? ∧ T' b = 0 := by
  obtain ⟨⟨⟨f1, f2⟩, f3⟩, f4⟩ : (((okN f.name = true ∧ f.data.length ≤ 2147483648) ∧ 0 ≤ f.sure) ∧ f.sure ≤ f.data.length) := by
    unfold okF at hf
    simpa using hf
  have hl1 : (newR room fs).fl.length = k := by show (flOf fs).length = k; rw [flOf_len]; exact hk
  have hss : ((f.sure.toNat : Nat) : Int) = f.sure := by omega
  have := h.rd.born (f := ⟨f.data, f.sure.toNat⟩) (a1 := a1) (c1 := c1) (g := g) (c2 := c2) (w1 := w1) (w2 := w2) hb hnew (by show f.sure.toNat ≤ f.data.length; omega) f2 (by rw [hl1]; omega) (by rw [hl1]; exact hown) (by show World.grownBy _ _ _; simp only [hss]; exact hg) hat
  rw [hl1] at this
  obtain ⟨T', hrd, hkp, ht⟩ := this
  have hws := h.below.size
  have hno : ∀ b ∈ (d :: vf.ownBlock.toList), T b ≠ 0 := fun b hm => by
    simp only [List.mem_cons, Option.mem_toList] at hm
    rcases hm with rfl | hm
    · rw [h.rd.td]; omega
    · rw [h.rd.tf b hm]; omega
  refine ⟨T', _, hrd, fun b hlt => by rw [ht b (by omega)]; exact h.low b hlt, below_keep h.below hkp (fun b hm => ?_), fun b hlt h0 => ⟨hkp.block b hlt (fun hm => hno b hm h0), by rw [ht b hlt]; exact h0⟩⟩
  rcases Nat.lt_or_ge b w.heap.size with hlt | hge
  · exact absurd (h.low b hlt) (hno b hm)
  · exact hge
/-- .. and has its name -/
theorem rn_named {w W w2 : World} {d room : Nat} {fs : List Fj} {T : Nat → Nat} {fb : Nat → Nat} {vf vn : Value} {f : Fj} {g c2 k : Nat} (hk : fs.length = k) (hrd : Rd T W d fb { newR room fs with fl := (newR room fs).fl ++ [⟨f.data, f.sure.toNat⟩] } vf vn (.slice none 0 0) (.slice none 0 0)) (hlow : ∀ b, b < w.heap.size → T b = 0) (hbe : Below w.heap.size w W) (hn : look (newR room fs).now (ky f.name) = none) (hl : k < 8388608)
    (hown : w2.ownsRow 0 98 2 (.slice (some ⟨g, 0, none⟩) ((newR room fs).now.length + 1) c2) ((newR room fs).now.length + 1) (enRow (ins (newR room fs).now (ky f.name) k))) (kk : Keep vn.ownBlock.toList W w2) (hat : vn.ownBlock = some g ∨ W.heap.size ≤ g) :
    ∃ T', RnI w d room (fs ++ [f]) (w2.setCell ⟨d, 2, none⟩ (.slice (some ⟨g, 0, none⟩) ((newR room fs).now.length + 1) c2)) T' fb vf (.slice (some ⟨g, 0, none⟩) ((newR room fs).now.length + 1) c2) ∧ ∀ b, b < W.heap.size → T b = 0 → (w2.setCell ⟨d, 2, none⟩ (.slice (some ⟨g, 0, none⟩) ((newR room fs).now.length + 1) c2)).heap[b]? = W.heap[b]? := by
  have hl1 : (newR room fs).fl.length = k := by show (flOf fs).length = k; rw [flOf_len]; exact hk
  have hnl : (newR room fs).now.length ≤ k := by
    have := addAll_len fs [] 0
    simp at this
    show (addAll [] 0 fs).length ≤ k
    omega
  have := hrd.named (k := ky f.name) (i := k) (g := g) (c2 := c2) (w2 := w2) hn (by show k < ((newR room fs).fl ++ [_]).length; simp; omega) (by show (newR room fs).now.length < 9000000; omega) hown kk hat
  obtain ⟨T', h1, hkp, ht⟩ := this
  have hws := hbe.size
  have hno : ∀ b ∈ (d :: vn.ownBlock.toList), T b ≠ 0 := fun b hm => by
    simp only [List.mem_cons, Option.mem_toList] at hm
    rcases hm with rfl | hm
    · rw [hrd.td]; omega
    · rw [hrd.tn b hm]; omega
  refine ⟨T', ⟨?_, fun b hlt => by rw [ht b (by omega)]; exact hlow b hlt, below_keep hbe hkp (fun b hm => ?_)⟩, fun b hlt h0 => hkp.block b hlt (fun hm => hno b hm h0)⟩
  · rw [newR_snoc, hl1]
    exact h1
  · rcases Nat.lt_or_ge b w.heap.size with hlt | hge
    · exact absurd (hlow b hlt) (hno b hm)
    · exact hge
/-- What the reference's New answers. -/
def RNewAns (w : World) (R : Int) (fs : List Fj) (e : Ending) (w' : World) : Prop := (okNew R fs = false ∧ e = .returned (.tuple #[.pointer none, .int .i64 36])) ∨ (okNew R fs = true ∧ ∃ d T fb vf vn vs vc, w.heap.size ≤ d ∧ e = .returned (.tuple #[.pointer (some ⟨d, 0, none⟩), .int .i64 0]) ∧ Rd T w' d fb { newR R.toNat fs with su := (newR R.toNat fs).now } vf vn vs vc ∧ ∀ b, b < w.heap.size → T b = 0)
theorem sumF_le2 {fs : List Fj} (h : fs.all okF = true) : sumF fs ≤ fs.length * 2147483648 := by
  induction fs with
  | nil => simp [sumF]
  | cons f r ih =>
    simp only [List.all_cons, Bool.and_eq_true] at h
    have h1 := ih h.2
    have h2 : f.data.length ≤ 2147483648 := by
      have := h.1
      unfold okF at this
      simp only [Bool.and_eq_true, decide_eq_true_eq] at this
      exact this.1.1.2
    have e : sumF (f :: r) = f.data.length + sumF r := by simp [sumF]
    rw [e, List.length_cons]
    omega
theorem okNew_neg {R : Int} {fs : List Fj} (h : R < 0) : okNew R fs = false := by
  unfold okNew
  rw [decide_eq_false (by omega)]
  rfl
theorem okNew_many {R : Int} {fs : List Fj} (h : 8388608 < fs.length) : okNew R fs = false := by
  unfold okNew
  rw [decide_eq_false (p := fs.length ≤ 8388608) (by omega)]
  simp
theorem okNew_bad {R : Int} {fs : List Fj} {f : Fj} (hm : f ∈ fs) (h : okF f = false) : okNew R fs = false := by
  have : fs.all okF = false := by
    rw [List.all_eq_false]
    exact ⟨f, hm, by rw [h]; simp⟩
  unfold okNew
  rw [this]
  simp
theorem okNew_dup {R : Int} {fs : List Fj} (h : noDup fs = false) : okNew R fs = false := by
  unfold okNew
  rw [h]
  simp
theorem okNew_end {R : Nat} {fs : List Fj} (hl : fs.length ≤ 8388608) (ha : fs.all okF = true) (hd : noDup fs = true) : okNew (R : Int) fs = (decide (R = 0) || decide (sumF fs ≤ R)) := by
  unfold okNew
  rw [decide_eq_true (p := (0 : Int) ≤ (R : Int)) (by omega), decide_eq_true hl, ha, hd]
  have e1 : decide ((R : Int) = 0) = decide (R = 0) := by
    by_cases h : R = 0
    · simp [h]
    · rw [decide_eq_false h, decide_eq_false (by omega)]
  have e2 : decide ((sumF fs : Int) ≤ (R : Int)) = decide (sumF fs ≤ R) := by
    by_cases h : sumF fs ≤ R
    · rw [decide_eq_true h, decide_eq_true (by omega)]
    · rw [decide_eq_false h, decide_eq_false (by omega)]
  rw [e1, e2]
  simp
end Dsk
end Go.Proofs.Ytbloifnibgdeoaa
