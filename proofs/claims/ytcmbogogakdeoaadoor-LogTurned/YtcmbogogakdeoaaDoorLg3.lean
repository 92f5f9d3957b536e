import Derived.Test.YtcmbogogakdeoaaDoorLg2
import Derived.Test.YtcmbogogakdeoaaDoorGr1
namespace Go.Proofs.YtcmbogogakdeoaaDoor
namespace Lgg
open Go.RowKit CMath Byt Cod Lg Laws Grp
set_option linter.unusedVariables false
set_option linter.unusedSimpArgs false
set_option maxRecDepth 20000

/-- what write answers where nothing went wrong -/
theorem rdW_eq (l : List Nat) : rdW l = if (knd l).2.2 ≠ 0 then (noW, [], (knd l).2.2) else if (ky (knd l).2.1).2.2 ≠ 0 then (noW, [], (ky (knd l).2.1).2.2) else if (knd l).1 = 1 then ((ofB (ky (knd l).2.1).1, true, ⟨#[]⟩), (ky (knd l).2.1).2.1, 0)
    else if (text (ky (knd l).2.1).2.1 512).2.2 ≠ 0 then (noW, [], (text (ky (knd l).2.1).2.1 512).2.2) else ((ofB (ky (knd l).2.1).1, false, ofB (text (ky (knd l).2.1).2.1 512).1), (ky (knd l).2.1).2.1.drop (text (ky (knd l).2.1).2.1 512).2.1, 0) := by
  cases l with
  | nil => rfl
  | cons c r =>
    by_cases h1 : 1 < c
    · have ek : knd (c :: r) = (0, c :: r, 21) := by simp [knd, h1]
      rw [ek]
      simp [rdW, h1]
    · have ek : knd (c :: r) = (c, r, 0) := by simp [knd, h1]
      rw [ek]
      simp only [rdW, if_neg h1, ky]
      by_cases h2 : (text r 64).2.2 = 0
      · by_cases h3 : (text r 64).1 = []
        · simp [h2, h3]
        · simp [h2, h3]
      · simp [h2]
abbrev zW : Obj := .cells #[.string ⟨#[]⟩, .bool false, .string ⟨#[]⟩] 40

def st1 (l : List Nat) (e : Nat) : Nat × List Nat × Nat := if e = 0 then knd l else (0, l, e)
def st2 (l : List Nat) (e : Nat) : List Nat × List Nat × Nat := if e = 0 then ky l else ([], l, e)
def st3 (l : List Nat) (e : Nat) : List Nat × List Nat × Nat := if e = 0 then ((text l 512).1, l.drop (text l 512).2.1, (text l 512).2.2) else ([], l, e)
theorem kind_all (R : Nat) (l : List Nat) (e : Nat) (w : World) (h : Rd w R l e) :
    Calls Tryd.prog 41 #[.pointer (some ⟨R, 0, none⟩)] w fun r w' => r = .returned (.int .u8 ((st1 l e).1 : Nat)) ∧ Rd w' R (st1 l e).2.1 (st1 l e).2.2 ∧ Keep [R] w w' := by
  unfold st1
  by_cases he : e = 0
  · subst he; rw [if_pos rfl]; exact kind_any R l w h
  · rw [if_neg he]
    exact (kind_err R l e w h he).mono fun r w' ⟨h1, h2⟩ => ⟨h1, by rw [h2]; exact h, by rw [h2]; exact Keep.refl _ _⟩
theorem key_all (R : Nat) (l : List Nat) (e : Nat) (w : World) (h : Rd w R l e) :
    Calls Tryd.prog 42 #[.pointer (some ⟨R, 0, none⟩)] w fun r w' => r = .returned (.string (ofB (st2 l e).1)) ∧ Rd w' R (st2 l e).2.1 (st2 l e).2.2 ∧ Keep [R] w w' := by
  unfold st2
  by_cases he : e = 0
  · subst he; rw [if_pos rfl]; exact key_any R l w h
  · rw [if_neg he]
    exact (key_err R l e w h he).mono fun r w' ⟨h1, h2⟩ => ⟨h1, by rw [h2]; exact h, by rw [h2]; exact Keep.refl _ _⟩
theorem val_all (R : Nat) (l : List Nat) (e : Nat) (w : World) (h : Rd w R l e) :
    Calls Tryd.prog 43 #[.pointer (some ⟨R, 0, none⟩), .int .i64 512] w fun r w' => r = .returned (.string (ofB (st3 l e).1)) ∧ Rd w' R (st3 l e).2.1 (st3 l e).2.2 ∧ Keep [R] w w' := by
  unfold st3
  by_cases he : e = 0
  · subst he; rw [if_pos rfl]; exact text_any' R l 512 w h (by omega)
  · rw [if_neg he]
    exact (text_err R l e 512 w h he).mono fun r w' ⟨h1, h2⟩ => ⟨h1, by rw [h2]; exact h, by rw [h2]; exact Keep.refl _ _⟩
theorem ofB_size (s : List Nat) : (ofB s).size = s.length := by simp [ofB, ByteArray.size]
theorem text_len (l : List Nat) (m : Nat) : (text l (m : Int)).1.length ≤ m := by
  unfold text
  split
  · simp
  · split
    · simp
    · split
      · simp
      · simp; omega
/-- a block of three cells -/
structure Bx (W : World) (B : Nat) (k : ByteArray) (d : Bool) (v : ByteArray) : Prop where
  lt : B < W.heap.size
  c0 : W.cell? ⟨B, 0, none⟩ = some (.string k)
  c1 : W.cell? ⟨B, 1, none⟩ = some (.bool d)
  c2 : W.cell? ⟨B, 2, none⟩ = some (.string v)
  fr : ∀ j, W.frozen? ⟨B, j, none⟩ = false
theorem Bx.keep {W W' : World} {B R : Nat} {k : ByteArray} {d : Bool} {v : ByteArray} (h : Bx W B k d v) (hk : Keep [R] W W') (hB : B ≠ R) : Bx W' B k d v :=
  have hm : B ∉ [R] := by simpa using hB
  ⟨Nat.lt_of_lt_of_le h.lt hk.size, (hk.cell (p := ⟨B, 0, none⟩) h.lt hm).trans h.c0, (hk.cell (p := ⟨B, 1, none⟩) h.lt hm).trans h.c1, (hk.cell (p := ⟨B, 2, none⟩) h.lt hm).trans h.c2, fun j => (hk.frozen (p := ⟨B, j, none⟩) h.lt hm).trans (h.fr j)⟩
theorem Bx.set1 {W : World} {B : Nat} {k : ByteArray} {d : Bool} {v : ByteArray} (h : Bx W B k d v) (d' : Bool) : Bx (W.setCell ⟨B, 1, none⟩ (.bool d')) B k d' v :=
  ⟨by simpa using h.lt, by rw [World.cell?_setCell_other _ _ _ _ (by simp)]; exact h.c0, World.cell?_setCell_same _ _ _ h.c1, by rw [World.cell?_setCell_other _ _ _ _ (by simp)]; exact h.c2, fun j => by rw [World.frozen?_setCell]; exact h.fr j⟩
theorem Bx.set0 {W : World} {B : Nat} {k : ByteArray} {d : Bool} {v : ByteArray} (h : Bx W B k d v) (k' : ByteArray) : Bx (W.setCell ⟨B, 0, none⟩ (.string k')) B k' d v :=
  ⟨by simpa using h.lt, World.cell?_setCell_same _ _ _ h.c0, by rw [World.cell?_setCell_other _ _ _ _ (by simp)]; exact h.c1, by rw [World.cell?_setCell_other _ _ _ _ (by simp)]; exact h.c2, fun j => by rw [World.frozen?_setCell]; exact h.fr j⟩
theorem Bx.set2 {W : World} {B : Nat} {k : ByteArray} {d : Bool} {v : ByteArray} (h : Bx W B k d v) (v' : ByteArray) : Bx (W.setCell ⟨B, 2, none⟩ (.string v')) B k d v' :=
  ⟨by simpa using h.lt, by rw [World.cell?_setCell_other _ _ _ _ (by simp)]; exact h.c0, by rw [World.cell?_setCell_other _ _ _ _ (by simp)]; exact h.c1, World.cell?_setCell_same _ _ _ h.c2, fun j => by rw [World.frozen?_setCell]; exact h.fr j⟩
theorem Bx.new (W : World) : Bx (W.alloc zW) W.heap.size ⟨#[]⟩ false ⟨#[]⟩ :=
  ⟨by simp, by rw [World.cell?_alloc_at _ _ _ _ rfl]; rfl, by rw [World.cell?_alloc_at _ _ _ _ rfl]; rfl, by rw [World.cell?_alloc_at _ _ _ _ rfl]; rfl, fun j => World.frozen?_alloc_at _ _ _ _ rfl⟩

set_option maxHeartbeats 2000000 in
theorem write_raw (R : Nat) (l l1 l2 l3 : List Nat) (e c e1 e2 e3 : Nat) (s v : List Nat) (w : World) (h : Rd w R l e)
    (C1 : ∀ W, Rd W R l e → Calls Tryd.prog 41 #[.pointer (some ⟨R, 0, none⟩)] W fun r w' => r = .returned (.int .u8 (c : Nat)) ∧ Rd w' R l1 e1 ∧ Keep [R] W w')
    (C2 : ∀ W, Rd W R l1 e1 → Calls Tryd.prog 42 #[.pointer (some ⟨R, 0, none⟩)] W fun r w' => r = .returned (.string (ofB s)) ∧ Rd w' R l2 e2 ∧ Keep [R] W w')
    (C3 : ∀ W, Rd W R l2 e2 → Calls Tryd.prog 43 #[.pointer (some ⟨R, 0, none⟩), .int .i64 512] W fun r w' => r = .returned (.string (ofB v)) ∧ Rd w' R l3 e3 ∧ Keep [R] W w') :
    Calls Tryd.prog 39 #[.pointer (some ⟨R, 0, none⟩)] w fun r w' => if c = 1 then r = .returned (.agg #[.string (ofB s), .bool true, .string ⟨#[]⟩]) ∧ Rd w' R l2 e2 ∧ Keep [R] w w' else r = .returned (.agg #[.string (ofB s), .bool false, .string (ofB v)]) ∧ Rd w' R l3 e3 ∧ Keep [R] w w' := by
  have hlt := h.lt
  have HB0 : Hid (Bx ((w.alloc zW).alloc zW) (w.heap.size + 1) ⟨#[]⟩ false ⟨#[]⟩ ∧ Bx ((w.alloc zW).alloc zW) w.heap.size ⟨#[]⟩ false ⟨#[]⟩) := by
    have h1 := Bx.new (w.alloc zW)
    rw [show (w.alloc zW).heap.size = w.heap.size + 1 by simp] at h1
    exact ⟨h1, (Bx.new w).keep (R := w.heap.size + 1) (Keep.alloc _ _ _) (by omega)⟩
  have HK0 : Hid (Keep [R] w ((w.alloc zW).alloc zW)) := (Keep.alloc _ _ _).trans (Keep.alloc _ _ _)
  have HR1 : Hid (Rd ((w.alloc zW).alloc zW) R l e) := h.below (((Below.refl _ _).alloc (Nat.le_refl _) _).alloc (by simp) _)
  have H1 : Hid (∀ W, Rd W R l e → Calls Tryd.prog 41 #[.pointer (some ⟨R, 0, none⟩)] W fun r w' => r = .returned (.int .u8 (c : Nat)) ∧ Rd w' R l1 e1 ∧ Keep [R] W w') := C1
  have H2 : Hid (∀ W, Rd W R l1 e1 → Calls Tryd.prog 42 #[.pointer (some ⟨R, 0, none⟩)] W fun r w' => r = .returned (.string (ofB s)) ∧ Rd w' R l2 e2 ∧ Keep [R] W w') := C2
  have H3 : Hid (∀ W, Rd W R l2 e2 → Calls Tryd.prog 43 #[.pointer (some ⟨R, 0, none⟩), .int .i64 512] W fun r w' => r = .returned (.string (ofB v)) ∧ Rd w' R l3 e3 ∧ Keep [R] W w') := C3
  clear C1 C2 C3 h
  by_cases hc : c = 1
  · subst hc
    rw [show (fun r w' => if (1 : Nat) = 1 then r = Ending.returned (.agg #[.string (ofB s), .bool true, .string ⟨#[]⟩]) ∧ Rd w' R l2 e2 ∧ Keep [R] w w' else r = .returned (.agg #[.string (ofB s), .bool false, .string (ofB v)]) ∧ Rd w' R l3 e3 ∧ Keep [R] w w') = (fun r w' => r = Ending.returned (.agg #[.string (ofB s), .bool true, .string ⟨#[]⟩]) ∧ Rd w' R l2 e2 ∧ Keep [R] w w') by funext r w'; simp]
    go_enter Tryd.func39, Tryd.ntmps39
    go_wp2_with (first
      | (go_at_call 41; refine (H1.out _ HR1.out).mono ?_; rintro r w1 ⟨rfl, hr1, hk1⟩; have HS1 : Hid (Bx w1 (w.heap.size + 1) ⟨#[]⟩ false ⟨#[]⟩ ∧ Bx w1 w.heap.size ⟨#[]⟩ false ⟨#[]⟩ ∧ Rd w1 R l1 e1 ∧ Keep [R] w w1) := ⟨HB0.out.1.keep hk1 (by omega), HB0.out.2.keep hk1 (by omega), hr1, HK0.out.trans hk1⟩; have x1 := HS1.out.1.c1; have y1 := HS1.out.1.fr 1; clear hr1 hk1)
      | (go_at_call 42; have hb2 := HS1.out.1.set1 true; have ha2 := HS1.out.2.1.keep (Keep.set w1 (w.heap.size + 1) 1 (.bool true)) (by omega); have hr2 := HS1.out.2.2.1.other (Keep.set w1 (w.heap.size + 1) 1 (.bool true)) (by omega); have hk2 : Keep [R] w (w1.setCell ⟨w.heap.size + 1, 1, none⟩ (.bool true)) := HS1.out.2.2.2.later (Keep.set w1 (w.heap.size + 1) 1 (.bool true)) (by simp); refine (H2.out _ hr2).mono ?_; rintro r w2 ⟨rfl, hr3, hk3⟩; have HS2 : Hid (Bx w2 (w.heap.size + 1) ⟨#[]⟩ true ⟨#[]⟩ ∧ Bx w2 w.heap.size ⟨#[]⟩ false ⟨#[]⟩ ∧ Rd w2 R l2 e2 ∧ Keep [R] w w2) := ⟨hb2.keep hk3 (by omega), ha2.keep hk3 (by omega), hr3, hk2.trans hk3⟩; have x2 := HS2.out.1.c0; have x3 := HS2.out.1.c1; have x4 := HS2.out.1.c2; have y2 := HS2.out.1.fr 0; have z0 := HS2.out.2.1.c0; have z1 := HS2.out.2.1.c1; have z2 := HS2.out.2.1.c2; have z3 := HS2.out.2.1.fr 0; have z4 := HS2.out.2.1.fr 1; have z5 := HS2.out.2.1.fr 2; clear hb2 ha2 hr2 hk2 hr3 hk3 x1 y1))
    have ha : Bx ((((w2.setCell ⟨w.heap.size + 1, 0, none⟩ (.string (ofB s))).setCell ⟨w.heap.size, 0, none⟩ (.string (ofB s))).setCell ⟨w.heap.size, 1, none⟩ (.bool true)).setCell ⟨w.heap.size, 2, none⟩ (.string ⟨#[]⟩)) w.heap.size (ofB s) true ⟨#[]⟩ := (((HS2.out.2.1.keep (Keep.set _ (w.heap.size + 1) 0 _) (by omega)).set0 (ofB s)).set1 true).set2 ⟨#[]⟩
    have hkk : Keep [w.heap.size] (w2.setCell ⟨w.heap.size + 1, 0, none⟩ (.string (ofB s))) ((((w2.setCell ⟨w.heap.size + 1, 0, none⟩ (.string (ofB s))).setCell ⟨w.heap.size, 0, none⟩ (.string (ofB s))).setCell ⟨w.heap.size, 1, none⟩ (.bool true)).setCell ⟨w.heap.size, 2, none⟩ (.string ⟨#[]⟩)) := ((Keep.set _ w.heap.size 0 _).trans (Keep.set _ w.heap.size 1 _)).trans (Keep.set _ w.heap.size 2 _)
    have hrr : Rd ((((w2.setCell ⟨w.heap.size + 1, 0, none⟩ (.string (ofB s))).setCell ⟨w.heap.size, 0, none⟩ (.string (ofB s))).setCell ⟨w.heap.size, 1, none⟩ (.bool true)).setCell ⟨w.heap.size, 2, none⟩ (.string ⟨#[]⟩)) R l2 e2 := (HS2.out.2.2.1.other (Keep.set _ (w.heap.size + 1) 0 _) (by omega)).other hkk (by omega)
    have hkw : Keep [R] w ((((w2.setCell ⟨w.heap.size + 1, 0, none⟩ (.string (ofB s))).setCell ⟨w.heap.size, 0, none⟩ (.string (ofB s))).setCell ⟨w.heap.size, 1, none⟩ (.bool true)).setCell ⟨w.heap.size, 2, none⟩ (.string ⟨#[]⟩)) := ((HS2.out.2.2.2.later (Keep.set _ (w.heap.size + 1) 0 _) (by simp)).later hkk (by simp))
    have a0 := ha.c0
    have a1 := ha.c1
    have a2 := ha.c2
    refine bodyPost_ret (v := .agg #[.string (ofB s), .bool true, .string ⟨#[]⟩]) ?_ rfl ⟨rfl, hrr, hkw⟩
    simp [results, Tryd.results39, go_sem, a0, a1, a2]
  · have q1 : ((c : Int) == 1) = false := by simp; omega
    have q2 : ¬ (c : Int) = 1 := by omega
    rw [show (fun r w' => if c = 1 then r = Ending.returned (.agg #[.string (ofB s), .bool true, .string ⟨#[]⟩]) ∧ Rd w' R l2 e2 ∧ Keep [R] w w' else r = .returned (.agg #[.string (ofB s), .bool false, .string (ofB v)]) ∧ Rd w' R l3 e3 ∧ Keep [R] w w') = (fun r w' => r = Ending.returned (.agg #[.string (ofB s), .bool false, .string (ofB v)]) ∧ Rd w' R l3 e3 ∧ Keep [R] w w') by funext r w'; simp [hc]]
    go_enter Tryd.func39, Tryd.ntmps39
    go_wp2_with (first
      | (go_at_call 41; refine (H1.out _ HR1.out).mono ?_; rintro r w1 ⟨rfl, hr1, hk1⟩; have HS1 : Hid (Bx w1 (w.heap.size + 1) ⟨#[]⟩ false ⟨#[]⟩ ∧ Bx w1 w.heap.size ⟨#[]⟩ false ⟨#[]⟩ ∧ Rd w1 R l1 e1 ∧ Keep [R] w w1) := ⟨HB0.out.1.keep hk1 (by omega), HB0.out.2.keep hk1 (by omega), hr1, HK0.out.trans hk1⟩; have x1 := HS1.out.1.c1; have y1 := HS1.out.1.fr 1; clear hr1 hk1)
      | (go_at_call 42; have hb2 := HS1.out.1.set1 false; have ha2 := HS1.out.2.1.keep (Keep.set w1 (w.heap.size + 1) 1 (.bool false)) (by omega); have hr2 := HS1.out.2.2.1.other (Keep.set w1 (w.heap.size + 1) 1 (.bool false)) (by omega); have hk2 : Keep [R] w (w1.setCell ⟨w.heap.size + 1, 1, none⟩ (.bool false)) := HS1.out.2.2.2.later (Keep.set w1 (w.heap.size + 1) 1 (.bool false)) (by simp); refine (H2.out _ hr2).mono ?_; rintro r w2 ⟨rfl, hr3, hk3⟩; have HS2 : Hid (Bx w2 (w.heap.size + 1) ⟨#[]⟩ false ⟨#[]⟩ ∧ Bx w2 w.heap.size ⟨#[]⟩ false ⟨#[]⟩ ∧ Rd w2 R l2 e2 ∧ Keep [R] w w2) := ⟨hb2.keep hk3 (by omega), ha2.keep hk3 (by omega), hr3, hk2.trans hk3⟩; have x2 := HS2.out.1.c0; have x3 := HS2.out.1.c1; have x4 := HS2.out.1.c2; have y2 := HS2.out.1.fr 0; clear hb2 ha2 hr2 hk2 hr3 hk3 x1 y1)
      | (go_at_call 43; have hb2 := HS2.out.1.set0 (ofB s); have ha2 := HS2.out.2.1.keep (Keep.set w2 (w.heap.size + 1) 0 (.string (ofB s))) (by omega); have hr2 := HS2.out.2.2.1.other (Keep.set w2 (w.heap.size + 1) 0 (.string (ofB s))) (by omega); have hk2 : Keep [R] w (w2.setCell ⟨w.heap.size + 1, 0, none⟩ (.string (ofB s))) := HS2.out.2.2.2.later (Keep.set w2 (w.heap.size + 1) 0 (.string (ofB s))) (by simp); refine (H3.out _ hr2).mono ?_; rintro r w3 ⟨rfl, hr3, hk3⟩; have HS3 : Hid (Bx w3 (w.heap.size + 1) (ofB s) false ⟨#[]⟩ ∧ Bx w3 w.heap.size ⟨#[]⟩ false ⟨#[]⟩ ∧ Rd w3 R l3 e3 ∧ Keep [R] w w3) := ⟨hb2.keep hk3 (by omega), ha2.keep hk3 (by omega), hr3, hk2.trans hk3⟩; clear x2 x3 x4 y2; have x2 := HS3.out.1.c0; have x3 := HS3.out.1.c1; have x4 := HS3.out.1.c2; have y2 := HS3.out.1.fr 2; have z0 := HS3.out.2.1.c0; have z1 := HS3.out.2.1.c1; have z2 := HS3.out.2.1.c2; have z3 := HS3.out.2.1.fr 0; have z4 := HS3.out.2.1.fr 1; have z5 := HS3.out.2.1.fr 2; clear hb2 ha2 hr2 hk2 hr3 hk3))
    have ha : Bx ((((w3.setCell ⟨w.heap.size + 1, 2, none⟩ (.string (ofB v))).setCell ⟨w.heap.size, 0, none⟩ (.string (ofB s))).setCell ⟨w.heap.size, 1, none⟩ (.bool false)).setCell ⟨w.heap.size, 2, none⟩ (.string (ofB v))) w.heap.size (ofB s) false (ofB v) := (((HS3.out.2.1.keep (Keep.set _ (w.heap.size + 1) 2 _) (by omega)).set0 (ofB s)).set1 false).set2 (ofB v)
    have hkk : Keep [w.heap.size] (w3.setCell ⟨w.heap.size + 1, 2, none⟩ (.string (ofB v))) ((((w3.setCell ⟨w.heap.size + 1, 2, none⟩ (.string (ofB v))).setCell ⟨w.heap.size, 0, none⟩ (.string (ofB s))).setCell ⟨w.heap.size, 1, none⟩ (.bool false)).setCell ⟨w.heap.size, 2, none⟩ (.string (ofB v))) := ((Keep.set _ w.heap.size 0 _).trans (Keep.set _ w.heap.size 1 _)).trans (Keep.set _ w.heap.size 2 _)
    have hrr : Rd ((((w3.setCell ⟨w.heap.size + 1, 2, none⟩ (.string (ofB v))).setCell ⟨w.heap.size, 0, none⟩ (.string (ofB s))).setCell ⟨w.heap.size, 1, none⟩ (.bool false)).setCell ⟨w.heap.size, 2, none⟩ (.string (ofB v))) R l3 e3 := (HS3.out.2.2.1.other (Keep.set _ (w.heap.size + 1) 2 _) (by omega)).other hkk (by omega)
    have hkw : Keep [R] w ((((w3.setCell ⟨w.heap.size + 1, 2, none⟩ (.string (ofB v))).setCell ⟨w.heap.size, 0, none⟩ (.string (ofB s))).setCell ⟨w.heap.size, 1, none⟩ (.bool false)).setCell ⟨w.heap.size, 2, none⟩ (.string (ofB v))) := ((HS3.out.2.2.2.later (Keep.set _ (w.heap.size + 1) 2 _) (by simp)).later hkk (by simp))
    have a0 := ha.c0
    have a1 := ha.c1
    have a2 := ha.c2
    refine bodyPost_ret (v := .agg #[.string (ofB s), .bool false, .string (ofB v)]) ?_ rfl ⟨rfl, hrr, hkw⟩
    simp [results, Tryd.results39, go_sem, a0, a1, a2]

/-- what is read of a write -/
theorem write_any (R : Nat) (l : List Nat) (e : Nat) (w : World) (h : Rd w R l e) :
    Calls Tryd.prog 39 #[.pointer (some ⟨R, 0, none⟩)] w fun r w' => ∃ (x : W3) (l' : List Nat) (f : Nat), r = .returned (.agg #[.string x.1, .bool x.2.1, .string x.2.2]) ∧ Rd w' R l' f ∧ Keep [R] w w' ∧ x.1.size ≤ 1000 ∧ x.2.2.size ≤ 1000 ∧ (e = 0 → f = (rdW l).2.2 ∧ (f = 0 → x = (rdW l).1 ∧ l' = (rdW l).2.1)) ∧ (e ≠ 0 → f = e) := by
  have hW := write_raw R l (st1 l e).2.1 (st2 (st1 l e).2.1 (st1 l e).2.2).2.1 (st3 (st2 (st1 l e).2.1 (st1 l e).2.2).2.1 (st2 (st1 l e).2.1 (st1 l e).2.2).2.2).2.1 e (st1 l e).1 (st1 l e).2.2 (st2 (st1 l e).2.1 (st1 l e).2.2).2.2 (st3 (st2 (st1 l e).2.1 (st1 l e).2.2).2.1 (st2 (st1 l e).2.1 (st1 l e).2.2).2.2).2.2 (st2 (st1 l e).2.1 (st1 l e).2.2).1 (st3 (st2 (st1 l e).2.1 (st1 l e).2.2).2.1 (st2 (st1 l e).2.1 (st1 l e).2.2).2.2).1 w h (fun W hW => kind_all R l e W hW) (fun W hW => key_all R _ _ W hW) (fun W hW => val_all R _ _ W hW)
  have hz : (ofB []).size ≤ 1000 := by simp [ofB, ByteArray.size]
  have hks : ∀ l, (ofB (text l 64).1).size ≤ 1000 := fun l => by have := text_len l 64; rw [ofB_size]; simp at this; omega
  have hvs : ∀ l, (ofB (text l 512).1).size ≤ 1000 := fun l => by have := text_len l 512; rw [ofB_size]; simp at this; omega
  have h2s : ∀ l e, (ofB (st2 l e).1).size ≤ 1000 := fun l e => by unfold st2 ky; split; exact hks _; exact hz
  have h3s : ∀ l e, (ofB (st3 l e).1).size ≤ 1000 := fun l e => by unfold st3; split; exact hvs _; exact hz
  have he := rdW_eq l
  refine hW.mono fun r w' hr => ?_
  by_cases h0 : e = 0
  · subst h0
    have e1 : st1 l 0 = knd l := if_pos rfl
    rw [e1] at hr
    by_cases hk : (knd l).2.2 = 0
    · have e2 : st2 (knd l).2.1 (knd l).2.2 = ky (knd l).2.1 := if_pos hk
      have h2 := h2s (knd l).2.1 (knd l).2.2
      rw [e2] at hr h2
      rw [if_neg (by simpa using hk)] at he
      by_cases hy : (ky (knd l).2.1).2.2 = 0
      · have e3 : st3 (ky (knd l).2.1).2.1 (ky (knd l).2.1).2.2 = ((text (ky (knd l).2.1).2.1 512).1, (ky (knd l).2.1).2.1.drop (text (ky (knd l).2.1).2.1 512).2.1, (text (ky (knd l).2.1).2.1 512).2.2) := if_pos hy
        rw [e3] at hr
        rw [if_neg (by simpa using hy)] at he
        by_cases hc : (knd l).1 = 1
        · rw [if_pos hc] at hr he
          obtain ⟨a1, a2, a3⟩ := hr
          refine ⟨(_, _, _), _, _, a1, a2, a3, h2, hz, fun _ => ?_, fun h => absurd rfl h⟩
          rw [he, hy]
          exact ⟨rfl, fun _ => ⟨rfl, rfl⟩⟩
        · rw [if_neg hc] at hr he
          obtain ⟨a1, a2, a3⟩ := hr
          refine ⟨(_, _, _), _, _, a1, a2, a3, h2, hvs _, fun _ => ?_, fun h => absurd rfl h⟩
          by_cases ht : (text (ky (knd l).2.1).2.1 512).2.2 = 0
          · rw [if_neg (by simpa using ht)] at he
            rw [he, ht]
            exact ⟨rfl, fun _ => ⟨rfl, rfl⟩⟩
          · rw [if_pos ht] at he
            rw [he]
            exact ⟨rfl, fun h => absurd h ht⟩
      · have e3 : st3 (ky (knd l).2.1).2.1 (ky (knd l).2.1).2.2 = ([], (ky (knd l).2.1).2.1, (ky (knd l).2.1).2.2) := if_neg hy
        rw [e3] at hr
        rw [if_pos hy] at he
        split at hr
        · obtain ⟨a1, a2, a3⟩ := hr
          exact ⟨(_, _, _), _, _, a1, a2, a3, h2, hz, fun _ => by rw [he]; exact ⟨rfl, fun h => absurd h hy⟩, fun h => absurd rfl h⟩
        · obtain ⟨a1, a2, a3⟩ := hr
          exact ⟨(_, _, _), _, _, a1, a2, a3, h2, hz, fun _ => by rw [he]; exact ⟨rfl, fun h => absurd h hy⟩, fun h => absurd rfl h⟩
    · have e2 : st2 (knd l).2.1 (knd l).2.2 = ([], (knd l).2.1, (knd l).2.2) := if_neg hk
      rw [e2] at hr
      have e3 : st3 (knd l).2.1 (knd l).2.2 = ([], (knd l).2.1, (knd l).2.2) := if_neg hk
      rw [e3] at hr
      rw [if_pos hk] at he
      split at hr
      · obtain ⟨a1, a2, a3⟩ := hr
        exact ⟨(_, _, _), _, _, a1, a2, a3, hz, hz, fun _ => by rw [he]; exact ⟨rfl, fun h => absurd h hk⟩, fun h => absurd rfl h⟩
      · obtain ⟨a1, a2, a3⟩ := hr
        exact ⟨(_, _, _), _, _, a1, a2, a3, hz, hz, fun _ => by rw [he]; exact ⟨rfl, fun h => absurd h hk⟩, fun h => absurd rfl h⟩
  · have e1 : st1 l e = (0, l, e) := if_neg h0
    rw [e1] at hr
    have e2 : st2 l e = ([], l, e) := if_neg h0
    rw [e2] at hr
    have e3 : st3 l e = ([], l, e) := if_neg h0
    rw [e3, if_neg (by simp)] at hr
    obtain ⟨a1, a2, a3⟩ := hr
    exact ⟨(_, _, _), _, _, a1, a2, a3, hz, hz, fun h => absurd h h0, fun _ => rfl⟩

end Lgg
end Go.Proofs.YtcmbogogakdeoaaDoor
