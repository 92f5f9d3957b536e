import Derived.Test.YtkknpcpioodhaaaGreatDoorProg
import Derived.Test.YtkknpcpioodhaaaGreatDoorBookF
import Derived.Test.YtkknpcpioodhaaaGreatDoorBat
import Derived.Test.YtkknpcpioodhaaaGreatDoorEntsR
import Derived.WalkKit
import Derived.WalkSpells
import Derived.WalkLawsBesides
import Derived.Deep.RegionHeld3
import Derived.Deep.DrawnRows
import Derived.WalkSmall
namespace Go.Proofs.YtkknpcpioodhaaaGreatDoor
namespace Book
open Go.RowKit KMath Cmp Ent Chk Bat Wei Ents Laws
set_option linter.unusedVariables false
attribute [local go_sem ↓] Go.wp_at_zero Go.wp_at_succ

/-- A call of a script as a value. -/
abbrev opV (kind : Int) (key : ByteArray) (k1 : ByteArray) (s1 : Int) (d1 : Bool) (v1 : ByteArray) (k2 : ByteArray) (s2 : Int) (d2 : Bool) (v2 : ByteArray) (first : Int) (aL : Option Addr) (n cL : Nat) : Value := .agg #[.int .i64 kind, .string key, .string k1, .int .u64 s1, .bool d1, .string v1, .string k2, .int .u64 s2, .bool d2, .string v2, .int .u64 first, .slice aL n cL]

theorem beq {w w' : World} (h : w' = w) : Below w.heap.size w w' := by subst h; exact Below.refl _ _
theorem keepP {kind : Int} {key : ByteArray} {k1 : ByteArray} {s1 : Int} {d1 : Bool} {v1 : ByteArray} {k2 : ByteArray} {s2 : Int} {d2 : Bool} {v2 : ByteArray} {first : Int} {aL : Option Addr} {n cL : Nat} {b : Nat} {w W w' : World} (hb : Below W.heap.size W w') (h : W.cell? ⟨b, 0, none⟩ = some (.int .i64 kind) ∧ W.cell? ⟨b, 1, none⟩ = some (.string key) ∧ W.cell? ⟨b, 2, none⟩ = some (.string k1) ∧ W.cell? ⟨b, 3, none⟩ = some (.int .u64 s1) ∧ W.cell? ⟨b, 4, none⟩ = some (.bool d1) ∧ W.cell? ⟨b, 5, none⟩ = some (.string v1) ∧ W.cell? ⟨b, 6, none⟩ = some (.string k2) ∧ W.cell? ⟨b, 7, none⟩ = some (.int .u64 s2) ∧ W.cell? ⟨b, 8, none⟩ = some (.bool d2) ∧ W.cell? ⟨b, 9, none⟩ = some (.string v2) ∧ W.cell? ⟨b, 10, none⟩ = some (.int .u64 first) ∧ W.cell? ⟨b, 11, none⟩ = some (.slice aL n cL) ∧ b < W.heap.size ∧ Below w.heap.size w W) : w'.cell? ⟨b, 0, none⟩ = some (.int .i64 kind) ∧ w'.cell? ⟨b, 1, none⟩ = some (.string key) ∧ w'.cell? ⟨b, 2, none⟩ = some (.string k1) ∧ w'.cell? ⟨b, 3, none⟩ = some (.int .u64 s1) ∧ w'.cell? ⟨b, 4, none⟩ = some (.bool d1) ∧ w'.cell? ⟨b, 5, none⟩ = some (.string v1) ∧ w'.cell? ⟨b, 6, none⟩ = some (.string k2) ∧ w'.cell? ⟨b, 7, none⟩ = some (.int .u64 s2) ∧ w'.cell? ⟨b, 8, none⟩ = some (.bool d2) ∧ w'.cell? ⟨b, 9, none⟩ = some (.string v2) ∧ w'.cell? ⟨b, 10, none⟩ = some (.int .u64 first) ∧ w'.cell? ⟨b, 11, none⟩ = some (.slice aL n cL) ∧ b < w'.heap.size ∧ Below w.heap.size w w' := by
  obtain ⟨c0, c1, c2, c3, c4, c5, c6, c7, c8, c9, c10, c11, hz, hB⟩ := h
  obtain ⟨hc, hf⟩ := bcell hb
  have hs := hb.size
  refine ⟨?_, ?_, ?_, ?_, ?_, ?_, ?_, ?_, ?_, ?_, ?_, ?_, by omega, hB.trans (hb.mono hB.size)⟩
  all_goals (rw [hc _ _ (by omega)]; assumption)
theorem lastP {kind : Int} {key : ByteArray} {k1 : ByteArray} {s1 : Int} {d1 : Bool} {v1 : ByteArray} {k2 : ByteArray} {s2 : Int} {d2 : Bool} {v2 : ByteArray} {first : Int} {aL : Option Addr} {n cL : Nat} {b : Nat} {w W : World} (h : W.cell? ⟨b, 0, none⟩ = some (.int .i64 kind) ∧ W.cell? ⟨b, 1, none⟩ = some (.string key) ∧ W.cell? ⟨b, 2, none⟩ = some (.string k1) ∧ W.cell? ⟨b, 3, none⟩ = some (.int .u64 s1) ∧ W.cell? ⟨b, 4, none⟩ = some (.bool d1) ∧ W.cell? ⟨b, 5, none⟩ = some (.string v1) ∧ W.cell? ⟨b, 6, none⟩ = some (.string k2) ∧ W.cell? ⟨b, 7, none⟩ = some (.int .u64 s2) ∧ W.cell? ⟨b, 8, none⟩ = some (.bool d2) ∧ W.cell? ⟨b, 9, none⟩ = some (.string v2) ∧ W.cell? ⟨b, 10, none⟩ = some (.int .u64 first) ∧ W.cell? ⟨b, 11, none⟩ = some (.slice aL n cL) ∧ b < W.heap.size ∧ Below w.heap.size w W) : Below w.heap.size w W := h.2.2.2.2.2.2.2.2.2.2.2.2.2
theorem startP {kind : Int} {key : ByteArray} {k1 : ByteArray} {s1 : Int} {d1 : Bool} {v1 : ByteArray} {k2 : ByteArray} {s2 : Int} {d2 : Bool} {v2 : ByteArray} {first : Int} {aL : Option Addr} {n cL : Nat} {w w' : World} (hw : w' = (w.alloc (.cells #[.int .i64 kind, .string key, .string k1, .int .u64 s1, .bool d1, .string v1, .string k2, .int .u64 s2, .bool d2, .string v2, .int .u64 first, .slice aL n cL] 51)).drew) : w'.cell? ⟨w.heap.size, 0, none⟩ = some (.int .i64 kind) ∧ w'.cell? ⟨w.heap.size, 1, none⟩ = some (.string key) ∧ w'.cell? ⟨w.heap.size, 2, none⟩ = some (.string k1) ∧ w'.cell? ⟨w.heap.size, 3, none⟩ = some (.int .u64 s1) ∧ w'.cell? ⟨w.heap.size, 4, none⟩ = some (.bool d1) ∧ w'.cell? ⟨w.heap.size, 5, none⟩ = some (.string v1) ∧ w'.cell? ⟨w.heap.size, 6, none⟩ = some (.string k2) ∧ w'.cell? ⟨w.heap.size, 7, none⟩ = some (.int .u64 s2) ∧ w'.cell? ⟨w.heap.size, 8, none⟩ = some (.bool d2) ∧ w'.cell? ⟨w.heap.size, 9, none⟩ = some (.string v2) ∧ w'.cell? ⟨w.heap.size, 10, none⟩ = some (.int .u64 first) ∧ w'.cell? ⟨w.heap.size, 11, none⟩ = some (.slice aL n cL) ∧ w.heap.size < w'.heap.size ∧ Below w.heap.size w w' := by
  subst hw
  refine ⟨?_, ?_, ?_, ?_, ?_, ?_, ?_, ?_, ?_, ?_, ?_, ?_, ?_, ((Below.refl _ _).alloc (Nat.le_refl _) _).drew⟩
  all_goals simp [go_sem]

theorem startQ {kind : Int} {key : ByteArray} {k1 : ByteArray} {s1 : Int} {d1 : Bool} {v1 : ByteArray} {k2 : ByteArray} {s2 : Int} {d2 : Bool} {v2 : ByteArray} {first : Int} {aL : Option Addr} {n cL : Nat} (w : World) : (w.alloc (.cells #[.int .i64 kind, .string key, .string k1, .int .u64 s1, .bool d1, .string v1, .string k2, .int .u64 s2, .bool d2, .string v2, .int .u64 first, .slice aL n cL] 51)).cell? ⟨w.heap.size, 0, none⟩ = some (.int .i64 kind) ∧ (w.alloc (.cells #[.int .i64 kind, .string key, .string k1, .int .u64 s1, .bool d1, .string v1, .string k2, .int .u64 s2, .bool d2, .string v2, .int .u64 first, .slice aL n cL] 51)).cell? ⟨w.heap.size, 1, none⟩ = some (.string key) ∧ (w.alloc (.cells #[.int .i64 kind, .string key, .string k1, .int .u64 s1, .bool d1, .string v1, .string k2, .int .u64 s2, .bool d2, .string v2, .int .u64 first, .slice aL n cL] 51)).cell? ⟨w.heap.size, 2, none⟩ = some (.string k1) ∧ (w.alloc (.cells #[.int .i64 kind, .string key, .string k1, .int .u64 s1, .bool d1, .string v1, .string k2, .int .u64 s2, .bool d2, .string v2, .int .u64 first, .slice aL n cL] 51)).cell? ⟨w.heap.size, 3, none⟩ = some (.int .u64 s1) ∧ (w.alloc (.cells #[.int .i64 kind, .string key, .string k1, .int .u64 s1, .bool d1, .string v1, .string k2, .int .u64 s2, .bool d2, .string v2, .int .u64 first, .slice aL n cL] 51)).cell? ⟨w.heap.size, 4, none⟩ = some (.bool d1) ∧ (w.alloc (.cells #[.int .i64 kind, .string key, .string k1, .int .u64 s1, .bool d1, .string v1, .string k2, .int .u64 s2, .bool d2, .string v2, .int .u64 first, .slice aL n cL] 51)).cell? ⟨w.heap.size, 5, none⟩ = some (.string v1) ∧ (w.alloc (.cells #[.int .i64 kind, .string key, .string k1, .int .u64 s1, .bool d1, .string v1, .string k2, .int .u64 s2, .bool d2, .string v2, .int .u64 first, .slice aL n cL] 51)).cell? ⟨w.heap.size, 6, none⟩ = some (.string k2) ∧ (w.alloc (.cells #[.int .i64 kind, .string key, .string k1, .int .u64 s1, .bool d1, .string v1, .string k2, .int .u64 s2, .bool d2, .string v2, .int .u64 first, .slice aL n cL] 51)).cell? ⟨w.heap.size, 7, none⟩ = some (.int .u64 s2) ∧ (w.alloc (.cells #[.int .i64 kind, .string key, .string k1, .int .u64 s1, .bool d1, .string v1, .string k2, .int .u64 s2, .bool d2, .string v2, .int .u64 first, .slice aL n cL] 51)).cell? ⟨w.heap.size, 8, none⟩ = some (.bool d2) ∧ (w.alloc (.cells #[.int .i64 kind, .string key, .string k1, .int .u64 s1, .bool d1, .string v1, .string k2, .int .u64 s2, .bool d2, .string v2, .int .u64 first, .slice aL n cL] 51)).cell? ⟨w.heap.size, 9, none⟩ = some (.string v2) ∧ (w.alloc (.cells #[.int .i64 kind, .string key, .string k1, .int .u64 s1, .bool d1, .string v1, .string k2, .int .u64 s2, .bool d2, .string v2, .int .u64 first, .slice aL n cL] 51)).cell? ⟨w.heap.size, 10, none⟩ = some (.int .u64 first) ∧ (w.alloc (.cells #[.int .i64 kind, .string key, .string k1, .int .u64 s1, .bool d1, .string v1, .string k2, .int .u64 s2, .bool d2, .string v2, .int .u64 first, .slice aL n cL] 51)).cell? ⟨w.heap.size, 11, none⟩ = some (.slice aL n cL) ∧ w.heap.size < (w.alloc (.cells #[.int .i64 kind, .string key, .string k1, .int .u64 s1, .bool d1, .string v1, .string k2, .int .u64 s2, .bool d2, .string v2, .int .u64 first, .slice aL n cL] 51)).heap.size ∧ Below w.heap.size w (w.alloc (.cells #[.int .i64 kind, .string key, .string k1, .int .u64 s1, .bool d1, .string v1, .string k2, .int .u64 s2, .bool d2, .string v2, .int .u64 first, .slice aL n cL] 51)) := by
  refine ⟨?_, ?_, ?_, ?_, ?_, ?_, ?_, ?_, ?_, ?_, ?_, ?_, ?_, (Below.refl _ _).alloc (Nat.le_refl _) _⟩
  all_goals simp [go_sem]
theorem bookEntries_ents (T : Nat → Nat) (w : World) (K : Nat) (f : Nat → Value) (L : Nat → List Value) (o x : List (Item × Item)) (M D : List Int) (N : Nat) (g n : Nat) (es : List En) (hn : es.length = n) (mark : Int) (hI : Inv T w K f L o x M D N) (hN : N + 1 ≤ 1000)
    (hown : OwnI w (g, n, es)) (hT : T g = 1000000 + 2 * x.length) (hlen : n ≤ 1000) :
    Calls Tryz.prog 21 #[.pointer (some ⟨K, 0, none⟩), .slice (some ⟨g, 0, none⟩) n n, .int .i64 mark] w fun e w' => e = .returned (.tuple #[]) ∧ ∃ T' f' L' o' x' M' D', Inv T' w' K f' L' o' x' M' D' (N + 1) ∧ Past 9000000 T w T' w' := by
  have h := bookEntries_any T w K f L o x M D N (g, n, es) mark hI hN hown hT hn.symm (by show es.length ≤ 1000; omega)
  rw [show ((g, n, es) : Item).2.2.length = n from hn] at h
  exact h

theorem Inv.more {T : Nat → Nat} {w : World} {K : Nat} {f : Nat → Value} {L : Nat → List Value} {o x : List (Item × Item)} {M D : List Int} {N : Nat} (h : Inv T w K f L o x M D N) (hN : N + 1 ≤ 1000) : Inv T w K f L o x M D (N + 1) :=
  { h with seen := (by obtain ⟨s, h1, h2⟩ := h.seen; exact ⟨s, h1, by omega⟩), many := (by have := h.many; omega), few := hN }
/-- What stands behind a call that keeps no list. -/
theorem Inv.idle {T : Nat → Nat} {w w' : World} {K : Nat} {f : Nat → Value} {L : Nat → List Value} {o x : List (Item × Item)} {M D : List Int} {N : Nat} (h : Inv T w K f L o x M D N) (hN : N + 1 ≤ 1000) (hb : Below w.heap.size w w') :
    ∃ T' f' L' o' x' M' D', Inv T' w' K f' L' o' x' M' D' (N + 1) ∧ Past 9000000 T w T' w' := ⟨T, f, L, o, x, M, D, (h.below hb).more hN, Past.below hb⟩

theorem Inv.tagNew {T : Nat → Nat} {w : World} {K : Nat} {f : Nat → Value} {L : Nat → List Value} {o x : List (Item × Item)} {M D : List Int} {N : Nat} (h : Inv T w K f L o x M D N) (g t : Nat) (hg : w.heap.size ≤ g) : Inv (upd T g t) w K f L o x M D N :=
  { h with core := h.core.tagNew g t hg, outs := h.outs.past (Past.tagNew (t := 0) g t hg) (by omega), waits := h.waits.past (Past.tagNew (t := 0) g t hg) (by omega) }

set_option maxRecDepth 100000 in
set_option maxHeartbeats 8000000 in
theorem plays_any (T : Nat → Nat) (w : World) (K : Nat) (f : Nat → Value) (L : Nat → List Value) (o x : List (Item × Item)) (M D : List Int) (N : Nat) (hI : Inv T w K f L o x M D N) (hN : N + 1 ≤ 1000)
    (kind : Int) (key : ByteArray) (k1 : ByteArray) (s1 : Int) (d1 : Bool) (v1 : ByteArray) (k2 : ByteArray) (s2 : Int) (d2 : Bool) (v2 : ByteArray) (first : Int) (aL : Option Addr) (al : Option Addr) (ca cL : Nat) (ws : List Wr) (hl : IsWr w al ws) (hL : IsWr w aL ws) (hws : ws.length ≤ 64) (hkey : key.size ≤ maxLen) (hk1 : k1.size ≤ maxLen) (hk2 : k2.size ≤ maxLen) (mark : Int) :
    Calls Tryz.prog 4 #[.pointer (some ⟨K, 0, none⟩), opV kind key k1 s1 d1 v1 k2 s2 d2 v2 first aL ws.length cL, .slice al ws.length ca, .int .i64 mark] w fun e w' => e = .returned (.bool true) ∧ ∃ T' f' L' o' x' M' D', Inv T' w' K f' L' o' x' M' D' (N + 1) ∧ Past 9000000 T w T' w' := by
  have HI : Hid (Inv T w K f L o x M D N) := hI
  have HW1 : Hid (IsWr w al ws) := hl
  have HW2 : Hid (IsWr w aL ws) := hL
  clear hI hl hL
  by_cases e1 : kind = 1
  · subst e1
    go_enter Tryz.func4, Tryz.ntmps4
    go_wp2_with fail
    go_region_held3 (fun w' => w'.cell? ⟨w.heap.size, 0, none⟩ = some (.int .i64 1) ∧ w'.cell? ⟨w.heap.size, 1, none⟩ = some (.string key) ∧ w'.cell? ⟨w.heap.size, 2, none⟩ = some (.string k1) ∧ w'.cell? ⟨w.heap.size, 3, none⟩ = some (.int .u64 s1) ∧ w'.cell? ⟨w.heap.size, 4, none⟩ = some (.bool d1) ∧ w'.cell? ⟨w.heap.size, 5, none⟩ = some (.string v1) ∧ w'.cell? ⟨w.heap.size, 6, none⟩ = some (.string k2) ∧ w'.cell? ⟨w.heap.size, 7, none⟩ = some (.int .u64 s2) ∧ w'.cell? ⟨w.heap.size, 8, none⟩ = some (.bool d2) ∧ w'.cell? ⟨w.heap.size, 9, none⟩ = some (.string v2) ∧ w'.cell? ⟨w.heap.size, 10, none⟩ = some (.int .u64 first) ∧ w'.cell? ⟨w.heap.size, 11, none⟩ = some (.slice aL ws.length cL) ∧ w.heap.size < w'.heap.size ∧ Below w.heap.size w w') (first | exact keepP (by assumption) (by assumption) | exact startP rfl)
      (first
        | (go_at_call 8; refine (check_any _ _ hkey).mono ?_; rintro e w' ⟨rfl, hw⟩; have hb := beq hw; clear hw)
        | (go_at_call 7; refine (num_any _ _).mono ?_; rintro e w' ⟨rfl, hw⟩; have hb := beq hw; clear hw)
        | (go_at_call 9; refine (refCheck_any _ _ hkey).mono ?_; rintro e w' ⟨rfl, hw⟩; have hb := beq hw; clear hw))
    all_goals
      go_wp2
      go_ret
      exact ⟨by simp, HI.out.idle hN (lastP (by assumption))⟩
  have q1 : (kind == 1) = false := by simpa using e1
  by_cases e2 : kind = 2
  · subst e2
    go_enter Tryz.func4, Tryz.ntmps4
    go_wp2_with fail
    go_region_held3 (fun w' => w'.cell? ⟨w.heap.size, 0, none⟩ = some (.int .i64 2) ∧ w'.cell? ⟨w.heap.size, 1, none⟩ = some (.string key) ∧ w'.cell? ⟨w.heap.size, 2, none⟩ = some (.string k1) ∧ w'.cell? ⟨w.heap.size, 3, none⟩ = some (.int .u64 s1) ∧ w'.cell? ⟨w.heap.size, 4, none⟩ = some (.bool d1) ∧ w'.cell? ⟨w.heap.size, 5, none⟩ = some (.string v1) ∧ w'.cell? ⟨w.heap.size, 6, none⟩ = some (.string k2) ∧ w'.cell? ⟨w.heap.size, 7, none⟩ = some (.int .u64 s2) ∧ w'.cell? ⟨w.heap.size, 8, none⟩ = some (.bool d2) ∧ w'.cell? ⟨w.heap.size, 9, none⟩ = some (.string v2) ∧ w'.cell? ⟨w.heap.size, 10, none⟩ = some (.int .u64 first) ∧ w'.cell? ⟨w.heap.size, 11, none⟩ = some (.slice aL ws.length cL) ∧ w.heap.size < w'.heap.size ∧ Below w.heap.size w w') (first | exact keepP (by assumption) (by assumption) | exact startP rfl)
      (first
        | (go_at_call 10; refine (checkBatch_any al ca ws _ (HW1.out.below (lastP (by assumption)))).mono ?_; rintro e w' ⟨rfl, hb⟩)
        | (go_at_call 7; refine (num_any _ _).mono ?_; rintro e w' ⟨rfl, hw⟩; have hb := beq hw; clear hw)
        | (go_at_call 11; refine (refBatch_any aL cL ws _ (HW2.out.below (lastP (by assumption)))).mono ?_; rintro e w' ⟨rfl, hw⟩; have hb := beq hw; clear hw))
    all_goals
      go_wp2
      go_ret
      exact ⟨by simp, HI.out.idle hN (lastP (by assumption))⟩
  have q2 : (kind == 2) = false := by simpa using e2
  by_cases e3 : kind = 3
  · subst e3
    go_enter Tryz.func4, Tryz.ntmps4
    go_wp2_with fail
    go_region_held3 (fun w' => w'.cell? ⟨w.heap.size, 0, none⟩ = some (.int .i64 3) ∧ w'.cell? ⟨w.heap.size, 1, none⟩ = some (.string key) ∧ w'.cell? ⟨w.heap.size, 2, none⟩ = some (.string k1) ∧ w'.cell? ⟨w.heap.size, 3, none⟩ = some (.int .u64 s1) ∧ w'.cell? ⟨w.heap.size, 4, none⟩ = some (.bool d1) ∧ w'.cell? ⟨w.heap.size, 5, none⟩ = some (.string v1) ∧ w'.cell? ⟨w.heap.size, 6, none⟩ = some (.string k2) ∧ w'.cell? ⟨w.heap.size, 7, none⟩ = some (.int .u64 s2) ∧ w'.cell? ⟨w.heap.size, 8, none⟩ = some (.bool d2) ∧ w'.cell? ⟨w.heap.size, 9, none⟩ = some (.string v2) ∧ w'.cell? ⟨w.heap.size, 10, none⟩ = some (.int .u64 first) ∧ w'.cell? ⟨w.heap.size, 11, none⟩ = some (.slice aL ws.length cL) ∧ w.heap.size < w'.heap.size ∧ Below w.heap.size w w') (first | exact keepP (by assumption) (by assumption) | exact startP rfl)
      (first
        | (go_at_call 12; refine (compare_any _ _ _ _ _ _ _ _ _).mono ?_; rintro e w' ⟨rfl, hb⟩)
        | (go_at_call 13; refine (refCompare_any _ _ _ _ _ _ _ _ _ hk1 hk2).mono ?_; rintro e w' ⟨rfl, hb⟩))
    all_goals
      go_wp2
      go_ret
      exact ⟨by simp, HI.out.idle hN (lastP (by assumption))⟩
  have q3 : (kind == 3) = false := by simpa using e3
  by_cases e4 : kind = 4
  · subst e4
    go_enter Tryz.func4, Tryz.ntmps4
    go_wp2_with fail
    go_region_held3 (fun w' => w'.cell? ⟨w.heap.size, 0, none⟩ = some (.int .i64 4) ∧ w'.cell? ⟨w.heap.size, 1, none⟩ = some (.string key) ∧ w'.cell? ⟨w.heap.size, 2, none⟩ = some (.string k1) ∧ w'.cell? ⟨w.heap.size, 3, none⟩ = some (.int .u64 s1) ∧ w'.cell? ⟨w.heap.size, 4, none⟩ = some (.bool d1) ∧ w'.cell? ⟨w.heap.size, 5, none⟩ = some (.string v1) ∧ w'.cell? ⟨w.heap.size, 6, none⟩ = some (.string k2) ∧ w'.cell? ⟨w.heap.size, 7, none⟩ = some (.int .u64 s2) ∧ w'.cell? ⟨w.heap.size, 8, none⟩ = some (.bool d2) ∧ w'.cell? ⟨w.heap.size, 9, none⟩ = some (.string v2) ∧ w'.cell? ⟨w.heap.size, 10, none⟩ = some (.int .u64 first) ∧ w'.cell? ⟨w.heap.size, 11, none⟩ = some (.slice aL ws.length cL) ∧ w.heap.size < w'.heap.size ∧ Below w.heap.size w w') (first | exact keepP (by assumption) (by assumption) | exact startP rfl)
      (first
        | (go_at_call 14; refine (weight_any _ _ _ _ _).mono ?_; rintro e w' ⟨rfl, hb⟩)
        | (go_at_call 15; refine (refWeight_any _ _ _ _ _).mono ?_; rintro e w' ⟨rfl, hb⟩))
    all_goals
      go_wp2
      go_ret
      exact ⟨by simp, HI.out.idle hN (lastP (by assumption))⟩
  have q4 : (kind == 4) = false := by simpa using e4
  by_cases e5 : kind = 5
  · subst e5
    go_enter Tryz.func4, Tryz.ntmps4
    go_wp2_with fail
    go_region_held3 (fun w' => w'.cell? ⟨w.heap.size, 0, none⟩ = some (.int .i64 5) ∧ w'.cell? ⟨w.heap.size, 1, none⟩ = some (.string key) ∧ w'.cell? ⟨w.heap.size, 2, none⟩ = some (.string k1) ∧ w'.cell? ⟨w.heap.size, 3, none⟩ = some (.int .u64 s1) ∧ w'.cell? ⟨w.heap.size, 4, none⟩ = some (.bool d1) ∧ w'.cell? ⟨w.heap.size, 5, none⟩ = some (.string v1) ∧ w'.cell? ⟨w.heap.size, 6, none⟩ = some (.string k2) ∧ w'.cell? ⟨w.heap.size, 7, none⟩ = some (.int .u64 s2) ∧ w'.cell? ⟨w.heap.size, 8, none⟩ = some (.bool d2) ∧ w'.cell? ⟨w.heap.size, 9, none⟩ = some (.string v2) ∧ w'.cell? ⟨w.heap.size, 10, none⟩ = some (.int .u64 first) ∧ w'.cell? ⟨w.heap.size, 11, none⟩ = some (.slice aL ws.length cL) ∧ w.heap.size < w'.heap.size ∧ Below w.heap.size w w') (first | exact keepP (by assumption) (by assumption) | exact startP rfl)
      (first
        | (go_at_call 16; refine (batchWeight_any al ca ws _ (HW1.out.below (lastP (by assumption)))).mono ?_; rintro e w' ⟨rfl, hb⟩)
        | (go_at_call 17; refine (refBatchWeight_any aL cL ws _ (HW2.out.below (lastP (by assumption)))).mono ?_; rintro e w' ⟨rfl, hb⟩))
    all_goals
      go_wp2
      go_ret
      exact ⟨by simp, HI.out.idle hN (lastP (by assumption))⟩
  have q5 : (kind == 5) = false := by simpa using e5
  by_cases e6 : kind = 6
  · subst e6
    go_enter Tryz.func4, Tryz.ntmps4
    go_wp2_with (first
      | (go_at_call 18; refine (entries_own first al ca ws _ (HW1.out.below ((Below.refl _ _).alloc (Nat.le_refl _) _)) (by omega)).mono ?_; rintro e w2 ⟨rfl, ho2, hb2⟩; have hp2 := keepP hb2 (startQ (kind := 6) (key := key) (k1 := k1) (s1 := s1) (d1 := d1) (v1 := v1) (k2 := k2) (s2 := s2) (d2 := d2) (v2 := v2) (first := first) (aL := aL) (n := ws.length) (cL := cL) w); have HO2 : Hid (OwnI w2 (w.heap.size + 1, ws.length, ents first ws)) := (by have ho2' : OwnI w2 (w.heap.size + 1, ws.length, ents first ws) := (by simpa using ho2); exact ho2'); have HB2 : Hid (Below w.heap.size w w2) := lastP hp2; have c10 := hp2.2.2.2.2.2.2.2.2.2.2.1; have c11 := hp2.2.2.2.2.2.2.2.2.2.2.2.1; clear hp2 ho2 hb2)
      | (go_at_call 20; refine (refEntries_any first aL cL ws _ (HW2.out.below HB2.out) (by omega)).mono ?_; rintro e w3 ⟨a3, c3, rfl, he3, hb3⟩; have HO3 : Hid (OwnI w3 (w.heap.size + 1, ws.length, ents first ws)) := HO2.out.below hb3; have HE3 : Hid (IsEn w3 a3 (ents first ws)) := he3; have HB3 : Hid (Below w.heap.size w w3) := HB2.out.trans (hb3.mono HB2.out.size); clear he3 hb3)
      | (go_at_call 19; refine (sameEntries_any _ _ _ _ ws.length (ents first ws) _ (fun _ => ⟨_, _, rfl, HO3.out.row⟩) HE3.out (ents_length _ _) (by omega)).mono ?_; rintro e w4 ⟨rfl, nd, hw4⟩; have hb4 : Below w3.heap.size w3 w4 := (by rw [hw4]; exact below_drewN (Below.refl _ _) nd); have HO4 : Hid (OwnI w4 (w.heap.size + 1, ws.length, ents first ws)) := HO3.out.below hb4; have HB4 : Hid (Below w.heap.size w w4) := HB3.out.trans (hb4.mono HB3.out.size); clear hw4 hb4)
      | (go_at_call 21; refine (bookEntries_ents (upd T (w.heap.size + 1) (1000000 + 2 * x.length)) _ K f L o x M D N (w.heap.size + 1) ws.length (ents first ws) (ents_length _ _) mark ((HI.out.tagNew (w.heap.size + 1) (1000000 + 2 * x.length) (by omega)).below HB4.out) hN HO4.out (upd_same _ _ _) (by omega)).mono ?_; rintro e w5 ⟨rfl, T5, f5, L5, o5, x5, M5, D5, hi5, hp5⟩; have HF5 : Hid (∃ T' f' L' o' x' M' D', Inv T' w5 K f' L' o' x' M' D' (N + 1) ∧ Past 9000000 T w T' w5) := ⟨T5, f5, L5, o5, x5, M5, D5, hi5, ((Past.tagNew (w.heap.size + 1) (1000000 + 2 * x.length) (by omega)).trans (Past.below HB4.out)).trans hp5⟩; clear hi5 hp5))
    go_ret
    exact ⟨rfl, HF5.out⟩
  have q6 : (kind == 6) = false := by simpa using e6
  go_enter Tryz.func4, Tryz.ntmps4
  go_wp2
  go_ret
  exact ⟨rfl, HI.out.idle hN ((Below.refl _ _).alloc (Nat.le_refl _) _)⟩

end Book
end Go.Proofs.YtkknpcpioodhaaaGreatDoor
