import Derived.Test.YtdbiliigbinmfaaDoorMea
import Derived.Test.YtdbiliigbinmfaaDoorLaws
namespace Go.Proofs.YtdbiliigbinmfaaDoor
namespace Nms
open Go.RowKit CMath Byt Cod Laws
set_option linter.unusedVariables false
set_option linter.unusedSimpArgs false
set_option maxRecDepth 20000
/-- the last i digits -/
def tl : Nat → Nat → List Nat
  | 0, _ => []
  | i + 1, n => (48 + n / 10 ^ i % 10) :: tl i n
def kindOk (k : Nat) : Bool := k == 108 || k == 109 || k == 116
def nameB (k n : Nat) : List Nat := if kindOk k && decide (n < 1000000000000) then k :: 45 :: tl 12 n else []
theorem conv_one (w : World) (d : Nat) (hd : d < 256) : (convert 23 9 (.slice (some ⟨w.heap.size, 0, none⟩) 1 1)).run Tryd.prog (w.alloc (.cells #[.int .u8 (d : Int)] 5)) = .ok (.string (ofB [d])) (w.alloc (.cells #[.int .u8 (d : Int)] 5)) :=
  conv_back _ ⟨w.heap.size, 0, none⟩ 1 1 [d] ⟨fun _ => ⟨w.heap.size, 0, rfl, by simp, fun i x hx => by
    match i, hx with
    | 0, hx => simp at hx; subst hx; rw [World.cell?_alloc_at _ _ _ _ rfl]; rfl⟩, by simpa using hd⟩ rfl
theorem conv_two (w : World) (d e : Nat) (hd : d < 256) (he : e < 256) : (convert 23 9 (.slice (some ⟨w.heap.size, 0, none⟩) 2 2)).run Tryd.prog (w.alloc (.cells #[.int .u8 (d : Int), .int .u8 (e : Int)] 5)) = .ok (.string (ofB [d, e])) (w.alloc (.cells #[.int .u8 (d : Int), .int .u8 (e : Int)] 5)) :=
  conv_back _ ⟨w.heap.size, 0, none⟩ 2 2 [d, e] ⟨fun _ => ⟨w.heap.size, 0, rfl, by simp, fun i x hx => by
    match i, hx with
    | 0, hx => simp at hx; subst hx; rw [World.cell?_alloc_at _ _ _ _ rfl]; rfl
    | 1, hx => simp at hx; subst hx; rw [World.cell?_alloc_at _ _ _ _ rfl]; rfl⟩, by simp [hd, he]⟩ rfl
theorem ofB_app (a b : List Nat) : ofB a ++ ofB b = ofB (a ++ b) := by
  apply ByteArray.ext
  simp [ofB, ByteArray.data_append]
theorem hidN {p : Prop} (h : p) : Hid p := h
set_option maxHeartbeats 1000000 in
theorem rname_no (k n : Nat) (hk : k < 256) (hn : n < 18446744073709551616) (h : (kindOk k && decide (n < 1000000000000)) = false) (w : World) : Calls Tryd.prog 7 #[.int .u8 (k : Int), .int .u64 (n : Int)] w fun e w' => e = .returned (.string ⟨#[]⟩) ∧ w' = w := by
  by_cases h1 : k = 108
  · subst h1
    have q : (n : Int) ≥ 1000000000000 := by simp [kindOk] at h; omega
    go_enter Tryd.func7, Tryd.ntmps7
    go_wp2
    go_ret
    exact ⟨rfl, rfl⟩
  · have e1 : ¬ (k : Int) = 108 := by omega
    by_cases h2 : k = 109
    · subst h2
      have q : (n : Int) ≥ 1000000000000 := by simp [kindOk] at h; omega
      go_enter Tryd.func7, Tryd.ntmps7
      go_wp2
      go_ret
      exact ⟨rfl, rfl⟩
    · have e2 : ¬ (k : Int) = 109 := by omega
      by_cases h3 : k = 116
      · subst h3
        have q : (n : Int) ≥ 1000000000000 := by simp [kindOk] at h; omega
        go_enter Tryd.func7, Tryd.ntmps7
        go_wp2
        go_ret
        exact ⟨rfl, rfl⟩
      · have e3 : ¬ (k : Int) = 116 := by omega
        go_enter Tryd.func7, Tryd.ntmps7
        go_wp2
        go_ret
        exact ⟨rfl, rfl⟩
end Nms
end Go.Proofs.YtdbiliigbinmfaaDoor
