import Derived.Test.YtdflepndhemfgaaGreatDoorProg
import Derived.Test.YtdflepndhemfgaaGreatDoorJZ
namespace Go.Proofs.YtdflepndhemfgaaGreatDoor
namespace BookI
open Go.RowKit Laws Irw
set_option linter.unusedVariables false

/-- What a law holds that keeps lists of ints: the book, the ints that it reads, the lists that it is to keep. -/
structure St (w0 : World) (T : Nat → Nat) (w : World) (K N : Nat) (rows : List (Option Addr × List Int)) (lives : List (Nat × Option Addr × Nat × List Int)) : Prop where
  kept : Kept T w K N
  base : Below w0.heap.size w0 w
  low : ∀ b, b < w0.heap.size → T b = 0
  row : ∀ r ∈ rows, Row T w r.1 r.2
  live : ∀ r ∈ lives, Live r.1 T w r.2.1 r.2.2.1 r.2.2.2
theorem St.below {w0 : World} {T : Nat → Nat} {w w' : World} {K N : Nat} {rows : List (Option Addr × List Int)} {lives : List (Nat × Option Addr × Nat × List Int)} (h : St w0 T w K N rows lives) (hb : Below w.heap.size w w') : St w0 T w' K N rows lives :=
  ⟨h.kept.below hb, h.base.trans (hb.mono h.base.size), h.low, fun r hr => (h.row r hr).below hb, fun r hr => (h.live r hr).below hb⟩
/-- A new book. -/
theorem St.first {w0 w : World} (hb : Below w0.heap.size w0 w) (rows : List (Option Addr × List Int)) (hr : ∀ r ∈ rows, IsI w r.1 r.2 ∧ ∀ ad, r.1 = some ad → ad.block < w.heap.size) : St w0 (upd (fun _ => 0) w.heap.size 1) (w.alloc (.cells bookZ 51)) w.heap.size 0 rows [] := by
  have hs := hb.size
  have hb2 : Below w.heap.size w (w.alloc (.cells bookZ 51)) := (Below.refl _ _).alloc (Nat.le_refl _) _
  refine ⟨Kept.first w, hb.trans (hb2.mono hs), fun b h => upd_other _ _ (by omega), fun r h => ⟨(hr r h).1.below hb2, fun ad e => ?_⟩, fun r h => by simp at h⟩
  have := (hr r h).2 ad e
  exact ⟨Nat.lt_of_lt_of_le this hb2.size, upd_other _ _ (by omega)⟩
/-- A list that was made anew is to be kept. -/
theorem St.make {w0 : World} {T : Nat → Nat} {w w' : World} {K N : Nat} {rows : List (Option Addr × List Int)} {lives : List (Nat × Option Addr × Nat × List Int)} (h : St w0 T w K N rows lives) (hb : Below w.heap.size w w') (k : Nat) {g c : Nat} {l : List Int} (hown : OwnI w' (g, c, l)) (z1 : w.heap.size ≤ g) (hle : l.length ≤ c) (hr : c ≠ nilC) :
    ∃ T', St w0 T' w' K N rows ((k, some ⟨g, 0, none⟩, c, l) :: lives) := by
  have h' := h.below hb
  have hz := h.kept.2 g z1
  have no : ∀ b, b < w.heap.size → upd T g (9000000 + k) b = T b := fun b hb => upd_other _ _ (by omega)
  refine ⟨upd T g (9000000 + k), h'.kept.tag g k hz hown.lt, h'.base, fun b hb' => by rw [no b (Nat.lt_of_lt_of_le hb' h.base.size)]; exact h.low b hb', fun r hr => ⟨(h'.row r hr).1, fun ad e => ⟨((h'.row r hr).2 ad e).1, ?_⟩⟩, fun r hr' => ?_⟩
  · rw [no _ ((h.row r hr).2 ad e).1]
    exact ((h.row r hr).2 ad e).2
  · simp at hr'
    rcases hr' with rfl | hr'
    · exact ⟨⟨g, rfl, hown, upd_same _ _ _⟩, hle, hr⟩
    · obtain ⟨g', e1, e2, e3⟩ := (h.live r hr').at_
      exact ⟨⟨g', e1, e2.below hb, by rw [no _ e2.lt]; exact e3⟩, (h.live r hr').le, (h.live r hr').real⟩
/-- A list goes to the book. -/
theorem St.ints {w0 : World} {T : Nat → Nat} {w : World} {K N : Nat} {rows : List (Option Addr × List Int)} {lives : List (Nat × Option Addr × Nat × List Int)} (h : St w0 T w K N rows lives) (hN : N + 1 ≤ 2000) (k : Nat) {a : Option Addr} {c n : Nat} {l : List Int} (mark : Int) (ha : (k, a, c, l) ∈ lives) (hl : l.length ≤ 1000000000000) (hn : n = l.length) (lives' : List (Nat × Option Addr × Nat × List Int)) (hs : ∀ r ∈ lives', r ∈ lives ∧ r.1 ≠ k) :
    Calls Tryz.prog 7 #[.pointer (some ⟨K, 0, none⟩), .slice a n c, .int .i64 mark] w fun e w' => e = .returned (.tuple #[]) ∧ ∃ T', St w0 T' w' K (N + 1) rows lives' := by
  refine (h.kept.bytes hN mark (h.live _ ha) hl hn).mono ?_
  rintro e w' ⟨rfl, T', h1, h2⟩
  refine ⟨rfl, T', h1, h.base.trans ⟨h2.os, h2.tape, h2.output, h2.size, fun b hb => (h2.block b (Nat.lt_of_lt_of_le hb h.base.size) (.inl (h.low b hb)) (by rw [h.low b hb]; omega)).1⟩, fun b hb => ?_, fun r hr => (h.row r hr).go h2, fun r hr => (h.live r (hs r hr).1).go h2 (hs r hr).2⟩
  rw [(h2.block b (Nat.lt_of_lt_of_le hb h.base.size) (.inl (h.low b hb)) (by rw [h.low b hb]; omega)).2]
  exact h.low b hb

/-- Nil goes to the book. -/
theorem St.ints_nil {w0 : World} {T : Nat → Nat} {w : World} {K N : Nat} {rows : List (Option Addr × List Int)} {lives : List (Nat × Option Addr × Nat × List Int)} (h : St w0 T w K N rows lives) (hN : N + 1 ≤ 2000) (mark : Int) (k : Nat) (hs : ∀ r ∈ lives, r.1 ≠ k) :
    Calls Tryz.prog 7 #[.pointer (some ⟨K, 0, none⟩), .slice none 0 0, .int .i64 mark] w fun e w' => e = .returned (.tuple #[]) ∧ ∃ T', St w0 T' w' K (N + 1) rows lives := by
  refine (h.kept.bytes_nil hN mark k).mono ?_
  rintro e w' ⟨rfl, T', h1, h2⟩
  refine ⟨rfl, T', h1, h.base.trans ⟨h2.os, h2.tape, h2.output, h2.size, fun b hb => (h2.block b (Nat.lt_of_lt_of_le hb h.base.size) (.inl (h.low b hb)) (by rw [h.low b hb]; omega)).1⟩, fun b hb => ?_, fun r hr => (h.row r hr).go h2, fun r hr => (h.live r hr).go h2 (hs r hr)⟩
  rw [(h2.block b (Nat.lt_of_lt_of_le hb h.base.size) (.inl (h.low b hb)) (by rw [h.low b hb]; omega)).2]
  exact h.low b hb

end BookI
end Go.Proofs.YtdflepndhemfgaaGreatDoor
