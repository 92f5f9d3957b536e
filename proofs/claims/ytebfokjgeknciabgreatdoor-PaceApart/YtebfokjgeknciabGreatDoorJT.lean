import Derived.Test.YtebfokjgeknciabGreatDoorProg
import Derived.Test.YtebfokjgeknciabGreatDoorJE
namespace Go.Proofs.YtebfokjgeknciabGreatDoor
namespace BookI
open Go.RowKit Laws Irw
set_option linter.unusedVariables false

/-- A book in which nothing is. -/
def bookZ : Array Value := ((List.range 175).map f0).toArray
set_option maxRecDepth 100000 in
theorem built_book : Tryz.prog.built 53 [] = some bookZ := by kernel_rfl
theorem wpList_book {ops : Array Oper} {rest : List Oper} {o : Oper} {a : Act} {w : World} {Q : Exit → Act → World → Prop} (hg : o.guard = none) (ho : o.op = .build 53 #[])
    (h : wpList Tryz.prog ops Q rest (a.put o.dst (.agg bookZ)) w) : wpList Tryz.prog ops Q (o :: rest) a w := by
  have e0 : ((#[] : Array (Nat × Operand)).map fun (i, x) => (i, a.eval x)).toList = [] := by simp
  have e : Tryz.prog.built 53 ((#[] : Array (Nat × Operand)).map fun (i, x) => (i, a.eval x)).toList = some bookZ := by rw [e0]; exact built_book
  refine wpList_build hg _ _ ho (by rw [e]; rfl) ?_
  rw [e]
  exact h
theorem bookZ_get (j : Nat) (h : j < 175) : bookZ[j]? = some (f0 j) := by
  unfold bookZ
  simp [List.getElem?_range h]

/-- Tags are 0 where nothing lies yet. -/
def norm (T : Nat → Nat) (w : World) : Nat → Nat := fun b => if b < w.heap.size then T b else 0
theorem norm_in (T : Nat → Nat) (w : World) {b : Nat} (h : b < w.heap.size) : norm T w b = T b := by unfold norm; rw [if_pos h]
theorem norm_out (T : Nat → Nat) (w : World) {b : Nat} (h : w.heap.size ≤ b) : norm T w b = 0 := by unfold norm; rw [if_neg (by omega)]
theorem Core.norm {T : Nat → Nat} {w : World} {K : Nat} {f : Nat → Value} {L : Nat → List Value} (h : Core T w K f L) : Core (norm T w) w K f L :=
  ⟨h.fld, by rw [norm_in _ _ h.fld.1]; exact h.tag, fun j h1 h2 => ⟨(h.spine j h1 h2).1, fun b hb => by rw [norm_in _ _ ((h.spine j h1 h2).1.lt b hb).2]; exact (h.spine j h1 h2).2 b hb⟩⟩
theorem Its.norm {b : Nat} {T : Nat → Nat} {w : World} {l : List (Item × Item)} (h : Its b T w l) : Its b (norm T w) w l := fun i p hi => by
  obtain ⟨h1, h2, h3, h4, h5, h6⟩ := h i p hi
  exact ⟨h1, h2, h3, h4, by rw [norm_in _ _ h1.lt]; exact h5, by rw [norm_in _ _ h2.lt]; exact h6⟩
theorem Outs.norm {fr : List Item} {k : Nat} {T : Nat → Nat} {w : World} {o : List (Item × Item)} (h : Outs fr k T w o) : Outs fr k (norm T w) w o := fun p hm => by
  obtain ⟨h1, h2, h3, h4, h5, h6⟩ := h p hm
  exact ⟨h1, h2, h3, h4, by rw [norm_in _ _ h2.1]; exact h5, by rw [norm_in _ _ h1.1]; exact h6⟩
theorem Inv.norm {T : Nat → Nat} {w : World} {K : Nat} {f : Nat → Value} {L : Nat → List Value} {o x : List (Item × Item)} {M D : List Int} {N : Nat} (h : Inv T w K f L o x M D N) : Inv (norm T w) w K f L o x M D N :=
  { h with core := h.core.norm, outs := h.outs.norm, waits := h.waits.norm }
theorem Inv.retag {T : Nat → Nat} {w : World} {K : Nat} {f : Nat → Value} {L : Nat → List Value} {o x : List (Item × Item)} {M D : List Int} {N : Nat} (h : Inv T w K f L o x M D N) (g s : Nat) (hg : T g = 0 ∨ 9000000 ≤ T g) : Inv (upd T g s) w K f L o x M D N :=
  { h with
    core := h.core.retag g s (fun e => by rw [e, h.core.tag] at hg; omega) (fun j h1 h2 b hb e => by have := (h.core.spine j h1 h2).2 b hb; rw [e] at this; omega)
    outs := h.outs.retag (by simp) g s (by omega)
    waits := h.waits.retag g s (by have := h.many; have := h.few; omega) }

/-- The book, between two calls: N lists were kept. -/
def Kept (T : Nat → Nat) (w : World) (K N : Nat) : Prop := (∃ f L o x M D, Inv T w K f L o x M D N) ∧ ∀ b, w.heap.size ≤ b → T b = 0
/-- From one moment to a later one: no block of the law's own has turned, nor has its tag, but those of tag 9000000 + k. -/
structure Go_ (k : Nat) (T : Nat → Nat) (w : World) (T' : Nat → Nat) (w' : World) : Prop where
  os : w'.os = w.os
  tape : w'.tape = w.tape
  output : w'.output = w.output
  size : w.heap.size ≤ w'.heap.size
  block : ∀ b, b < w.heap.size → (T b = 0 ∨ 9000000 ≤ T b) → T b ≠ 9000000 + k → w'.heap[b]? = w.heap[b]? ∧ T' b = T b
theorem Kept.below {T : Nat → Nat} {w w' : World} {K N : Nat} (h : Kept T w K N) (hb : Below w.heap.size w w') : Kept T w' K N := by
  obtain ⟨⟨f, L, o, x, M, D, h⟩, hz⟩ := h
  exact ⟨⟨f, L, o, x, M, D, h.below hb⟩, fun b hs => hz b (Nat.le_trans hb.size hs)⟩
theorem Kept.hold {T : Nat → Nat} {w : World} {K N : Nat} (h : Kept T w K N) : Calls Tryz.prog 13 #[.pointer (some ⟨K, 0, none⟩)] w fun e w' => e = .returned (.bool true) ∧ Below w.heap.size w w' := by
  obtain ⟨⟨f, L, o, x, M, D, h⟩, _⟩ := h
  exact hold_any K f o x w h.held
theorem Kept.first (w : World) : Kept (upd (fun _ => 0) w.heap.size 1) (w.alloc (.cells bookZ 53)) w.heap.size 0 := by
  have hf : Fld (w.alloc (.cells bookZ 53)) w.heap.size f0 := by
    refine ⟨by simp, fun j hj => ⟨?_, ?_⟩⟩
    · have := bookZ_get j hj
      simp [go_sem, this]
    · simp [go_sem]
  refine ⟨⟨f0, fun _ => [], [], [], [], [], ⟨⟨hf, upd_same _ _ _, fun j h1 h2 => ?_⟩, fun _ _ _ _ => rfl, rfl, rfl, ⟨0, rfl⟩, rfl, ⟨0, rfl, Nat.le_refl _⟩, rfl, rfl, rfl, rfl, rfl, rfl, rfl, rfl, rfl, rfl, rfl, rfl, ?_, ?_, ?_, by simp, by omega⟩⟩, fun b hb => ?_⟩
  · have e : f0 j = .slice none 0 0 := by
      unfold f0
      rw [if_neg (by omega), if_neg (by omega), if_neg (by omega)]
    rw [e]
    exact ⟨World.ownsRow_nil _ _ _ _, fun b hb => by cases hb⟩
  · intro p hp; simp at hp
  · intro i p hi; simp at hi
  · intro p hp; simp at hp
  · simp at hb
    exact upd_other _ _ (by omega)

/-- A list of the law's own, which is to be kept: its tag is 9000000 + k. -/
structure Live (k : Nat) (T : Nat → Nat) (w : World) (a : Option Addr) (c : Nat) (l : List Int) : Prop where
  at_ : ∃ g, a = some ⟨g, 0, none⟩ ∧ OwnI w (g, c, l) ∧ T g = 9000000 + k
  le : l.length ≤ c
  real : c ≠ nilC
theorem Live.isI {k : Nat} {T : Nat → Nat} {w : World} {a : Option Addr} {c : Nat} {l : List Int} (h : Live k T w a c l) : IsI w a l := by
  obtain ⟨g, rfl, h1, _⟩ := h.at_
  exact IsI.of h1.row
theorem Live.below {k : Nat} {T : Nat → Nat} {w w' : World} {a : Option Addr} {c : Nat} {l : List Int} (h : Live k T w a c l) (hb : Below w.heap.size w w') : Live k T w' a c l := by
  obtain ⟨g, rfl, h1, h2⟩ := h.at_
  exact ⟨⟨g, rfl, h1.below hb, h2⟩, h.le, h.real⟩
theorem Live.go {k k' : Nat} {T T' : Nat → Nat} {w w' : World} {a : Option Addr} {c : Nat} {l : List Int} (h : Live k T w a c l) (hg : Go_ k' T w T' w') (hk : k ≠ k') : Live k T' w' a c l := by
  obtain ⟨g, rfl, h1, h2⟩ := h.at_
  obtain ⟨r1, r2⟩ := hg.block g h1.lt (.inr (by omega)) (by omega)
  exact ⟨⟨g, rfl, h1.block r1, r2.trans h2⟩, h.le, h.real⟩
/-- Bytes that the law reads, in a block of tag 0. -/
def Row (T : Nat → Nat) (w : World) (a : Option Addr) (l : List Int) : Prop := IsI w a l ∧ ∀ ad, a = some ad → ad.block < w.heap.size ∧ T ad.block = 0
theorem Row.below {T : Nat → Nat} {w w' : World} {a : Option Addr} {l : List Int} (h : Row T w a l) (hb : Below w.heap.size w w') : Row T w' a l :=
  ⟨h.1.below hb, fun ad e => ⟨Nat.lt_of_lt_of_le (h.2 ad e).1 hb.size, (h.2 ad e).2⟩⟩
theorem Row.go {k : Nat} {T T' : Nat → Nat} {w w' : World} {a : Option Addr} {l : List Int} (h : Row T w a l) (hg : Go_ k T w T' w') : Row T' w' a l := by
  refine ⟨fun hne => ?_, fun ad e => ?_⟩
  · obtain ⟨b, off, rfl, hr⟩ := h.1 hne
    obtain ⟨_, t⟩ := h.2 _ rfl
    obtain ⟨r1, _⟩ := hg.block b hr.1 (.inl t) (by simp only at t; omega)
    exact ⟨b, off, rfl, hr.keep r1 hg.size⟩
  · obtain ⟨z, t⟩ := h.2 ad e
    obtain ⟨_, r2⟩ := hg.block _ z (.inl t) (by omega)
    exact ⟨Nat.lt_of_lt_of_le z hg.size, r2.trans t⟩
/-- What was made anew gets its tag. -/
theorem Kept.tag {T : Nat → Nat} {w : World} {K N : Nat} (h : Kept T w K N) (g k : Nat) (hg : T g = 0) (hl : g < w.heap.size) : Kept (upd T g (9000000 + k)) w K N := by
  obtain ⟨⟨f, L, o, x, M, D, h⟩, hz⟩ := h
  exact ⟨⟨f, L, o, x, M, D, h.retag g _ (.inl hg)⟩, fun b hb => by rw [upd_other _ _ (by omega)]; exact hz b hb⟩

/-- BOOK.BYTES, of a list in a block of its own. -/
theorem Kept.bytes {T : Nat → Nat} {w : World} {K N k : Nat} (h : Kept T w K N) (hN : N + 1 ≤ 2000) {a : Option Addr} {c n : Nat} {l : List Int} (mark : Int) (ha : Live k T w a c l) (hl : l.length ≤ 1000000000000) (hn : n = l.length) :
    Calls Tryz.prog 11 #[.pointer (some ⟨K, 0, none⟩), .slice a n c, .int .i64 mark] w fun e w' => e = .returned (.tuple #[]) ∧ ∃ T', Kept T' w' K (N + 1) ∧ Go_ k T w T' w' := by
  subst hn
  obtain ⟨⟨f, L, o, x, M, D, h⟩, hz⟩ := h
  obtain ⟨g, rfl, hown, hT⟩ := ha.at_
  refine (bookInts_any (upd T g (1000000 + 2 * x.length)) w K f L o x M D N (g, c, l) (some ⟨g, 0, none⟩) c mark (h.retag g _ (.inr (by omega))) hN (vI_not ha.real) (.inl hown) (upd_same _ _ _) ha.le hl).mono ?_
  rintro e w' ⟨rfl, T', f', L', o', x', M', D', h1, h2⟩
  refine ⟨rfl, norm T' w', ⟨⟨f', L', o', x', M', D', h1.norm⟩, fun b hb => norm_out _ _ hb⟩, h2.os, h2.tape, h2.output, h2.size, fun b hb hb0 hne => ?_⟩
  have hbg : b ≠ g := fun e => by rw [e, hT] at hne; exact hne rfl
  have e1 : upd T g (1000000 + 2 * x.length) b = T b := upd_other _ _ hbg
  obtain ⟨r1, r2⟩ := h2.block b hb (by rw [e1]; exact hb0)
  exact ⟨r1, by rw [norm_in _ _ (Nat.lt_of_lt_of_le hb h2.size)]; exact r2.trans e1⟩

/-- BOOK.BYTES, of nil. -/
theorem Kept.bytes_nil {T : Nat → Nat} {w : World} {K N : Nat} (h : Kept T w K N) (hN : N + 1 ≤ 2000) (mark : Int) (k : Nat) :
    Calls Tryz.prog 11 #[.pointer (some ⟨K, 0, none⟩), .slice none 0 0, .int .i64 mark] w fun e w' => e = .returned (.tuple #[]) ∧ ∃ T', Kept T' w' K (N + 1) ∧ Go_ k T w T' w' := by
  obtain ⟨⟨f, L, o, x, M, D, h⟩, hz⟩ := h
  refine (bookInts_any (upd T w.heap.size (1000000 + 2 * x.length)) w K f L o x M D N (w.heap.size, nilC, []) none 0 mark (h.retag w.heap.size _ (.inl (hz _ (Nat.le_refl _)))) hN (vI_nil rfl) (.inr rfl) (upd_same _ _ _) (Nat.zero_le _) (Nat.zero_le _)).mono ?_
  rintro e w' ⟨rfl, T', f', L', o', x', M', D', h1, h2⟩
  refine ⟨rfl, norm T' w', ⟨⟨f', L', o', x', M', D', h1.norm⟩, fun b hb => norm_out _ _ hb⟩, h2.os, h2.tape, h2.output, h2.size, fun b hb hb0 hne => ?_⟩
  have e1 : upd T w.heap.size (1000000 + 2 * x.length) b = T b := upd_other _ _ (by omega)
  obtain ⟨r1, r2⟩ := h2.block b hb (by rw [e1]; exact hb0)
  exact ⟨r1, by rw [norm_in _ _ (Nat.lt_of_lt_of_le hb h2.size)]; exact r2.trans e1⟩

end BookI
end Go.Proofs.YtebfokjgeknciabGreatDoor
namespace Go.Proofs.YtebfokjgeknciabGreatDoor
namespace BookI
open Go.RowKit Laws Irw
set_option linter.unusedVariables false

/-- What a law holds that keeps lists of ints: the book, the ints that it reads, the lists that it is to keep. -/
structure St (w0 : World) (T : Nat → Nat) (w : World) (K N : Nat) (rows : List (Option Addr × List Int)) (lives : List (Nat × Option Addr × Nat × List Int)) : Prop where
  kept : Kept T w K N
  base : Below w0.heap.size w0 w
  low : ∀ b, b < w0.heap.size → T b = 0
  row : ∀ r ∈ rows, Row T w r.1 r.2
  live : ∀ r ∈ lives, Live r.1 T w r.2.1 r.2.2.1 r.2.2.2
theorem St.below {w0 : World} {T : Nat → Nat} {w w' : World} {K N : Nat} {rows : List (Option Addr × List Int)} {lives : List (Nat × Option Addr × Nat × List Int)} (h : St w0 T w K N rows lives) (hb : Below w.heap.size w w') : St w0 T w' K N rows lives :=
  ⟨h.kept.below hb, h.base.trans (hb.mono h.base.size), h.low, fun r hr => (h.row r hr).below hb, fun r hr => (h.live r hr).below hb⟩
/-- A new book. -/
theorem St.first {w0 w : World} (hb : Below w0.heap.size w0 w) (rows : List (Option Addr × List Int)) (hr : ∀ r ∈ rows, IsI w r.1 r.2 ∧ ∀ ad, r.1 = some ad → ad.block < w.heap.size) : St w0 (upd (fun _ => 0) w.heap.size 1) (w.alloc (.cells bookZ 53)) w.heap.size 0 rows [] := by
  have hs := hb.size
  have hb2 : Below w.heap.size w (w.alloc (.cells bookZ 53)) := (Below.refl _ _).alloc (Nat.le_refl _) _
  refine ⟨Kept.first w, hb.trans (hb2.mono hs), fun b h => upd_other _ _ (by omega), fun r h => ⟨(hr r h).1.below hb2, fun ad e => ?_⟩, fun r h => by simp at h⟩
  have := (hr r h).2 ad e
  exact ⟨Nat.lt_of_lt_of_le this hb2.size, upd_other _ _ (by omega)⟩
/-- A list that was made anew is to be kept. -/
theorem St.make {w0 : World} {T : Nat → Nat} {w w' : World} {K N : Nat} {rows : List (Option Addr × List Int)} {lives : List (Nat × Option Addr × Nat × List Int)} (h : St w0 T w K N rows lives) (hb : Below w.heap.size w w') (k : Nat) {g c : Nat} {l : List Int} (hown : OwnI w' (g, c, l)) (z1 : w.heap.size ≤ g) (hle : l.length ≤ c) (hr : c ≠ nilC) :
    ∃ T', St w0 T' w' K N rows ((k, some ⟨g, 0, none⟩, c, l) :: lives) := by
  have h' := h.below hb
  have hz := h.kept.2 g z1
  have no : ∀ b, b < w.heap.size → upd T g (9000000 + k) b = T b := fun b hb => upd_other _ _ (by omega)
  refine ⟨upd T g (9000000 + k), h'.kept.tag g k hz hown.lt, h'.base, fun b hb' => by rw [no b (Nat.lt_of_lt_of_le hb' h.base.size)]; exact h.low b hb', fun r hr => ⟨(h'.row r hr).1, fun ad e => ⟨((h'.row r hr).2 ad e).1, ?_⟩⟩, fun r hr' => ?_⟩
  · rw [no _ ((h.row r hr).2 ad e).1]
    exact ((h.row r hr).2 ad e).2
  · simp at hr'
    rcases hr' with rfl | hr'
    · exact ⟨⟨g, rfl, hown, upd_same _ _ _⟩, hle, hr⟩
    · obtain ⟨g', e1, e2, e3⟩ := (h.live r hr').at_
      exact ⟨⟨g', e1, e2.below hb, by rw [no _ e2.lt]; exact e3⟩, (h.live r hr').le, (h.live r hr').real⟩
/-- A list goes to the book. -/
theorem St.ints {w0 : World} {T : Nat → Nat} {w : World} {K N : Nat} {rows : List (Option Addr × List Int)} {lives : List (Nat × Option Addr × Nat × List Int)} (h : St w0 T w K N rows lives) (hN : N + 1 ≤ 2000) (k : Nat) {a : Option Addr} {c n : Nat} {l : List Int} (mark : Int) (ha : (k, a, c, l) ∈ lives) (hl : l.length ≤ 1000000000000) (hn : n = l.length) (lives' : List (Nat × Option Addr × Nat × List Int)) (hs : ∀ r ∈ lives', r ∈ lives ∧ r.1 ≠ k) :
    Calls Tryz.prog 11 #[.pointer (some ⟨K, 0, none⟩), .slice a n c, .int .i64 mark] w fun e w' => e = .returned (.tuple #[]) ∧ ∃ T', St w0 T' w' K (N + 1) rows lives' := by
  refine (h.kept.bytes hN mark (h.live _ ha) hl hn).mono ?_
  rintro e w' ⟨rfl, T', h1, h2⟩
  refine ⟨rfl, T', h1, h.base.trans ⟨h2.os, h2.tape, h2.output, h2.size, fun b hb => (h2.block b (Nat.lt_of_lt_of_le hb h.base.size) (.inl (h.low b hb)) (by rw [h.low b hb]; omega)).1⟩, fun b hb => ?_, fun r hr => (h.row r hr).go h2, fun r hr => (h.live r (hs r hr).1).go h2 (hs r hr).2⟩
  rw [(h2.block b (Nat.lt_of_lt_of_le hb h.base.size) (.inl (h.low b hb)) (by rw [h.low b hb]; omega)).2]
  exact h.low b hb

/-- Nil goes to the book. -/
theorem St.ints_nil {w0 : World} {T : Nat → Nat} {w : World} {K N : Nat} {rows : List (Option Addr × List Int)} {lives : List (Nat × Option Addr × Nat × List Int)} (h : St w0 T w K N rows lives) (hN : N + 1 ≤ 2000) (mark : Int) (k : Nat) (hs : ∀ r ∈ lives, r.1 ≠ k) :
    Calls Tryz.prog 11 #[.pointer (some ⟨K, 0, none⟩), .slice none 0 0, .int .i64 mark] w fun e w' => e = .returned (.tuple #[]) ∧ ∃ T', St w0 T' w' K (N + 1) rows lives := by
  refine (h.kept.bytes_nil hN mark k).mono ?_
  rintro e w' ⟨rfl, T', h1, h2⟩
  refine ⟨rfl, T', h1, h.base.trans ⟨h2.os, h2.tape, h2.output, h2.size, fun b hb => (h2.block b (Nat.lt_of_lt_of_le hb h.base.size) (.inl (h.low b hb)) (by rw [h.low b hb]; omega)).1⟩, fun b hb => ?_, fun r hr => (h.row r hr).go h2, fun r hr => (h.live r hr).go h2 (hs r hr)⟩
  rw [(h2.block b (Nat.lt_of_lt_of_le hb h.base.size) (.inl (h.low b hb)) (by rw [h.low b hb]; omega)).2]
  exact h.low b hb

end BookI
end Go.Proofs.YtebfokjgeknciabGreatDoor
namespace Go.Proofs.YtebfokjgeknciabGreatDoor
namespace BookI
open Go.RowKit Laws Irw
set_option linter.unusedVariables false

theorem own_block {w w' : World} {ty : TypeId} {v : Value} {n : Nat} {vs : List Value} (h : w.ownsRow 0 ty 1 v n vs) (hb : ∀ b, v.ownBlock = some b → w'.heap[b]? = w.heap[b]?) : w'.ownsRow 0 ty 1 v n vs := by
  refine ⟨h.1, ?_⟩
  rcases h.2 with h2 | ⟨g, cap, cur, hv, hg, hh, hr⟩
  · exact .inl h2
  · exact .inr ⟨g, cap, cur, hv, hg, (hb g (by rw [hv]; rfl)).trans hh, hr⟩
/-- The law's own things turn, and the book stays: their tags are 9000000 and above. -/
theorem Kept.goes {u : Nat → Prop} {T T' : Nat → Nat} {w w' : World} {K N : Nat} (h : Kept T w K N) (hg : Goes u T w T' w') (hu : ∀ x, u x → 9000000 ≤ x) : Kept T' w' K N := by
  obtain ⟨⟨f, L, o, x, M, D, h⟩, hz⟩ := h
  have hB : ∀ b, b < w.heap.size → T b < 9000000 → w'.heap[b]? = w.heap[b]? ∧ T' b = T b := fun b hb ht =>
    ⟨hg.block b hb (fun z => by have := hu _ z; omega), hg.tag b hb (fun z => by have := hu _ z; omega)⟩
  refine ⟨⟨f, L, o, x, M, D, { h with core := ⟨⟨Nat.lt_of_lt_of_le h.core.fld.1 hg.size, fun j hj => ?_⟩, ?_, fun j h1 h2 => ⟨own_block (h.core.spine j h1 h2).1 fun b hb => ?_, fun b hb => ?_⟩⟩, outs := fun p hm => ?_, waits := fun i p hi => ?_ }⟩, fun b hb => hg.high b hb (hz b (Nat.le_trans hg.size hb))⟩
  · have e := (hB K h.core.fld.1 (by rw [h.core.tag]; omega)).1
    rw [World.cell?_of_block (a := ⟨K, j, none⟩) e, World.frozen?_of_block (a := ⟨K, j, none⟩) e]
    exact h.core.fld.2 j hj
  · exact (hB K h.core.fld.1 (by rw [h.core.tag]; omega)).2.trans h.core.tag
  · have := (h.core.spine j h1 h2).2 b hb
    exact (hB b ((h.core.spine j h1 h2).1.lt b hb).2 (by omega)).1
  · have := (h.core.spine j h1 h2).2 b hb
    exact (hB b ((h.core.spine j h1 h2).1.lt b hb).2 (by omega)).2.trans this
  · obtain ⟨h1, h2, h3, h4, h5, h6⟩ := h.outs p hm
    have h7 : T p.1.1 = 100 := by
      rcases h6 with h6 | ⟨i, _, h6, _⟩
      · exact h6
      · simp at h6
    obtain ⟨b1, t1⟩ := hB p.1.1 h1.1 (by omega)
    obtain ⟨b2, t2⟩ := hB p.2.1 h2.1 (by omega)
    exact ⟨h1.keep b1 hg.size, h2.keep b2 hg.size, h3, h4, t2.trans h5, .inl (t1.trans h7)⟩
  · obtain ⟨h1, h2, h3, h4, h5, h6⟩ := h.waits i p hi
    have hl : i < x.length := (List.getElem?_eq_some_iff.1 hi).1
    have := h.many
    have := h.few
    obtain ⟨b1, t1⟩ := hB p.1.1 h1.lt (by omega)
    obtain ⟨b2, t2⟩ := hB p.2.1 h2.lt (by omega)
    exact ⟨h1.block b1, h2.block b2, h3, h4, t1.trans h5, t2.trans h6⟩

end BookI
end Go.Proofs.YtebfokjgeknciabGreatDoor
