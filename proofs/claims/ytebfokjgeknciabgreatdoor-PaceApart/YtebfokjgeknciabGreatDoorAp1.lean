import Derived.Test.YtebfokjgeknciabGreatDoorPq4
import Derived.Test.YtebfokjgeknciabGreatDoorPkO
import Derived.Test.YtebfokjgeknciabGreatDoorJT
import Derived.Test.YtebfokjgeknciabGreatDoorCRw
namespace Go.Proofs.YtebfokjgeknciabGreatDoor
namespace Pcm
open Go.RowKit Laws Irw Lin
set_option linter.unusedVariables false
set_option linter.unusedSimpArgs false
set_option maxRecDepth 100000
/-- a function turned at one place -/
def put {α : Type} (f : Nat → α) (i : Nat) (x : α) : Nat → α := fun j => if j = i then x else f j
theorem put_same {α : Type} (f : Nat → α) (i : Nat) (x : α) : put f i x i = x := if_pos rfl
theorem put_other {α : Type} (f : Nat → α) {i j : Nat} (x : α) (h : j ≠ i) : put f i x j = f j := if_neg h
/-- a new book, behind what was made before -/
theorem kept_new (w : World) (T : Nat → Nat) (hT : T w.heap.size = 1) (hz : ∀ b, w.heap.size + 1 ≤ b → T b = 0) : BookI.Kept T (w.alloc (.cells BookI.bookZ 53)) w.heap.size 0 := by
  have hf : BookI.Fld (w.alloc (.cells BookI.bookZ 53)) w.heap.size BookI.f0 := by
    refine ⟨by simp, fun j hj => ⟨?_, ?_⟩⟩
    · have := BookI.bookZ_get j hj
      simp [go_sem, this]
    · simp [go_sem]
  refine ⟨⟨BookI.f0, fun _ => [], [], [], [], [], ⟨⟨hf, hT, fun j h1 h2 => ?_⟩, fun _ _ _ _ => rfl, rfl, rfl, ⟨0, rfl⟩, rfl, ⟨0, rfl, Nat.le_refl _⟩, rfl, rfl, rfl, rfl, rfl, rfl, rfl, rfl, rfl, rfl, rfl, rfl, ?_, ?_, ?_, by simp, by omega⟩⟩, fun b hb => ?_⟩
  · have e : BookI.f0 j = .slice none 0 0 := by
      unfold BookI.f0
      rw [if_neg (by omega), if_neg (by omega), if_neg (by omega)]
    rw [e]
    exact ⟨World.ownsRow_nil _ _ _ _, fun b hb => by cases hb⟩
  · intro p hp; simp at hp
  · intro i p hi; simp at hi
  · intro p hp; simp at hp
  · simp at hb
    exact hz b (by omega)
/-! lists of pointers -/
def kP : Crw.Knd Nat := ⟨26, 1, 8, .pointer none, fun x => [.pointer (some ⟨x, 0, none⟩)], fun _ => rfl, fun x u hu => by simp at hu; subst hu; rfl, by omega, rfl, by omega⟩
def kR : Crw.Knd Nat := ⟨29, 1, 8, .pointer none, fun x => [.pointer (some ⟨x, 0, none⟩)], fun _ => rfl, fun x u hu => by simp at hu; subst hu; rfl, by omega, rfl, by omega⟩
theorem infoP : (Tryz.prog.info? 26).map (fun i => (i.zero, i.size, i.bytes)) = some (some kP.zero, 1, 8) := by kernel_rfl
theorem infoR : (Tryz.prog.info? 29).map (fun i => (i.zero, i.size, i.bytes)) = some (some kR.zero, 1, 8) := by kernel_rfl
theorem undP : Tryz.prog.underlying 24 = some (.slice 26) := by kernel_rfl
theorem undR : Tryz.prog.underlying 25 = some (.slice 29) := by kernel_rfl
theorem isP_new {w : World} {v : Nat} {u : TypeId} : Crw.IsK kP (w.alloc (.cells #[.pointer (some ⟨v, 0, none⟩)] u)) (some ⟨w.heap.size, 0, none⟩) [v] := by
  refine Crw.IsK.of ⟨by simp, fun i z hz j u hu => ?_⟩
  cases i with
  | zero =>
    simp at hz; subst hz
    rw [World.cell?_alloc_at _ _ _ _ rfl]
    cases j with
    | zero => exact hu
    | succ j => exact absurd hu (by rw [show (kP.cs v)[j + 1]? = none from rfl]; simp)
  | succ i => simp at hz
theorem isR_new {w : World} {v : Nat} {u : TypeId} : Crw.IsK kR (w.alloc (.cells #[.pointer (some ⟨v, 0, none⟩)] u)) (some ⟨w.heap.size, 0, none⟩) [v] := by
  refine Crw.IsK.of ⟨by simp, fun i z hz j u hu => ?_⟩
  cases i with
  | zero =>
    simp at hz; subst hz
    rw [World.cell?_alloc_at _ _ _ _ rfl]
    cases j with
    | zero => exact hu
    | succ j => exact absurd hu (by rw [show (kR.cs v)[j + 1]? = none from rfl]; simp)
  | succ i => simp at hz
/-- five pointers that lie -/
structure PtAt (t : Nat) (T : Nat → Nat) (W : World) (b off : Nat) (ps : List Nat) : Prop where
  tag : T b = t
  lt : b < W.heap.size
  cell : ∀ i, i < 5 → W.cell? ⟨b, off + i, none⟩ = some (.pointer (some ⟨ps.getD i 0, 0, none⟩))
theorem PtAt.goes {t : Nat} {u : Nat → Prop} {T T' : Nat → Nat} {W W' : World} {b off : Nat} {ps : List Nat} (h : PtAt t T W b off ps) (hg : Goes u T W T' W') (hu : ¬ u t) : PtAt t T' W' b off ps :=
  ⟨(hg.tag b h.lt (by rw [h.tag]; exact hu)).trans h.tag, Nat.lt_of_lt_of_le h.lt hg.size, fun i hi => (hg.cell h.lt (by rw [h.tag]; exact hu)).trans (h.cell i hi)⟩
theorem PtAt.of {K : Crw.Knd Nat} (hK : K.size = 1) (hc : ∀ x, K.cs x = [.pointer (some ⟨x, 0, none⟩)]) {t : Nat} {T : Nat → Nat} {W : World} {v : Value} {ps : List Nat} (h : Crw.OwnK K t T W v ps) (hl : ps.length = 5) : ∃ b off c, v = .slice (some ⟨b, off, none⟩) 5 c ∧ PtAt t T W b off ps := by
  obtain ⟨a, c, rfl, hi, _, _, ho⟩ := h.form
  obtain ⟨b, off, rfl, hr⟩ := hi (by intro e; rw [e] at hl; simp at hl)
  refine ⟨b, off, c, by rw [hl], (ho b off rfl).1, (ho b off rfl).2, fun i hi => ?_⟩
  have hp : ps[i]? = some (ps.getD i 0) := by simp [List.getElem?_eq_getElem (show i < ps.length by omega)]
  have := hr.2 i _ hp 0 _ (by rw [hc]; rfl)
  rw [hK] at this
  simpa using this
/-- while the buckets are made -/
structure A1 (w1 : World) (rate burst : Int) (k : Nat) (ps qs : List Nat) (v u : Value) (T : Nat → Nat) (W : World) : Prop where
  lp : ps.length = k
  lq : qs.length = k
  lv : Crw.OwnK kP 9000005 T W v ps
  lu : Crw.OwnK kR 9000006 T W u qs
  pq : ∀ i, i < k → Pq (9000010 + 5 * i) T W (ps.getD i 0) (qs.getD i 0) (max (sadd rate i) 0) (max burst 0) (max burst 0) []
  old : Old w1 T W
theorem getD_left {l : List Nat} {x : Nat} {i : Nat} (h : i < l.length) : (l ++ [x]).getD i 0 = l.getD i 0 := by
  simp [List.getD, List.getElem?_append, h]
theorem getD_last (l : List Nat) (x : Nat) : (l ++ [x]).getD l.length 0 = x := by simp [List.getD]
theorem A1.next {w1 : World} {rate burst : Int} {k : Nat} {ps qs : List Nat} {v u v' u' : Value} {T T2 T3 T4 T5 : Nat → Nat} {W w2 w3 w4 w5 : World} {p q : Nat} (h : A1 w1 rate burst k ps qs v u T W)
    (hb : BkAt (9000010 + 5 * k) T2 w2 p (max (sadd rate k) 0) (max burst 0) (max burst 0) []) (hg2 : Goes (fun _ => False) T W T2 w2)
    (ho3 : Crw.OwnK kP 9000005 T3 w3 v' (ps ++ [p])) (hg3 : Goes (· = 9000005) T2 w2 T3 w3)
    (hr : RbAt (9000010 + 5 * k + 3) T4 w4 q (max (sadd rate k) 0) (max burst 0) (max burst 0) []) (hg4 : Goes (fun _ => False) T3 w3 T4 w4)
    (ho5 : Crw.OwnK kR 9000006 T5 w5 u' (qs ++ [q])) (hg5 : Goes (· = 9000006) T4 w4 T5 w5) : A1 w1 rate burst (k + 1) (ps ++ [p]) (qs ++ [q]) v' u' T5 w5 := by
  refine ⟨by rw [List.length_append, h.lp]; rfl, by rw [List.length_append, h.lq]; rfl, (ho3.goes hg4 (fun z => z)).goes hg5 (by omega), ho5, fun i hi => ?_, (((h.old.goes hg2 (fun z => z)).goes hg3 (by omega)).goes hg4 (fun z => z)).goes hg5 (by omega)⟩
  by_cases e : i = k
  · subst e
    have e1 : (ps ++ [p]).getD i 0 = p := by rw [← h.lp]; exact getD_last _ _
    have e2 : (qs ++ [q]).getD i 0 = q := by rw [← h.lq]; exact getD_last _ _
    rw [e1, e2]
    exact ⟨((hb.goes hg3 (by omega) (by omega) (by omega)).goes hg4 (fun z => z) (fun z => z) (fun z => z)).goes hg5 (by omega) (by omega) (by omega), hr.goes hg5 (by omega) (by omega), List.nodup_nil⟩
  · rw [getD_left (by rw [h.lp]; omega), getD_left (by rw [h.lq]; omega)]
    refine ((((h.pq i (by omega)).goes hg2 (fun x z => z.elim)).goes hg3 (fun x z => ?_)).goes hg4 (fun x z => z.elim)).goes hg5 (fun x z => ?_)
    · unfold pqT; omega
    · unfold pqT; omega
/-- the book, the five pairs and the two lists of them -/
structure AP (w1 : World) (K N : Nat) (ps qs : List Nat) (rate burst : Int) (bl ol br or_ : Nat) (tok : Nat → Int) (L : Nat → List Int) (T : Nat → Nat) (W : World) : Prop where
  kept : BookI.Kept T W K N
  pq : ∀ i, i < 5 → Pq (9000010 + 5 * i) T W (ps.getD i 0) (qs.getD i 0) (max (sadd rate i) 0) (max burst 0) (tok i) (L i)
  ll : PtAt 9000005 T W bl ol ps
  lr : PtAt 9000006 T W br or_ qs
  bel : Below w1.heap.size w1 W
  fr : ∀ b, b < w1.heap.size → T b = 0
section
variable {w1 : World} {K N : Nat} {ps qs : List Nat} {rate burst : Int} {bl ol br or_ : Nat} {tok : Nat → Int} {L : Nat → List Int} {T T' : Nat → Nat} {W W' : World}
theorem bel_goes {u : Nat → Prop} (hb : Below w1.heap.size w1 W) (hf : ∀ b, b < w1.heap.size → T b = 0) (hg : Goes u T W T' W') (h0 : ¬ u 0) : Below w1.heap.size w1 W' ∧ ∀ b, b < w1.heap.size → T' b = 0 :=
  ⟨hb.trans ⟨hg.os, hg.tape, hg.output, hg.size, fun b hl => hg.block b (Nat.lt_of_lt_of_le hl hb.size) (by rw [hf b hl]; exact h0)⟩, fun b hl => (hg.tag b (Nat.lt_of_lt_of_le hl hb.size) (by rw [hf b hl]; exact h0)).trans (hf b hl)⟩
theorem AP.below (h : AP w1 K N ps qs rate burst bl ol br or_ tok L T W) (hb : Below W.heap.size W W') : AP w1 K N ps qs rate burst bl ol br or_ tok L T W' :=
  ⟨h.kept.below hb, fun i hi => (h.pq i hi).below hb, h.ll.goes (Goes.below (t := fun _ => False) hb) (fun z => z), h.lr.goes (Goes.below (t := fun _ => False) hb) (fun z => z), h.bel.trans (hb.mono h.bel.size), h.fr⟩
/-- all else but the book goes on -/
theorem AP.over {u : Nat → Prop} {N' : Nat} (h : AP w1 K N ps qs rate burst bl ol br or_ tok L T W) (hg : Goes u T W T' W') (hu : ∀ x, u x → x ≠ 0 ∧ (x < 9000005 ∨ 9000034 < x)) (hk : BookI.Kept T' W' K N') : AP w1 K N' ps qs rate burst bl ol br or_ tok L T' W' := by
  have hb := bel_goes h.bel h.fr hg (fun z => (hu 0 z).1 rfl)
  exact ⟨hk, fun i hi => (h.pq i hi).goes hg (fun x z => by have := hu x z; unfold pqT; omega), h.ll.goes hg (fun z => by have := hu _ z; omega), h.lr.goes hg (fun z => by have := hu _ z; omega), hb.1, hb.2⟩
theorem AP.first {v u : Value} (h : A1 w1 rate burst 5 ps qs v u T W) (hl : PtAt 9000005 T W bl ol ps) (hr : PtAt 9000006 T W br or_ qs) :
    AP w1 W.heap.size 0 ps qs rate burst bl ol br or_ (fun _ => max burst 0) (fun _ => []) (upd T W.heap.size 1) (W.alloc (.cells BookI.bookZ 53)) := by
  have hb : Below W.heap.size W (W.alloc (.cells BookI.bookZ 53)) := (Below.refl _ _).alloc (Nat.le_refl _) _
  have hs : (W.alloc (.cells BookI.bookZ 53)).heap.size = W.heap.size + 1 := by simp
  have hg : Goes (fun _ => False) T W (upd T W.heap.size 1) (W.alloc (.cells BookI.bookZ 53)) := ⟨hb.os, hb.tape, hb.output, hb.size, fun b hl _ => hb.block b hl, fun b hl _ => upd_other _ _ (by omega), fun b hl h0 => (upd_other _ _ (by omega)).trans h0⟩
  have hbl := bel_goes h.old.below (fun b hb => h.old.zero b (.inl hb)) hg (fun z => z)
  exact ⟨kept_new W _ (upd_same _ _ _) (fun b hb => (upd_other _ _ (by omega)).trans (h.old.zero b (.inr (by omega)))), fun i hi => (h.pq i hi).goes hg (fun x z => z.elim), hl.goes hg (fun z => z), hr.goes hg (fun z => z), hbl.1, hbl.2⟩
/-- one pair has turned -/
theorem AP.turn {i : Nat} (hi : i < 5) {tk : Int} {l : List Int} (h : AP w1 K N ps qs rate burst bl ol br or_ tok L T W) (hp : Pq (9000010 + 5 * i) T' W' (ps.getD i 0) (qs.getD i 0) (max (sadd rate i) 0) (max burst 0) tk l) (hg : Goes (pqT (9000010 + 5 * i)) T W T' W') :
    AP w1 K N ps qs rate burst bl ol br or_ (put tok i tk) (put L i l) T' W' := by
  have hb := bel_goes h.bel h.fr hg (by unfold pqT; omega)
  refine ⟨h.kept.goes hg (fun x hx => by unfold pqT at hx; omega), fun j hj => ?_, h.ll.goes hg (by unfold pqT; omega), h.lr.goes hg (by unfold pqT; omega), hb.1, hb.2⟩
  by_cases e : j = i
  · subst e; rw [put_same, put_same]; exact hp
  · rw [put_other _ _ e, put_other _ _ e]; exact (h.pq j hj).goes hg (fun x z => by unfold pqT at z ⊢; omega)
/-- A list in a block of its own goes to the book. -/
theorem AP.ints (h : AP w1 K N ps qs rate burst bl ol br or_ tok L T W) (hN : N + 1 ≤ 2000) {a : Option Addr} {c n : Nat} {l : List Int} (mark : Int) (ho : W.ownsRow 0 3 1 (.slice a n c) n (cellsI l)) (hz : ∀ g, (Value.slice a n c).ownBlock = some g → T g = 0 ∧ w1.heap.size ≤ g) (hn : n = l.length) (hl : l.length ≤ 1000000000000) :
    Calls Tryz.prog 11 #[.pointer (some ⟨K, 0, none⟩), .slice a n c, .int .i64 mark] W fun e w' => e = .returned (.tuple #[]) ∧ ∃ T', AP w1 K (N + 1) ps qs rate burst bl ol br or_ tok L T' w' ∧ W.heap.size ≤ w'.heap.size ∧ ∀ b, b < W.heap.size → T b = 0 → (Value.slice a n c).ownBlock ≠ some b → w'.heap[b]? = W.heap[b]? := by
  subst hn
  rcases ho.2 with ⟨hv, h0⟩ | ⟨g, cap, cur, hv, hg, hh, hc, hm, hs, ht⟩
  · simp only [Value.slice.injEq] at hv
    obtain ⟨rfl, hv2, rfl⟩ := hv
    rw [hv2]
    refine (h.kept.bytes_nil hN mark 1).mono ?_
    rintro e w' ⟨rfl, T', h1, h2⟩
    have hg : Goes (fun x => ¬ (x = 0 ∨ 9000000 ≤ x) ∨ x = 9000001) T W T' w' := ⟨h2.os, h2.tape, h2.output, h2.size, fun b hb hu => (h2.block b hb (by omega) (by omega)).1, fun b hb hu => (h2.block b hb (by omega) (by omega)).2, fun b hb _ => h1.2 b hb⟩
    exact ⟨rfl, T', h.over hg (fun x hx => by omega) h1, h2.size, fun b hb h0 _ => hg.block b hb (by rw [h0]; omega)⟩
  · simp only [Value.slice.injEq] at hv
    obtain ⟨rfl, _, rfl⟩ := hv
    have z2 : g < W.heap.size := (ho.lt g rfl).2
    obtain ⟨hz0, hz1⟩ := hz g rfl
    have hown : BookI.OwnI W (g, c, l) := BookI.OwnI.of ho
    have hgT : Goes (· = 0) T W (BookI.upd T g (9000000 + 1)) W := ⟨rfl, rfl, rfl, Nat.le_refl _, fun b hl _ => rfl, fun b hl hu => BookI.upd_other _ _ (fun e => hu (by rw [e]; exact hz0)), fun b hl h0 => (BookI.upd_other _ _ (by omega)).trans h0⟩
    have hk9 : BookI.Kept (BookI.upd T g (9000000 + 1)) W K N := h.kept.tag g 1 hz0 z2
    have hlv : BookI.Live 1 (BookI.upd T g (9000000 + 1)) W (some ⟨g, 0, none⟩) c l := ⟨⟨g, rfl, hown, BookI.upd_same _ _ _⟩, hc, BookI.own_cap ho⟩
    have h9 : AP w1 K N ps qs rate burst bl ol br or_ tok L (BookI.upd T g (9000000 + 1)) W := ⟨hk9, fun i hi => (h.pq i hi).goes hgT (fun x z => by unfold pqT; omega), h.ll.goes hgT (by omega), h.lr.goes hgT (by omega), h.bel, fun b hb => (BookI.upd_other _ _ (by omega)).trans (h.fr b hb)⟩
    refine (hk9.bytes hN mark hlv hl rfl).mono ?_
    rintro e w' ⟨rfl, T', h1, h2⟩
    have hg : Goes (fun x => ¬ (x = 0 ∨ 9000000 ≤ x) ∨ x = 9000001) (BookI.upd T g (9000000 + 1)) W T' w' := ⟨h2.os, h2.tape, h2.output, h2.size, fun b hb hu => (h2.block b hb (by omega) (by omega)).1, fun b hb hu => (h2.block b hb (by omega) (by omega)).2, fun b hb _ => h1.2 b hb⟩
    refine ⟨rfl, T', h9.over hg (fun x hx => by omega) h1, h2.size, fun b hb h0 hne => hg.block b hb ?_⟩
    rw [BookI.upd_other _ _ (fun e => hne (by rw [e]; rfl)), h0]
    omega
end
/-- two lines that were handed out -/
structure Two (W w' : World) (l : List Int) (n : Nat) (ax : Option Addr) (cx : Nat) (ay : Option Addr) : Prop where
  below : Below W.heap.size W w'
  own : w'.ownsRow 0 3 1 (.slice ax n cx) n (cellsI l)
  new : ∀ g, (Value.slice ax n cx).ownBlock = some g → W.heap.size ≤ g ∧ g < w'.heap.size
  is : IsI w' ay l
  far : ∀ b off, ay = some ⟨b, off, none⟩ → W.heap.size ≤ b ∧ (Value.slice ax n cx).ownBlock ≠ some b
theorem own_is {B : Nat} {w : World} {a : Option Addr} {n c : Nat} {l : List Int} (h : w.ownsRow B 3 1 (.slice a n c) n (cellsI l)) (hn : n = l.length) : IsI w a l ∧ ∀ b off, a = some ⟨b, off, none⟩ → (Value.slice a n c).ownBlock = some b ∧ B ≤ b ∧ b < w.heap.size := by
  refine ⟨isI_owns h hn, fun b off e => ?_⟩
  subst e
  have h1 : (Value.slice (some ⟨b, off, none⟩) n c).ownBlock = some b := by
    rcases h.2 with ⟨hv, _⟩ | ⟨g, cap, cur, hv, _⟩
    · cases hv
    · cases hv; rfl
  exact ⟨h1, (h.lt b h1).1, (h.lt b h1).2⟩
theorem own_zero {B : Nat} {w : World} {v : Value} {n : Nat} {cs : List Value} (h : w.ownsRow B 3 1 v n cs) : w.ownsRow 0 3 1 v n cs := BookI.own_base h (fun _ _ => Nat.zero_le _)
theorem Two.one {W w8 w9 : World} {l : List Int} {n : Nat} {ax ay : Option Addr} {cx cy : Nat} (hn : n = l.length) (h8 : w8.ownsRow W.heap.size 3 1 (.slice ax n cx) n (cellsI l)) (hb8 : Below W.heap.size W w8) (h9 : w9.ownsRow w8.heap.size 3 1 (.slice ay n cy) n (cellsI l)) (hb9 : Below w8.heap.size w8 w9) : Two W w9 l n ax cx ay := by
  obtain ⟨i9, o9⟩ := own_is h9 hn
  refine ⟨hb8.trans (hb9.mono hb8.size), BookI.own_block (own_zero h8) (fun b e => hb9.block b (h8.lt b e).2), fun g e => ⟨(h8.lt g e).1, Nat.lt_of_lt_of_le (h8.lt g e).2 hb9.size⟩, i9, fun b off e => ⟨Nat.le_trans hb8.size (o9 b off e).2.1, fun e2 => ?_⟩⟩
  have := (h8.lt b e2).2
  have := (o9 b off e).2.1
  omega
theorem Two.other {W w8 w9 : World} {l : List Int} {n : Nat} {ax ay : Option Addr} {cx cy : Nat} (hn : n = l.length) (h8 : w8.ownsRow W.heap.size 3 1 (.slice ay n cy) n (cellsI l)) (hb8 : Below W.heap.size W w8) (h9 : w9.ownsRow w8.heap.size 3 1 (.slice ax n cx) n (cellsI l)) (hb9 : Below w8.heap.size w8 w9) : Two W w9 l n ax cx ay := by
  obtain ⟨i8, o8⟩ := own_is h8 hn
  refine ⟨hb8.trans (hb9.mono hb8.size), own_zero h9, fun g e => ⟨Nat.le_trans hb8.size (h9.lt g e).1, (h9.lt g e).2⟩, i8.below hb9, fun b off e => ⟨(o8 b off e).2.1, fun e2 => ?_⟩⟩
  have := (h9.lt b e2).1
  have := (o8 b off e).2.2
  omega
end Pcm
end Go.Proofs.YtebfokjgeknciabGreatDoor
