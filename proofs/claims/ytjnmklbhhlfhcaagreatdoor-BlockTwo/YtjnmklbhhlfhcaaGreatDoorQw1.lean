import Derived.Test.YtjnmklbhhlfhcaaGreatDoorNT
import Derived.Test.YtjnmklbhhlfhcaaGreatDoorQw2
import Derived.Test.YtjnmklbhhlfhcaaGreatDoorQg2
import Derived.Test.YtjnmklbhhlfhcaaGreatDoorQc6
import Derived.Test.YtjnmklbhhlfhcaaGreatDoorCRw
namespace Go.Proofs.YtjnmklbhhlfhcaaGreatDoor
namespace Qw
open Go.RowKit CMath Byt Laws Irw Crw Cod Qb
set_option linter.unusedVariables false
set_option linter.unusedSimpArgs false
set_option maxRecDepth 100000
abbrev Sv := Option Addr × Nat × Nat
abbrev sV (x : Sv) : Value := .slice x.1 x.2.1 x.2.2
/-- blocks that were opened, with the entries that were taken -/
def kSh : Knd (Nat × Sv) := ⟨74, 2, 32, .agg #[.pointer none, .slice none 0 0], fun x => [.pointer (some ⟨x.1, 3, none⟩), .slice x.2.1 x.2.2.1 x.2.2.2], fun _ => rfl, fun x u hu => by simp at hu; rcases hu with rfl | rfl <;> rfl, by omega, rfl, by omega⟩
theorem infoSh : (Tryz.prog.info? 74).map (fun i => (i.zero, i.size, i.bytes)) = some (some kSh.zero, 2, 32) := by kernel_rfl
theorem undSh : Tryz.prog.underlying 51 = some (.slice kSh.ty) := by kernel_rfl
theorem isSh_new {w : World} {M : Nat} {a : Option Addr} {n c : Nat} {u : TypeId} : IsK kSh (w.alloc (.cells #[.pointer (some ⟨M, 3, none⟩), .slice a n c] u)) (some ⟨w.heap.size, 0, none⟩) [(M, a, n, c)] := by
  refine IsK.of ⟨by simp, fun i z hz j v hv => ?_⟩
  cases i with
  | zero =>
    simp at hz; subst hz
    rw [World.cell?_alloc_at _ _ _ _ rfl]
    match j with
    | 0 => exact hv
    | 1 => exact hv
    | j + 2 => exact absurd hv (by rw [show (kSh.cs (M, a, n, c))[j + 2]? = none from rfl]; simp)
  | succ i => simp at hz
/-- a function turned at one place -/
def put {α : Type} (f : Nat → α) (i : Nat) (x : α) : Nat → α := fun j => if j = i then x else f j
theorem put_same {α : Type} (f : Nat → α) (i : Nat) (x : α) : put f i x i = x := if_pos rfl
theorem put_other {α : Type} (f : Nat → α) {i j : Nat} (x : α) (h : j ≠ i) : put f i x j = f j := if_neg h
theorem put_self {α : Type} (f : Nat → α) (i : Nat) : put f i (f i) = f := by
  funext j
  unfold put
  split
  · rename_i h; rw [h]
  · rfl
/-- What is gone through behind a list of entries: they rise, and are right. -/
def Fit (l : List En) : Prop := chain ⟨#[]⟩ l ∧ ∀ e ∈ l, 0 ≤ e.2.1
theorem Fit.ok {l : List En} (h : Fit l) : ∀ e ∈ l, Ok e ∧ 0 ≤ e.2.1 := fun e he => ⟨chain_ok h.1 e he, h.2 e he⟩
/-- A block that lies in blocks of tag 0. -/
abbrev Blk0 (T : Nat → Nat) (W : World) (M : Nat) (S : St) : Prop := BlkAt (fun x => x ≠ 0) T W M 3 S.b S.p
/-- A block that was opened, beside the entries of it. -/
structure ShOk (T : Nat → Nat) (W : World) (x : Nat × Sv) (y : Nat × List En) : Prop where
  bl : Blk0 T W x.1 (pushes y.1 st0 y.2)
  en : Erw.IsE W x.2.1 y.2
  tg : ∀ b off, x.2.1 = some ⟨b, off, none⟩ → y.2 ≠ [] → T b = 0
  ln : x.2.2.1 = y.2.length
  md : (wkp (pushes y.1 st0 y.2).b 0).map Prod.snd = y.2
  le : (pushes y.1 st0 y.2).b.length ≤ 1000000000
  few : y.2.length ≤ 200
theorem isE_goes {u : Nat → Prop} {T T' : Nat → Nat} {w w' : World} {a : Option Addr} {l : List En} (h : Erw.IsE w a l) (hg : Goes u T w T' w') (h0 : ¬ u 0) (ht : ∀ b off, a = some ⟨b, off, none⟩ → l ≠ [] → T b = 0) : Erw.IsE w' a l ∧ ∀ b off, a = some ⟨b, off, none⟩ → l ≠ [] → T' b = 0 := by
  refine ⟨fun hne => ?_, fun b off e hne => ?_⟩
  · obtain ⟨b, off, e, hr⟩ := h hne
    exact ⟨b, off, e, hr.keep (hg.block b hr.1 (by rw [ht b off e hne]; exact h0)) hg.size⟩
  · obtain ⟨b', off', e', hr⟩ := h hne
    rw [e] at e'
    cases e'
    rw [hg.tag b hr.1 (by rw [ht b off e hne]; exact h0)]
    exact ht b off e hne
theorem blk_goes {u : Nat → Prop} {T T' : Nat → Nat} {w w' : World} {K o : Nat} {eb pb : List Nat} (h : BlkAt (fun x => x ≠ 0) T w K o eb pb) (hg : Goes u T w T' w') (h0 : ¬ u 0) : BlkAt (fun x => x ≠ 0) T' w' K o eb pb := h.goes (hg.mono fun x hx e => h0 (e ▸ hx))
theorem ShOk.goes {u : Nat → Prop} {T T' : Nat → Nat} {w w' : World} {x : Nat × Sv} {y : Nat × List En} (h : ShOk T w x y) (hg : Goes u T w T' w') (h0 : ¬ u 0) : ShOk T' w' x y := by
  have := isE_goes h.en hg h0 h.tg
  exact ⟨blk_goes h.bl hg h0, this.1, this.2, h.ln, h.md, h.le, h.few⟩
/-- The list 'seen', and what each thing of it is. -/
structure Seen (T : Nat → Nat) (W : World) (v : Value) (xs : List (Nat × Sv)) (ys : List (Nat × List En)) : Prop where
  ow : OwnK kSh 9000023 T W v xs
  ln : xs.length = ys.length
  ok : ∀ (i : Nat) x y, xs[i]? = some x → ys[i]? = some y → ShOk T W x y
theorem Seen.goes {u : Nat → Prop} {T T' : Nat → Nat} {W W' : World} {v : Value} {xs : List (Nat × Sv)} {ys : List (Nat × List En)} (h : Seen T W v xs ys) (hg : Goes u T W T' W') (h0 : ¬ u 0) (h1 : ¬ u 9000023) : Seen T' W' v xs ys :=
  ⟨h.ow.goes hg h1, h.ln, fun i x y hx hy => (h.ok i x y hx hy).goes hg h0⟩
theorem Seen.nil (T : Nat → Nat) (w : World) : Seen T w (.slice none 0 0) [] [] := ⟨OwnK.empty _ _ _, rfl, fun i x y hx => by simp at hx⟩
theorem Seen.app {T T' : Nat → Nat} {W W' : World} {v v' : Value} {xs : List (Nat × Sv)} {ys : List (Nat × List En)} {x : Nat × Sv} {y : Nat × List En} (h : Seen T W v xs ys) (hx : ShOk T W x y) (hg : Goes (· = 9000023) T W T' W') (hv : OwnK kSh 9000023 T' W' v' (xs ++ [x])) : Seen T' W' v' (xs ++ [x]) (ys ++ [y]) := by
  refine ⟨hv, by simp [h.ln], fun i x1 y1 h1 h2 => ?_⟩
  by_cases hi : i < xs.length
  · rw [List.getElem?_append_left hi] at h1
    rw [List.getElem?_append_left (by rw [← h.ln]; exact hi)] at h2
    exact (h.ok i x1 y1 h1 h2).goes hg (by omega)
  · have hi2 : i = xs.length := by
      have := (List.getElem?_eq_some_iff.1 h1).1
      simp at this
      omega
    subst hi2
    rw [List.getElem?_concat_length] at h1
    rw [h.ln, List.getElem?_concat_length] at h2
    cases h1
    cases h2
    exact hx.goes hg (by omega)
theorem Seen.at_ {T : Nat → Nat} {W : World} {a : Option Addr} {n c : Nat} {xs : List (Nat × Sv)} {ys : List (Nat × List En)} (h : Seen T W (.slice a n c) xs ys) {k : Nat} (hk : k < xs.length) :
    ∃ g o M a1 n1 c1 y, a = some ⟨g, o, none⟩ ∧ g < W.heap.size ∧ W.cell? ⟨g, o + k * 2, none⟩ = some (.pointer (some ⟨M, 3, none⟩)) ∧ W.cell? ⟨g, o + k * 2 + 1, none⟩ = some (.slice a1 n1 c1) ∧ ShOk T W (M, a1, n1, c1) y := by
  obtain ⟨a', c', e, hi, _⟩ := h.ow.form
  cases e
  obtain ⟨g, o, e, hr⟩ := hi.at_ (by omega)
  have hx : xs[k]? = some xs[k] := List.getElem?_eq_getElem hk
  have hy : ys[k]? = some (ys[k]'(by rw [← h.ln]; exact hk)) := List.getElem?_eq_getElem _
  have c0 := hr.2 k _ hx 0 _ rfl
  have c1 := hr.2 k _ hx 1 _ rfl
  exact ⟨g, o, _, _, _, _, _, e, hr.1, c0, c1, h.ok k _ _ hx hy⟩
/-- What BlockTwo holds: the book, two makers (what they were told: A'), the entries that were taken (A), the blocks that were opened. -/
structure Tw (w : World) (K N mb rb ib : Nat) (M : Nat → Nat) (r : Nat → Int) (A' A : Nat → List En) (v : Nat → Sv) (sv : Value) (xs : List (Nat × Sv)) (ys : List (Nat × List En)) (T : Nat → Nat) (W : World) : Prop where
  kept : BookB.Kept T W K N
  ma : ∀ i, i < 2 → MakerAt (9000010 + 3 * i) T W (M i) (r i) (pushes (Rn (r i)) st0 (A' i))
  ow : ∀ i, i < 2 → Erw.OwnE (9000020 + i) T W (sV (v i)) (A i)
  ml : mb < W.heap.size
  rl : rb < W.heap.size
  il : ib < W.heap.size
  mt : T mb = 0
  rt : T rb = 0
  it : T ib = 9000022
  mc : ∀ i, i < 2 → W.cell? ⟨mb, i, none⟩ = some (.pointer (some ⟨M i, 0, none⟩))
  rs : ∀ i, i < 2 → W.cell? ⟨rb, i, none⟩ = some (.int .i64 (r i))
  bx : ∀ i, i < 2 → W.cell? ⟨ib, i, none⟩ = some (sV (v i))
  fz : ∀ i, W.frozen? ⟨ib, i, none⟩ = false
  se : Seen T W sv xs ys
  bl : Below w.heap.size w W
  fr : ∀ b, b < w.heap.size → T b = 0
section
variable {w : World} {K N mb rb ib : Nat} {M : Nat → Nat} {r : Nat → Int} {A' A : Nat → List En} {v : Nat → Sv} {sv : Value} {xs : List (Nat × Sv)} {ys : List (Nat × List En)} {T T' : Nat → Nat} {W W' : World}
theorem bel_goes {u : Nat → Prop} {w W W' : World} {T T' : Nat → Nat} (hb : Below w.heap.size w W) (hf : ∀ b, b < w.heap.size → T b = 0) (hg : Goes u T W T' W') (h0 : ¬ u 0) : Below w.heap.size w W' ∧ ∀ b, b < w.heap.size → T' b = 0 :=
  ⟨hb.trans ⟨hg.os, hg.tape, hg.output, hg.size, fun b hl => hg.block b (Nat.lt_of_lt_of_le hl hb.size) (by rw [hf b hl]; exact h0)⟩, fun b hl => (hg.tag b (Nat.lt_of_lt_of_le hl hb.size) (by rw [hf b hl]; exact h0)).trans (hf b hl)⟩
/-- What stays of it, whatever of the law's own turns, but the makers, the lists, the list 'seen' and the book. -/
theorem Tw.rest {u : Nat → Prop} {A2' A2 : Nat → List En} {sv2 : Value} {xs2 : List (Nat × Sv)} {ys2 : List (Nat × List En)} {N2 : Nat} (h : Tw w K N mb rb ib M r A' A v sv xs ys T W) (hg : Goes u T W T' W') (h0 : ¬ u 0) (h1 : ¬ u 9000022)
    (kept : BookB.Kept T' W' K N2) (ma : ∀ i, i < 2 → MakerAt (9000010 + 3 * i) T' W' (M i) (r i) (pushes (Rn (r i)) st0 (A2' i))) (ow : ∀ i, i < 2 → Erw.OwnE (9000020 + i) T' W' (sV (v i)) (A2 i)) (se : Seen T' W' sv2 xs2 ys2) : Tw w K N2 mb rb ib M r A2' A2 v sv2 xs2 ys2 T' W' := by
  have hb := bel_goes h.bl h.fr hg h0
  have em : ¬ u (T mb) := by rw [h.mt]; exact h0
  have er : ¬ u (T rb) := by rw [h.rt]; exact h0
  have ei : ¬ u (T ib) := by rw [h.it]; exact h1
  exact ⟨kept, ma, ow, Nat.lt_of_lt_of_le h.ml hg.size, Nat.lt_of_lt_of_le h.rl hg.size, Nat.lt_of_lt_of_le h.il hg.size, (hg.tag _ h.ml em).trans h.mt, (hg.tag _ h.rl er).trans h.rt, (hg.tag _ h.il ei).trans h.it, fun i hi => (hg.cell h.ml em).trans (h.mc i hi), fun i hi => (hg.cell h.rl er).trans (h.rs i hi), fun i hi => (hg.cell h.il ei).trans (h.bx i hi), fun i => (World.frozen?_of_block (a := ⟨ib, i, none⟩) (hg.block ib h.il ei)).trans (h.fz i), se, hb.1, hb.2⟩
theorem Tw.below (h : Tw w K N mb rb ib M r A' A v sv xs ys T W) (hb : Below W.heap.size W W') : Tw w K N mb rb ib M r A' A v sv xs ys T W' :=
  h.rest (Goes.below (t := fun _ => False) hb) (fun z => z) (fun z => z) (h.kept.below hb) (fun i hi => (h.ma i hi).below hb) (fun i hi => (h.ow i hi).below hb) (h.se.goes (Goes.below (t := fun _ => False) hb) (fun z => z) (fun z => z))
/-- One maker was told an entry. -/
theorem Tw.add {i : Nat} (hi : i < 2) {l : List En} (h : Tw w K N mb rb ib M r A' A v sv xs ys T W) (hm : MakerAt (9000010 + 3 * i) T' W' (M i) (r i) (pushes (Rn (r i)) st0 l)) (hg : Goes (Mk (9000010 + 3 * i)) T W T' W') : Tw w K N mb rb ib M r (put A' i l) A v sv xs ys T' W' := by
  refine h.rest hg (by unfold Mk; omega) (by unfold Mk; omega) (h.kept.goes hg (fun x hx => by unfold Mk at hx; omega)) (fun j hj => ?_) (fun j hj => (h.ow j hj).goes hg (by unfold Mk; omega)) (h.se.goes hg (by unfold Mk; omega) (by unfold Mk; omega))
  by_cases e : j = i
  · subst e; rw [put_same]; exact hm
  · rw [put_other _ _ e]; exact (h.ma j hj).goes hg (by unfold Mk; omega) (by unfold Mk; omega) (by unfold Mk; omega)
/-- One list grew, and lies in the array. -/
theorem Tw.app {i : Nat} (hi : i < 2) {l : List En} {s : Sv} (h : Tw w K N mb rb ib M r A' A v sv xs ys T W) (ho : Erw.OwnE (9000020 + i) T' W' (sV s) l) (hg : Goes (· = 9000020 + i) T W T' W') : Tw w K N mb rb ib M r A' (put A i l) (put v i s) sv xs ys T' (W'.setCell ⟨ib, i, none⟩ (sV s)) := by
  have ei : ¬ (T ib = 9000020 + i) := by rw [h.it]; omega
  have hT : T' ib = 9000022 := (hg.tag ib h.il ei).trans h.it
  have hl : ib < W'.heap.size := Nat.lt_of_lt_of_le h.il hg.size
  have hs : Goes (· = 9000022) T' W' T' (W'.setCell ⟨ib, i, none⟩ (sV s)) := Goes.setCell hT
  have hgs : Goes (fun x => x = 9000020 + i ∨ x = 9000022) T W T' (W'.setCell ⟨ib, i, none⟩ (sV s)) := (hg.mono fun x hx => .inl hx).trans (hs.mono fun x hx => .inr hx)
  have hb := bel_goes h.bl h.fr hgs (by omega)
  have em : ¬ (T mb = 9000020 + i ∨ T mb = 9000022) := by rw [h.mt]; omega
  have er : ¬ (T rb = 9000020 + i ∨ T rb = 9000022) := by rw [h.rt]; omega
  refine ⟨h.kept.goes hgs (fun x hx => by omega), fun j hj => (h.ma j hj).goes hgs (by omega) (by omega) (by omega), fun j hj => ?_, Nat.lt_of_lt_of_le h.ml hgs.size, Nat.lt_of_lt_of_le h.rl hgs.size, Nat.lt_of_lt_of_le h.il hgs.size, (hgs.tag _ h.ml em).trans h.mt, (hgs.tag _ h.rl er).trans h.rt, hT, fun j hj => (hgs.cell h.ml em).trans (h.mc j hj), fun j hj => (hgs.cell h.rl er).trans (h.rs j hj), fun j hj => ?_, fun j => ?_, h.se.goes hgs (by omega) (by omega), hb.1, hb.2⟩
  · by_cases e : j = i
    · subst e; rw [put_same, put_same]; exact ho.goes hs (by omega)
    · rw [put_other _ _ e, put_other _ _ e]; exact (h.ow j hj).goes hgs (by omega)
  · by_cases e : j = i
    · subst e; rw [put_same]; exact World.cell?_setCell_same _ _ _ ((hg.cell h.il ei).trans (h.bx j hj))
    · rw [put_other _ _ e]
      exact (World.cell?_setCell_other _ _ _ _ (by intro z; exact e (congrArg Addr.off z).symm)).trans ((hg.cell h.il ei).trans (h.bx j hj))
  · rw [World.frozen?_setCell]; exact (World.frozen?_of_block (a := ⟨ib, j, none⟩) (hg.block ib h.il ei)).trans (h.fz j)
/-- New bytes are to be kept. -/
theorem Tw.make (h : Tw w K N mb rb ib M r A' A v sv xs ys T W) (hb : Below W.heap.size W W') {vb : Value} {l : List Nat} (hn : Byt.Own 5 W.heap.size W' vb l) :
    ∃ g c T', vb = .slice (some ⟨g, 0, none⟩) l.length c ∧ l.length ≤ c ∧ c ≤ 9223372036854775807 ∧ W.heap.size ≤ g ∧ Tw w K N mb rb ib M r A' A v sv xs ys T' W' ∧ BookB.Live 1 T' W' (some ⟨g, 0, none⟩) c l ∧ ∀ b, b ≠ g → T' b = T b := by
  have hle := (New.ofOwn hn).elim fun a h => h.elim fun c' h => (⟨a, c', h.1, h.2.le, h.2⟩ : ∃ a c', vb = .slice a l.length c' ∧ l.length ≤ c' ∧ New 5 W.heap.size W' a c' l)
  obtain ⟨a1, c1, e1, h1, hnew⟩ := hle
  obtain ⟨g, c, rfl, hrow, hby⟩ := hn
  simp only [Value.slice.injEq] at e1
  obtain ⟨rfl, _, rfl⟩ := e1
  obtain ⟨z1, z2⟩ := hrow.lt g rfl
  have hcm : c ≤ 9223372036854775807 := by
    rcases hrow.2 with ⟨k1, _⟩ | ⟨g', c', cur, k1, _, _, _, k2, _⟩
    · cases k1
    · cases k1
      unfold maxLen at k2
      exact k2
  have hz := h.kept.2 g z1
  have hown : BookB.OwnI W' (g, c, l) := BookB.OwnI.of (BookB.own_base hrow (fun _ _ => Nat.zero_le _))
  have no : ∀ b, b ≠ g → BookB.upd T g (9000000 + 1) b = T b := fun b hb' => BookB.upd_other _ _ hb'
  have hg : Goes (fun _ => False) T W (BookB.upd T g (9000000 + 1)) W' := ⟨hb.os, hb.tape, hb.output, hb.size, fun b hl _ => hb.block b hl, fun b hl _ => no b (by omega), fun b hl h0 => (BookB.upd_other _ _ (by omega)).trans h0⟩
  exact ⟨g, c, BookB.upd T g (9000000 + 1), rfl, h1, hcm, z1, h.rest hg (fun z => z) (fun z => z) ((h.kept.below hb).tag g 1 hz z2) (fun i hi => (h.ma i hi).goes hg (fun z => z) (fun z => z) (fun z => z)) (fun i hi => (h.ow i hi).goes hg (fun z => z)) (h.se.goes hg (fun z => z) (fun z => z)), ⟨⟨g, rfl, hown, BookB.upd_same _ _ _⟩, hby, h1, BookB.own_cap hrow⟩, no⟩
/-- Bytes go to the book. -/
theorem Tw.book (h : Tw w K N mb rb ib M r A' A v sv xs ys T W) (hN : N + 1 ≤ 1000) {a : Option Addr} {c n : Nat} {l : List Nat} (mark : Int) (ha : BookB.Live 1 T W a c l) (hl : l.length ≤ 1000000000000) (hn : n = l.length) :
    Calls Tryz.prog 16 #[.pointer (some ⟨K, 0, none⟩), .slice a n c, .int .i64 mark] W fun e w' => e = .returned (.tuple #[]) ∧ ∃ T', Tw w K (N + 1) mb rb ib M r A' A v sv xs ys T' w' ∧ Goes (fun x => ¬ (x = 0 ∨ 9000000 ≤ x) ∨ x = 9000001) T W T' w' := by
  refine (h.kept.bytes hN mark ha hl hn).mono ?_
  rintro e w' ⟨rfl, T', h1, h2⟩
  have hg : Goes (fun x => ¬ (x = 0 ∨ 9000000 ≤ x) ∨ x = 9000001) T W T' w' := ⟨h2.os, h2.tape, h2.output, h2.size, fun b hb hu => (h2.block b hb (by omega) (by omega)).1, fun b hb hu => (h2.block b hb (by omega) (by omega)).2, fun b hb _ => h1.2 b hb⟩
  exact ⟨rfl, T', h.rest hg (by omega) (by omega) h1 (fun i hi => (h.ma i hi).goes hg (by omega) (by omega) (by omega)) (fun i hi => (h.ow i hi).goes hg (by omega)) (h.se.goes hg (by omega) (by omega)), hg⟩
/-- One block more was seen. -/
theorem Tw.see (h : Tw w K N mb rb ib M r A' A v sv xs ys T W) {sv2 : Value} {x : Nat × Sv} {y : Nat × List En} (hx : ShOk T W x y) (hg : Goes (· = 9000023) T W T' W') (hv : OwnK kSh 9000023 T' W' sv2 (xs ++ [x])) : Tw w K N mb rb ib M r A' A v sv2 (xs ++ [x]) (ys ++ [y]) T' W' :=
  h.rest hg (by omega) (by omega) (h.kept.goes hg (fun x hx => by omega)) (fun i hi => (h.ma i hi).goes hg (by omega) (by omega) (by omega)) (fun i hi => (h.ow i hi).goes hg (by omega)) (h.se.app hx hg hv)
theorem Tw.isE {i : Nat} (hi : i < 2) (h : Tw w K N mb rb ib M r A' A v sv xs ys T W) : Erw.IsE W (v i).1 (A i) ∧ (v i).2.1 = (A i).length ∧ (v i).2.1 ≤ (v i).2.2 ∧ ((v i).1 = none → (v i).2.2 = 0) := ⟨(h.ow i hi).isE.1, (h.ow i hi).isE.2.1, (h.ow i hi).isE.2.2.2, (h.ow i hi).isE.2.2.1⟩
theorem Tw.last {i : Nat} (hi : i < 2) (h : Tw w K N mb rb ib M r A' A v sv xs ys T W) : (lastE ⟨#[]⟩ (A' i)).size ≤ 64 := by
  have := (h.ma i hi).last
  rw [pushes_lastE] at this
  exact this
end
end Qw
end Go.Proofs.YtjnmklbhhlfhcaaGreatDoor
