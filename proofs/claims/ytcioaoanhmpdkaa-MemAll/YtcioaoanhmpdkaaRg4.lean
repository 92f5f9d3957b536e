import Derived.Test.YtcioaoanhmpdkaaRg2
import Derived.Deep.DeepCutAuto
namespace Go.Proofs.Ytcioaoanhmpdkaa
namespace Sk
open Go.RowKit Laws Irw Erw KMath Skm Byt
set_option linter.unusedVariables false
set_option maxRecDepth 100000
set_option linter.unusedSimpArgs false

/-- what stands while the document's Put goes on -/
structure Rp (w W : World) (R B : Nat) (x : En) (v0 v1 v2 : Value) (n : Int) : Prop where
  keep : Keep [R] w W
  c0 : W.cell? ⟨R, 0, none⟩ = some v0
  c1 : W.cell? ⟨R, 1, none⟩ = some v1
  c2 : W.cell? ⟨R, 2, none⟩ = some v2
  c3 : W.cell? ⟨R, 3, none⟩ = some (.int .i64 n)
  fro : ∀ j, W.frozen? ⟨R, j, none⟩ = false
  lt : R < w.heap.size
  box : entAt W B x
  bge : w.heap.size ≤ B
  blt : B < W.heap.size
theorem Rp.below {w W W' : World} {R B : Nat} {x : En} {v0 v1 v2 : Value} {n : Int} (h : Rp w W R B x v0 v1 v2 n) (hb : Below W.heap.size W W') : Rp w W' R B x v0 v1 v2 n := by
  have hl : R < W.heap.size := Nat.lt_of_lt_of_le h.lt h.keep.size
  have hc : ∀ j, W'.cell? ⟨R, j, none⟩ = W.cell? ⟨R, j, none⟩ := fun j => hb.cell (p := ⟨R, j, none⟩) hl
  exact ⟨h.keep.trans (Keep.below hb), by rw [hc]; exact h.c0, by rw [hc]; exact h.c1, by rw [hc]; exact h.c2, by rw [hc]; exact h.c3, fun j => by rw [← h.fro j]; exact World.frozen?_of_block (hb.block _ hl), h.lt, h.box.keep (hb.block _ h.blt), h.bge, Nat.lt_of_lt_of_le h.blt hb.size⟩
theorem Rp.ne {w W : World} {R B : Nat} {x : En} {v0 v1 v2 : Value} {n : Int} (h : Rp w W R B x v0 v1 v2 n) : B ≠ R := by have := h.lt; have := h.bge; omega
theorem Rp.set3 {w W : World} {R B : Nat} {x : En} {v0 v1 v2 : Value} {n : Int} (h : Rp w W R B x v0 v1 v2 n) (m : Int) : Rp w (W.setCell ⟨R, 3, none⟩ (.int .i64 m)) R B x v0 v1 v2 m :=
  ⟨h.keep.trans (Keep.set _ _ _ _), by rw [World.cell?_setCell_other _ _ _ _ (by simp)]; exact h.c0, by rw [World.cell?_setCell_other _ _ _ _ (by simp)]; exact h.c1, by rw [World.cell?_setCell_other _ _ _ _ (by simp)]; exact h.c2, World.cell?_setCell_same _ _ _ h.c3, fun j => by simp [h.fro j], h.lt, h.box.keep (Below.heap_setCell _ _ _ _ (by simp [h.ne])), h.bge, by simpa using h.blt⟩
theorem Rp.set0 {w W : World} {R B : Nat} {x : En} {v0 v1 v2 : Value} {n : Int} (h : Rp w W R B x v0 v1 v2 n) (u : Value) : Rp w (W.setCell ⟨R, 0, none⟩ u) R B x u v1 v2 n :=
  ⟨h.keep.trans (Keep.set _ _ _ _), World.cell?_setCell_same _ _ _ h.c0, by rw [World.cell?_setCell_other _ _ _ _ (by simp)]; exact h.c1, by rw [World.cell?_setCell_other _ _ _ _ (by simp)]; exact h.c2, by rw [World.cell?_setCell_other _ _ _ _ (by simp)]; exact h.c3, fun j => by simp [h.fro j], h.lt, h.box.keep (Below.heap_setCell _ _ _ _ (by simp [h.ne])), h.bge, by simpa using h.blt⟩
theorem Rp.set1 {w W : World} {R B : Nat} {x : En} {v0 v1 v2 : Value} {n : Int} (h : Rp w W R B x v0 v1 v2 n) (u : Value) : Rp w (W.setCell ⟨R, 1, none⟩ u) R B x v0 u v2 n :=
  ⟨h.keep.trans (Keep.set _ _ _ _), by rw [World.cell?_setCell_other _ _ _ _ (by simp)]; exact h.c0, World.cell?_setCell_same _ _ _ h.c1, by rw [World.cell?_setCell_other _ _ _ _ (by simp)]; exact h.c2, by rw [World.cell?_setCell_other _ _ _ _ (by simp)]; exact h.c3, fun j => by simp [h.fro j], h.lt, h.box.keep (Below.heap_setCell _ _ _ _ (by simp [h.ne])), h.bge, by simpa using h.blt⟩
theorem ownE_out {W3 W : World} {T : Nat → Nat} {a : Option Addr} {n c : Nat} {l : List En} (h : OwnE 9 T W (.slice a n c) l) (ho : Old W3 T W) (hl : 0 < l.length) : ∃ g, a = some ⟨g, 0, none⟩ ∧ W3.heap.size ≤ g ∧ ERow W g 0 l ∧ n = l.length ∧ l.length ≤ c := by
  obtain ⟨g, rfl⟩ := h.blk hl
  obtain ⟨h1, h2, h3, h4⟩ := h.isE
  obtain ⟨b, off, e, hr⟩ := h1.at_ hl
  simp only [Option.some.injEq, Addr.mk.injEq] at e
  obtain ⟨rfl, rfl, _⟩ := e
  refine ⟨g, rfl, ?_, hr, h2, by omega⟩
  rcases Nat.lt_or_ge g W3.heap.size with hg | hg
  · have h5 := ho.zero g (.inl hg)
    have h6 := h.2 g rfl
    omega
  · exact hg
theorem ownL_blk {t : Nat} {T : Nat → Nat} {w : World} {a : Option Addr} {n c : Nat} {l : List Int} (h : OwnL t T w (.slice a n c) l) (h0 : 0 < l.length) : ∃ g, a = Option.some ⟨g, 0, none⟩ := by
  rcases h.1.2 with ⟨h1, h2⟩ | ⟨g, cap, cur, hv, _⟩
  · omega
  · simp only [Value.slice.injEq] at hv
    exact ⟨g, hv.1⟩
theorem ownL_out {W3 W : World} {T : Nat → Nat} {a : Option Addr} {n c : Nat} {l : List Int} (h : OwnL 9 T W (.slice a n c) l) (ho : Old W3 T W) (hl : 0 < l.length) : ∃ g, a = some ⟨g, 0, none⟩ ∧ W3.heap.size ≤ g ∧ IRow W g 0 l ∧ n = l.length ∧ l.length ≤ c := by
  obtain ⟨h1, h2, h3, h4⟩ := h.isI
  obtain ⟨b, off, rfl, hr⟩ := h1.at_ hl
  obtain ⟨g, hg⟩ : ∃ g, (some ⟨b, off, none⟩ : Option Addr) = some ⟨g, 0, none⟩ := ownL_blk h hl
  simp only [Option.some.injEq, Addr.mk.injEq] at hg
  obtain ⟨rfl, rfl, _⟩ := hg
  refine ⟨b, rfl, ?_, hr, h2, by omega⟩
  rcases Nat.lt_or_ge b W3.heap.size with hg | hg
  · have h5 := ho.zero b (.inl hg)
    have h6 := h.2 b rfl
    omega
  · exact hg
theorem old_zero (w : World) : Old w (fun _ => 0) w := ⟨Below.refl _ _, fun _ _ => rfl⟩

/-- one more in the document's list -/
def insP {α : Type} (l : List α) (M : Nat) (x : α) : List α := l.take M ++ [x] ++ l.drop M
theorem insP_len {α : Type} {l : List α} {M : Nat} {x : α} (h : M ≤ l.length) : (insP l M x).length = l.length + 1 := by
  unfold insP
  simp
  omega
def Dup (es : List En) (x : En) : Prop := plc x.1 x.2.1 es < es.length ∧ (es.getD (plc x.1 x.2.1 es) ez).1 = x.1 ∧ (es.getD (plc x.1 x.2.1 es) ez).2.1 = x.2.1
/-- what the document's Put leaves -/
def RPutAns (w : World) (R : Nat) (ds : List Nat) (es : List En) (hs : List Int) (bs : List Nat) (x : En) (ok : Bool) (w' : World) : Prop :=
  ∃ es' hs' bs', Rl w' R ds es' hs' bs' ∧ Keep [R] w w' ∧ (∀ b ∈ bs', b ∈ bs ∨ w.heap.size ≤ b) ∧ ((ok = false ∧ Dup es x ∧ es' = es ∧ hs' = hs) ∨ (ok = true ∧ ¬ Dup es x ∧ es' = insP es (plc x.1 x.2.1 es) x ∧ hs' = insP hs (plc x.1 x.2.1 es) (hgt ds es.length : Int)))
theorem Rp.done {w W : World} {R B : Nat} {x : En} {ds : List Nat} {es' : List En} {hs' : List Int} {g6 c6 g10 c10 : Nat} {a3 : Option Addr} {c3 : Nat} {bs : List Nat} (h : Rp w W R B x (.slice (some ⟨g6, 0, none⟩) es'.length c6) (.slice (some ⟨g10, 0, none⟩) hs'.length c10) (.slice a3 ds.length c3) (es'.length : Int))
    (h6 : ERow W g6 0 es') (l6 : es'.length ≤ c6) (h10 : IRow W g10 0 hs') (l10 : hs'.length ≤ c10) (h3 : IsB W a3 ds) (hm3 : ∀ ad, a3 = some ad → ad.block ∈ bs) (hlen : hs'.length = es'.length) (hpos : 0 < es'.length) (k6 : w.heap.size ≤ g6) (k10 : w.heap.size ≤ g10) (hbs : ∀ b ∈ bs, b < w.heap.size ∧ b ≠ R) : Rl W R ds es' hs' (g6 :: g10 :: bs) := by
  have hR := h.lt
  have hsz := h.keep.size
  refine ⟨by omega, ⟨some ⟨g6, 0, none⟩, c6, h.c0, IsE.of h6, l6, fun e => (by cases e), fun e => (by rw [e] at hpos; simp at hpos), fun ad e => ⟨g6, by simp, by cases e; rfl⟩⟩, ⟨some ⟨g10, 0, none⟩, c10, h.c1, IsI.of h10, l10, fun e => (by cases e), fun e => (by rw [e] at hlen; simp at hlen; omega), fun ad e => ⟨g10, by simp, by cases e; rfl⟩⟩, ⟨a3, c3, h.c2, h3, fun ad e => by simp [hm3 ad e]⟩, h.c3, h.fro, hlen, fun b hb => ?_⟩
  simp only [List.mem_cons] at hb
  rcases hb with rfl | rfl | hb
  · exact ⟨h6.1, by omega⟩
  · exact ⟨h10.1, by omega⟩
  · have := hbs b hb
    exact ⟨by omega, this.2⟩
end Sk
end Go.Proofs.Ytcioaoanhmpdkaa
namespace Go.Proofs.Ytcioaoanhmpdkaa
namespace Sk
open Go.RowKit Laws Irw Erw KMath Skm Byt
set_option linter.unusedVariables false
set_option maxRecDepth 100000
set_option linter.unusedSimpArgs false

theorem isI_new5 {w : World} {y : Int} {u : TypeId} : IsI (w.alloc (.cells #[.int .i64 y] u)) (some ⟨w.heap.size, 0, none⟩) [y] := by
  refine IsI.of ⟨by simp, fun i z hz => ?_⟩
  cases i with
  | zero => simp at hz; subst hz; rw [World.cell?_alloc_at _ _ _ _ rfl]; rfl
  | succ i => simp at hz
theorem HID {p : Prop} (h : p) : Hid p := h
set_option maxHeartbeats 8000000 in
theorem refPut_any (w : World) (R : Nat) (ds : List Nat) (es : List En) (hs : List Int) (bs : List Nat) (x : En) (h : Rl w R ds es hs bs) (hl : es.length + 1 ≤ 2932031007402) (hd47 : ds.length ≤ 140737488355328) :
    Calls Try.prog 93 #[.pointer (some ⟨R, 0, none⟩), .agg #[.string x.1, .int .u64 x.2.1, .bool x.2.2.1, .string x.2.2.2]] w fun r w' => ∃ ok, r = .returned (.bool ok) ∧ RPutAns w R ds es hs bs x ok w' := by
  obtain ⟨xk, xs, xd, xv⟩ := x
  dsimp only
  obtain ⟨i0, hi0, hz0, hz1, hz2⟩ := info_parts infoE
  obtain ⟨i1, hi1, hy0, hy1, hy2⟩ := info_parts infoI5
  have HR : Hid (Rl w R ds es hs bs) := h
  obtain ⟨a, c, e1, e2, e3, e4, e6, e5⟩ := h.ent
  obtain ⟨a2, c2, f1, f2, f3, f4, f6, f5⟩ := h.hig
  obtain ⟨a3, c3, g1, g2, g3⟩ := h.dra
  have hpl := plc_le xk xs es
  have hlen := h.len
  obtain ⟨N, hN⟩ : ∃ N, es.length = N := ⟨_, rfl⟩
  obtain ⟨M, hM⟩ : ∃ M, plc xk xs es = M := ⟨_, rfl⟩
  obtain ⟨ND, hND⟩ : ∃ ND, ds.length = ND := ⟨_, rfl⟩
  rw [hN] at hlen
  have HKB : Hid (∀ b ∈ bs, b ∉ [R]) := fun b hb => by simp [(h.low b hb).2]
  have HE : Hid (∀ W, Keep [R] w W → IsE W a es) := fun W hk hne => by
    obtain ⟨b, off, rfl, hr⟩ := e2 hne
    obtain ⟨g, hg, eg⟩ := e5 _ rfl
    simp only [Addr.mk.injEq] at eg
    exact ⟨b, off, rfl, hr.keep (hk.block b hr.1 (by rw [eg.1]; exact HKB.out g hg)) hk.size⟩
  have HH : Hid (∀ W, Keep [R] w W → IsI W a2 hs) := fun W hk hne => by
    obtain ⟨b, off, rfl, hr⟩ := f2 hne
    obtain ⟨g, hg, eg⟩ := f5 _ rfl
    simp only [Addr.mk.injEq] at eg
    exact ⟨b, off, rfl, hr.keep (hk.block b hr.1 (by rw [eg.1]; exact HKB.out g hg)) hk.size⟩
  have HD : Hid (∀ W, Keep [R] w W → IsB W a3 ds) := fun W hk => ⟨fun hne => by
    obtain ⟨b, off, rfl, hr⟩ := g2.1 hne
    exact ⟨b, off, rfl, hr.keep (hk.block b hr.1 (HKB.out b (g3 _ rfl))) hk.size⟩, g2.2⟩
  have hb1 : Below w.heap.size w (w.alloc (.cells #[.string xk, .int .u64 xs, .bool xd, .string xv] 77)) := (Below.refl _ _).alloc (Nat.le_refl _) _
  have q1 : (w.alloc (.cells #[.string xk, .int .u64 xs, .bool xd, .string xv] 77)).heap[w.heap.size]? = some (.cells #[.string xk, .int .u64 xs, .bool xd, .string xv] 77) := World.alloc_heap_new _ _
  have HRP : Hid (Rp w (w.alloc (.cells #[.string xk, .int .u64 xs, .bool xd, .string xv] 77)) R w.heap.size (xk, xs, xd, xv) (.slice a N c) (.slice a2 N c2) (.slice a3 ND c3) (N : Int)) := by
    have hlR : (⟨R, 0, none⟩ : Addr).block < w.heap.size := h.lt
    refine ⟨Keep.below hb1, ?_, ?_, ?_, ?_, fun j => ?_, h.lt, ⟨by rw [cell_of_obj q1]; rfl, by rw [cell_of_obj q1]; rfl, by rw [cell_of_obj q1]; rfl, by rw [cell_of_obj q1]; rfl⟩, Nat.le_refl _, (Array.getElem?_eq_some_iff.1 q1).1⟩
    · rw [hb1.cell (p := ⟨R, 0, none⟩) h.lt, e1, hN]
    · rw [hb1.cell (p := ⟨R, 1, none⟩) h.lt, f1, hlen]
    · rw [hb1.cell (p := ⟨R, 2, none⟩) h.lt, g1, hND]
    · rw [hb1.cell (p := ⟨R, 3, none⟩) h.lt, h.use, hN]
    · rw [← h.fro j]; exact World.frozen?_of_block (hb1.block _ h.lt)
  have HLEN : Hid (es.length = N ∧ hs.length = N ∧ plc xk xs es = M ∧ ds.length = ND) := ⟨hN, hlen, hM, hND⟩
  have HA : Hid ((es = [] → a = none) ∧ (a = none → c = 0) ∧ (∀ ad, a = some ad → ∃ g ∈ bs, ad = ⟨g, 0, none⟩) ∧ (hs = [] → a2 = none) ∧ (a2 = none → c2 = 0) ∧ (∀ ad, a2 = some ad → ∃ g ∈ bs, ad = ⟨g, 0, none⟩) ∧ (∀ ad, a3 = some ad → ad.block ∈ bs)) := ⟨e6, e4, e5, f6, f4, f5, g3⟩
  rw [hN, hM] at hpl
  rw [hN] at e3 hl
  rw [hlen] at f3
  rw [hND] at hd47
  have HB1 : Hid (Below w.heap.size w (w.alloc (.cells #[.string xk, .int .u64 xs, .bool xd, .string xv] 77))) := hb1
  clear h e1 e2 e4 e5 e6 f1 f2 f4 f5 f6 g1 g2 g3 hN hM hlen hND q1 hb1
  go_enter Try.func93, Try.ntmps93
  obtain ⟨r0, r1, r2, r3⟩ := HRP.out.box
  dsimp only at r0 r1 r2 r3
  go_wp2_with fail
  generalize w.alloc (.cells #[.string xk, .int .u64 xs, .bool xd, .string xv] 77) = W1 at *
  refine (place_any W1 R ds es hs bs (HR.out.below HB1.out) (by rw [HLEN.out.1]; omega) xk xs).mono ?_
  rintro e w2 ⟨rfl, n2, hw2⟩
  have hb12 : Below W1.heap.size W1 w2 := by rw [hw2]; exact below_drewN (Below.refl _ _) _
  have HRP2 : Hid (Rp w w2 R w.heap.size (xk, xs, xd, xv) (.slice a N c) (.slice a2 N c2) (.slice a3 ND c3) (N : Int)) := HRP.out.below hb12
  have HB2 : Hid (Below w.heap.size w w2) := keepB hb12 HB1.out
  rw [HLEN.out.2.2.1]
  clear hw2 hb12 HRP HB1 r0 r1 r2 r3
  generalize hBE : w.heap.size = B at *
  have HBE : Hid (w.heap.size = B) := hBE
  clear hBE
  have y1 : (M : Int) ≤ (N : Int) := by omega
  have y2 : (N : Int) ≤ (c : Int) := by omega
  have y3 : (N : Int) ≤ (c2 : Int) := by omega
  have y4 : (N : Int) ≤ 2932031007401 := by omega
  have y5 : (ND : Int) ≤ 140737488355328 := by omega
  clear hd47 hl
  obtain ⟨r0, r1, r2, r3⟩ := HRP2.out.box
  obtain ⟨k0, k1, k2, k3⟩ : w2.cell? ⟨R, 0, none⟩ = some (.slice a N c) ∧ w2.cell? ⟨R, 1, none⟩ = some (.slice a2 N c2) ∧ w2.cell? ⟨R, 2, none⟩ = some (.slice a3 ND c3) ∧ w2.cell? ⟨R, 3, none⟩ = some (.int .i64 (N : Int)) := ⟨HRP2.out.c0, HRP2.out.c1, HRP2.out.c2, HRP2.out.c3⟩
  dsimp only at r0 r1 r2 r3
  by_cases hdup : Dup es (xk, xs, xd, xv)
  · have HDU : Hid (Dup es (xk, xs, xd, xv)) := hdup
    obtain ⟨d1, d2, d3⟩ := hdup
    dsimp only at d1 d2 d3
    rw [HLEN.out.2.2.1] at d1 d2 d3
    obtain ⟨b9, o9, rfl, _, x0, x1, x2, x3⟩ := SkipOrder.rd (HE.out w2 HRP2.out.keep) d1
    rw [d2] at x0
    rw [d3] at x1
    rw [HLEN.out.1] at d1
    have z1 : (M : Int) < (N : Int) := by omega
    clear d1 d2 d3 x2 x3
    go_wp2
    go_quiet (fail)
    go_wp2
    go_ret
    have hbf : Below w.heap.size w w2 := by rw [HBE.out]; exact HB2.out
    exact ⟨false, rfl, es, hs, bs, HR.out.below (below_drewN hbf _), Keep.below (below_drewN hbf _), fun b hb => .inl hb, .inl ⟨rfl, HDU.out, rfl, rfl⟩⟩
  · have HDU : Hid (¬ Dup es (xk, xs, xd, xv)) := hdup
    go_upto_region 2 with (fail)
    go_cut [47] (fun t w' => t = .bool false ∧ Hid (Below w2.heap.size w2 w'))
    case first =>
      by_cases hlt : M < N
      · have hml : M < es.length := by rw [HLEN.out.1]; exact hlt
        obtain ⟨b9, o9, rfl, _, x0, x1, x2, x3⟩ := SkipOrder.rd (HE.out w2 HRP2.out.keep) hml
        have z1 : (M : Int) < (N : Int) := by omega
        have hor : ((es.getD M ez).1.toList == xk.toList) = false ∨ ((es.getD M ez).1 = xk ∧ ((es.getD M ez).2.1 == xs) = false) := by
          by_cases h1 : (es.getD M ez).1 = xk
          · by_cases h2 : (es.getD M ez).2.1 = xs
            · exact absurd ⟨by show plc xk xs es < _; rw [HLEN.out.2.2.1]; exact hml, by show (es.getD (plc xk xs es) ez).1 = xk; rw [HLEN.out.2.2.1]; exact h1, by show (es.getD (plc xk xs es) ez).2.1 = xs; rw [HLEN.out.2.2.1]; exact h2⟩ hdup
            · exact .inr ⟨h1, by simpa using h2⟩
          · exact .inl (by rw [beq_eq_false_iff_ne]; exact fun e => h1 (toList_inj e))
        clear hdup hml x2 x3
        generalize es.getD M ez = y at *
        obtain ⟨yk, ys, yd, yv⟩ := y
        dsimp only at x0 x1 hor
        rcases hor with h1 | ⟨rfl, h1⟩
        · go_wp2
          go_quiet (fail)
          go_wp2
          go_meet
          case rel => exact ⟨rfl, below_drewN (Below.refl _ _) _⟩
        · go_wp2
          go_quiet (fail)
          go_wp2
          go_meet
          case rel => exact ⟨rfl, below_drewN (Below.refl _ _) _⟩
      · have z1 : decide ((M : Int) < (N : Int)) = false := decide_eq_false (by omega)
        clear hdup
        go_wp2
        go_quiet (fail)
        go_wp2
        go_meet
        case rel => exact ⟨rfl, below_drewN (Below.refl _ _) _⟩
    case rest =>
      obtain ⟨rfl, HBC⟩ := hcut
      clear hdup k0 k1 k2 k3 r0 r1 r2 r3
      have HRP3 : Hid (Rp w wc R B (xk, xs, xd, xv) (.slice a N c) (.slice a2 N c2) (.slice a3 ND c3) (N : Int)) := HRP2.out.below HBC.out
      clear HRP2 HBC HB2
      obtain ⟨k0, k1, k2, k3⟩ : wc.cell? ⟨R, 0, none⟩ = some (.slice a N c) ∧ wc.cell? ⟨R, 1, none⟩ = some (.slice a2 N c2) ∧ wc.cell? ⟨R, 2, none⟩ = some (.slice a3 ND c3) ∧ wc.cell? ⟨R, 3, none⟩ = some (.int .i64 (N : Int)) := ⟨HRP3.out.c0, HRP3.out.c1, HRP3.out.c2, HRP3.out.c3⟩
      rename World => w3
      go_upto_if 53 with (fail)
      go_cut [6] (fun t w' => t = .int .i64 (hgt ds N : Int) ∧ Hid (Below w3.heap.size w3 w'))
      case first =>
        by_cases h0 : ds = []
        · have HHT : Hid (hgt ds N = 1) := by show hgt ds N = 1; unfold hgt; rw [if_pos h0]
          have z0 : (ND : Int) = 0 := by have := HLEN.out.2.2.2; rw [h0] at this; rw [← this]; rfl
          clear h0
          go_wp2
          go_meet
          case rel => exact ⟨by rw [HHT.out]; rfl, Below.refl _ _⟩
        · obtain ⟨b, off, rfl, hr⟩ := (HD.out w3 HRP3.out.keep).1 h0
          have hp : 0 < ds.length := List.length_pos_iff.2 h0
          have hm := Nat.mod_lt N hp
          have c0 : w3.cell? ⟨b, off + N % ds.length, none⟩ = some (.int .u8 ((ds.getD (N % ds.length) 0 : Nat) : Int)) := hr.2 _ _ (by simp [hm])
          have hb : ds.getD (N % ds.length) 0 < 256 := by
            have : ds.getD (N % ds.length) 0 ∈ ds := by simp [hm]
            exact (HD.out w3 HRP3.out.keep).2 _ this
          have HHT : Hid (hgt ds N = 1 + ds.getD (N % ds.length) 0 % 12) := by
            show hgt ds N = _
            unfold hgt; rw [if_neg h0]
          have hle := HLEN.out.2.2.2
          rw [hle] at c0 HHT hb hp
          have hm2 : N % ND < ND := Nat.mod_lt _ hp
          clear hm hle hr h0
          generalize ds.getD (N % ND) 0 = x at *
          have t1 : Int.tmod (N : Int) (ND : Int) = ((N % ND : Nat) : Int) := by rw [Int.tmod_eq_emod_of_nonneg (by omega)]; omega
          have t2 : Int.tmod (x : Int) 12 = ((x % 12 : Nat) : Int) := by rw [Int.tmod_eq_emod_of_nonneg (by omega)]; omega
          have t3 : (x : Int) % 12 = ((x % 12 : Nat) : Int) := by omega
          have q7 : ¬ ND = 0 := by omega
          have q9 : x % 12 < 12 := Nat.mod_lt _ (by omega)
          generalize x % 12 = y at *
          generalize N % ND = z at *
          have v3 : (z : Int) < (ND : Int) := by omega
          have v4 : (x : Int) < 256 := by omega
          have v8 : (y : Int) < 12 := by omega
          have v9 : (0 : Int) < (ND : Int) := by omega
          clear hm2 hp
          go_wp2
          go_quiet (fail)
          go_wp2
          go_meet
          case rel => exact ⟨by rw [HHT.out]; go_num, below_drewN (Below.refl _ _) _⟩
      case rest =>
        obtain ⟨rfl, HBC⟩ := hcut
        have HRP4 : Hid (Rp w wc R B (xk, xs, xd, xv) (.slice a N c) (.slice a2 N c2) (.slice a3 ND c3) (N : Int)) := HRP3.out.below HBC.out
        clear HRP3 HBC k0 k1 k2 k3
        rename World => w4
        obtain ⟨k0, k1, k2, k3⟩ : w4.cell? ⟨R, 0, none⟩ = some (.slice a N c) ∧ w4.cell? ⟨R, 1, none⟩ = some (.slice a2 N c2) ∧ w4.cell? ⟨R, 2, none⟩ = some (.slice a3 ND c3) ∧ w4.cell? ⟨R, 3, none⟩ = some (.int .i64 (N : Int)) := ⟨HRP4.out.c0, HRP4.out.c1, HRP4.out.c2, HRP4.out.c3⟩
        have fz := HRP4.out.fro
        have HRP5 : Hid (Rp w (w4.setCell ⟨R, 3, none⟩ (.int .i64 ((N : Int) + 1))) R B (xk, xs, xd, xv) (.slice a N c) (.slice a2 N c2) (.slice a3 ND c3) ((N : Int) + 1)) := HRP4.out.set3 _
        go_upto_region 9 with (fail)
        generalize w4.setCell ⟨R, 3, none⟩ (.int .i64 ((N : Int) + 1)) = W5 at *
        clear HRP4 k0 k1 k2 k3 fz
        have k0 := HRP5.out.c0
        by_cases hes : es = []
        · have hhs : hs = [] := by
            have h1 := HLEN.out.1
            rw [hes] at h1
            have h2 := HLEN.out.2.1
            rw [← h1] at h2
            exact List.length_eq_zero_iff.1 h2
          obtain rfl : a = none := HA.out.1 hes
          obtain rfl : c = 0 := HA.out.2.1 rfl
          obtain rfl : a2 = none := HA.out.2.2.2.1 hhs
          obtain rfl : c2 = 0 := HA.out.2.2.2.2.1 rfl
          obtain rfl : N = 0 := by omega
          obtain rfl : M = 0 := by omega
          have HX1 : Hid (∀ W, IsE W none (es.drop 0)) := fun W => by rw [hes]; exact IsE.nil _ _
          have HX2 : Hid (∀ W, IsI W none (hs.drop 0)) := fun W => by rw [hhs]; exact IsI.nil _ _
          
          have HLE : Hid (0 = (es.take 0).length ∧ 0 + (es.take 0).length ≤ 2932031007402 ∧ 0 + 1 ≤ 2932031007402 ∧ 0 = (es.drop 0).length ∧ 0 + 1 + (es.drop 0).length ≤ 2932031007402 ∧ 0 + 1 + (es.drop 0).length = 0 + 1) := by
            have h1 := HLEN.out.1
            refine ⟨?_, ?_, ?_, ?_, ?_, ?_⟩ <;> (try simp only [List.length_take, List.length_drop, h1]) <;> omega
          have HLI : Hid (0 = (hs.take 0).length ∧ 0 + (hs.take 0).length ≤ 2932031007402 ∧ 0 + 1 ≤ 2932031007402 ∧ 0 = (hs.drop 0).length ∧ 0 + 1 + (hs.drop 0).length ≤ 2932031007402 ∧ 0 + 1 + (hs.drop 0).length = 0 + 1) := by
            have h1 := HLEN.out.2.1
            refine ⟨?_, ?_, ?_, ?_, ?_, ?_⟩ <;> (try simp only [List.length_take, List.length_drop, h1]) <;> omega
          clear hes hhs
          go_upto_region 10 with (at_builtin; go_loud (refine wpList_appE W5 (by rfl) (.tmp 80) (.tmp 86) 80 (by rfl) i0 undE5 hi0 hz0 hz1 hz2 9 (fun _ => 0) (.slice none 0 0) [] (by rfl) (OwnE.empty _ _ _) none 0 0 (es.take 0) (by rfl) HLE.out.1 (fun _ => rfl) (IsE.take (HE.out _ HRP5.out.keep) _) HLE.out.2.1 ?_; intro a7 c7 T7 w7 hown7 hgo7 hat7; have HRP7 := HID (HRP5.out.below (zeroT_below (by omega) hgo7)); have HOL7 := HID ((old_zero W5).goes hgo7 (by omega)); rw [List.nil_append, List.length_nil, Nat.zero_add, ← HLE.out.1] at hown7; rw [List.length_nil, Nat.zero_add, ← HLE.out.1]; have HO7 := HID hown7; clear hown7 hgo7 hat7))
          clear k0
          obtain ⟨r0, r1, r2, r3⟩ := HRP7.out.box
          dsimp only at r0 r1 r2 r3
          have HBA : Hid (Below w7.heap.size w7 (w7.alloc (.cells #[.string xk, .int .u64 xs, .bool xd, .string xv] 77))) := (Below.refl _ _).alloc (Nat.le_refl _) _
          go_upto_region 11 with (at_builtin; go_loud (refine wpList_appE _ (by rfl) (.tmp 88) (.tmp 90) 80 (by rfl) i0 undE5 hi0 hz0 hz1 hz2 9 T7 (.slice a7 0 c7) (es.take 0) (by rfl) (HO7.out.below HBA.out) (some ⟨w7.heap.size, 0, none⟩) 1 1 [(xk, xs, xd, xv)] (by rfl) (by rfl) (by simp) isE_new5 (by rw [← HLE.out.1]; exact HLE.out.2.2.1) ?_; intro a8 c8 T8 w8 hown8 hgo8 hat8; have HOL8 := HID ((HOL7.out.goes (Goes.below (t := fun _ => False) HBA.out) (fun z => z)).goes hgo8 (by omega)); have HRP8 := HID (HRP5.out.below HOL8.out.below); rw [← HLE.out.1] at hown8; rw [← HLE.out.1]; have HO8 := HID hown8; clear hown8 hgo8 hat8))
          clear HRP7 HOL7 HO7 HBA r0 r1 r2 r3
          have k0 := HRP8.out.c0
          have fz := HRP8.out.fro
          go_upto_region 12 with (at_builtin; go_loud (refine wpList_appE w8 (by rfl) (.tmp 93) (.tmp 99) 80 (by rfl) i0 undE5 hi0 hz0 hz1 hz2 9 T8 (.slice a8 (0 + 1) c8) (es.take 0 ++ [(xk, xs, xd, xv)]) (by rfl) HO8.out none 0 0 (es.drop 0) (by rfl) HLE.out.2.2.2.1 (fun _ => rfl) (HX1.out _) (by rw [List.length_append, ← HLE.out.1]; exact HLE.out.2.2.2.2.1) ?_; intro a9 c9 T9 w9 hown9 hgo9 hat9; have HOL9 := HID (HOL8.out.goes hgo9 (by omega)); have HRP9 := HID (HRP5.out.below HOL9.out.below); have HL9 : (es.take 0 ++ [(xk, xs, xd, xv)]).length + (es.drop 0).length = 0 + 1 := (by rw [List.length_append, ← HLE.out.1]; exact HLE.out.2.2.2.2.2); rw [HL9] at hown9; rw [HL9]; have HO9 := HID hown9; have k9 := HRP9.out.c0; have fz9 := HRP9.out.fro; clear hown9 hgo9 hat9 HL9))
          obtain ⟨g6, rfl, hg6, hr6, hl6, hc6⟩ := ownE_out HO9.out HOL9.out (by simp only [List.length_append, List.length_cons]; omega)
          have HRP10 : Hid _ := HRP9.out.set0 (.slice (some ⟨g6, 0, none⟩) (0 + 1) c9)
          have HG6 : Hid (ERow (w9.setCell ⟨R, 0, none⟩ (.slice (some ⟨g6, 0, none⟩) (0 + 1) c9)) g6 0 (insP es 0 (xk, xs, xd, xv)) ∧ 0 + 1 = (insP es 0 (xk, xs, xd, xv)).length ∧ 0 + 1 ≤ c9 ∧ w.heap.size ≤ g6) := by
            have hge : w.heap.size ≤ g6 := Nat.le_trans HRP5.out.keep.size hg6
            refine ⟨hr6.keep (Below.heap_setCell _ _ _ _ (by have := HRP5.out.lt; simp; omega)) (by simp), hl6, by rw [hl6]; exact hc6, hge⟩
          clear HRP8 HOL8 HO8 HRP9 HOL9 HO9 k0 k9 fz fz9 hg6 hr6 hl6 hc6 HRP5
          generalize w9.setCell ⟨R, 0, none⟩ (.slice (some ⟨g6, 0, none⟩) (0 + 1) c9) = W10 at *
          have k1 := HRP10.out.c1
          go_upto_region 14 with (at_builtin; go_loud (refine wpList_appL2 W10 (by rfl) (.tmp 103) (.tmp 109) 27 (by rfl) i1 undI5 hi1 hy0 hy1 hy2 9 (fun _ => 0) (.slice none 0 0) [] (by rfl) (OwnL.nil _ _ _) none 0 0 (hs.take 0) (by rfl) HLI.out.1 (fun _ => rfl) ((HH.out _ HRP10.out.keep).take _) HLI.out.2.1 ?_; intro a7 c7 T7 w7 hown7 hgo7 hat7; have HRP7 := HID (HRP10.out.below (zeroT_below (by omega) hgo7)); have HOL7 := HID ((old_zero W10).goes hgo7 (by omega)); rw [List.nil_append, List.length_nil, Nat.zero_add, ← HLI.out.1] at hown7; rw [List.length_nil, Nat.zero_add, ← HLI.out.1]; have HO7 := HID hown7; clear hown7 hgo7 hat7))
          clear k1
          generalize hHG : (hgt ds 0 : Int) = hg at *
          have HHG : Hid ((hgt ds 0 : Int) = hg) := hHG
          clear hHG
          have HBA : Hid (Below w7.heap.size w7 (w7.alloc (.cells #[.int .i64 hg] 3))) := (Below.refl _ _).alloc (Nat.le_refl _) _
          go_upto_region 15 with (at_builtin; go_loud (refine wpList_appL2 _ (by rfl) (.tmp 111) (.tmp 113) 27 (by rfl) i1 undI5 hi1 hy0 hy1 hy2 9 T7 (.slice a7 0 c7) (hs.take 0) (by rfl) (HO7.out.below HBA.out) (some ⟨w7.heap.size, 0, none⟩) 1 1 [hg] (by rfl) (by rfl) (by simp) isI_new5 (by rw [← HLI.out.1]; exact HLI.out.2.2.1) ?_; intro a8 c8 T8 w8 hown8 hgo8 hat8; have HOL8 := HID ((HOL7.out.goes (Goes.below (t := fun _ => False) HBA.out) (fun z => z)).goes hgo8 (by omega)); have HRP8 := HID (HRP10.out.below HOL8.out.below); rw [← HLI.out.1] at hown8; rw [← HLI.out.1]; have HO8 := HID hown8; clear hown8 hgo8 hat8))
          clear HRP7 HOL7 HO7 HBA
          have k1 := HRP8.out.c1
          have fz := HRP8.out.fro
          go_upto_region 16 with (at_builtin; go_loud (refine wpList_appL2 w8 (by rfl) (.tmp 116) (.tmp 122) 27 (by rfl) i1 undI5 hi1 hy0 hy1 hy2 9 T8 (.slice a8 (0 + 1) c8) (hs.take 0 ++ [hg]) (by rfl) HO8.out none 0 0 (hs.drop 0) (by rfl) HLI.out.2.2.2.1 (fun _ => rfl) (HX2.out _) (by rw [List.length_append, ← HLI.out.1]; exact HLI.out.2.2.2.2.1) ?_; intro a9 cA T9 wA hown9 hgo9 hat9; have HOL9 := HID (HOL8.out.goes hgo9 (by omega)); have HRP9 := HID (HRP10.out.below HOL9.out.below); have HL9 : (hs.take 0 ++ [hg]).length + (hs.drop 0).length = 0 + 1 := (by rw [List.length_append, ← HLI.out.1]; exact HLI.out.2.2.2.2.2); rw [HL9] at hown9; rw [HL9]; have HO9 := HID hown9; have k9 := HRP9.out.c1; have fz9 := HRP9.out.fro; clear hown9 hgo9 hat9 HL9))
          obtain ⟨gA, rfl, hgA, hrA, hlA, hcA⟩ := ownL_out HO9.out HOL9.out (by simp only [List.length_append, List.length_cons]; omega)
          have HRP11 : Hid _ := HRP9.out.set1 (.slice (some ⟨gA, 0, none⟩) (0 + 1) cA)
          have HBW : Hid (Below W10.heap.size W10 wA) := HOL9.out.below
          have HGA : Hid (IRow (wA.setCell ⟨R, 1, none⟩ (.slice (some ⟨gA, 0, none⟩) (0 + 1) cA)) gA 0 (insP hs 0 hg) ∧ 0 + 1 = (insP hs 0 hg).length ∧ 0 + 1 ≤ cA ∧ w.heap.size ≤ gA) := by
            have hge : w.heap.size ≤ gA := Nat.le_trans HRP10.out.keep.size hgA
            refine ⟨hrA.keep (Below.heap_setCell _ _ _ _ (by have := HRP10.out.lt; simp; omega)) (by simp), hlA, by rw [hlA]; exact hcA, hge⟩
          have HG6' : Hid (ERow (wA.setCell ⟨R, 1, none⟩ (.slice (some ⟨gA, 0, none⟩) (0 + 1) cA)) g6 0 (insP es 0 (xk, xs, xd, xv))) := (HG6.out.1.below HBW.out HG6.out.1.1).keep (Below.heap_setCell _ _ _ _ (by have := HRP10.out.lt; have := HG6.out.2.2.2; simp; omega)) (by simp)
          have HB3 : Hid (IsB (wA.setCell ⟨R, 1, none⟩ (.slice (some ⟨gA, 0, none⟩) (0 + 1) cA)) a3 ds) := HD.out _ HRP11.out.keep
          clear HRP8 HOL8 HO8 HRP9 HOL9 HO9 k1 k9 fz fz9 hgA hrA hlA hcA HBW
          generalize wA.setCell ⟨R, 1, none⟩ (.slice (some ⟨gA, 0, none⟩) (0 + 1) cA) = W14 at *
          have HANS : RPutAns w R ds es hs bs (xk, xs, xd, xv) true W14 := by
            refine ⟨insP es 0 (xk, xs, xd, xv), insP hs 0 hg, g6 :: gA :: bs, ?_, HRP11.out.keep, fun b hb => ?_, .inr ⟨rfl, HDU.out, ?_, ?_⟩⟩
            · refine Rp.done (w := w) (B := B) (x := (xk, xs, xd, xv)) (c6 := c9) (c10 := cA) (a3 := a3) (c3 := c3) ?_ HG6'.out (by rw [← HG6.out.2.1]; exact HG6.out.2.2.1) HGA.out.1 (by rw [← HGA.out.2.1]; exact HGA.out.2.2.1) HB3.out HA.out.2.2.2.2.2.2 (by rw [← HGA.out.2.1, ← HG6.out.2.1]) (by rw [← HG6.out.2.1]; omega) HG6.out.2.2.2 HGA.out.2.2.2 HR.out.low
              have hf := HRP11.out
              rw [← HG6.out.2.1, ← HGA.out.2.1, HLEN.out.2.2.2]
              exact hf
            · simp only [List.mem_cons] at hb
              rcases hb with rfl | rfl | hb
              · exact .inr HG6.out.2.2.2
              · exact .inr HGA.out.2.2.2
              · exact .inl hb
            · show insP es 0 (xk, xs, xd, xv) = insP es (plc xk xs es) (xk, xs, xd, xv)
              rw [HLEN.out.2.2.1]
            · show insP hs 0 hg = insP hs (plc xk xs es) (hgt ds es.length : Int)
              rw [HLEN.out.2.2.1, HLEN.out.1, HHG.out]
          have HAN := HID HANS
          clear HANS
          go_wp2
          go_ret
          first | exact ⟨true, rfl, HAN.out⟩ | exact .inr ⟨rfl, HAN.out⟩
        · obtain ⟨g, hgb, rfl⟩ : ∃ g, g ∈ bs ∧ a = some ⟨g, 0, none⟩ := by
            cases a with
            | none => exact absurd (HE.out w (Keep.refl _ _)).none hes
            | some ad =>
              obtain ⟨g, hg, rfl⟩ := HA.out.2.2.1 ad rfl
              exact ⟨g, hg, rfl⟩
          have hhs : hs ≠ [] := by
            intro e
            have h1 := HLEN.out.2.1
            rw [e] at h1
            have h2 := HLEN.out.1
            rw [← h1] at h2
            exact hes (List.length_eq_zero_iff.1 h2)
          obtain ⟨g2, hgb2, rfl⟩ : ∃ g, g ∈ bs ∧ a2 = some ⟨g, 0, none⟩ := by
            cases a2 with
            | none => exact absurd (HH.out w (Keep.refl _ _)).none hhs
            | some ad =>
              obtain ⟨g, hg, rfl⟩ := HA.out.2.2.2.2.2.1 ad rfl
              exact ⟨g, hg, rfl⟩
          obtain ⟨zz, hzz⟩ : ∃ zz, (if c = M then (some ⟨g, 0, none⟩ : Option Addr) else some ⟨g, M * 4, none⟩) = zz := ⟨_, rfl⟩
          obtain ⟨zz2, hzz2⟩ : ∃ zz, (if c2 = M then (some ⟨g2, 0, none⟩ : Option Addr) else some ⟨g2, M, none⟩) = zz := ⟨_, rfl⟩
          have HX1 : Hid (∀ W, Keep [R] w W → IsE W zz (es.drop M)) := fun W hk => by
            have := IsE.rest (M := M) (HE.out W hk) (c := c) (by rw [HLEN.out.1]; exact e3)
            rw [Nat.zero_add, hzz] at this
            exact this
          have HX2 : Hid (∀ W, Keep [R] w W → IsI W zz2 (hs.drop M)) := fun W hk => by
            have := IsI.rest (M := M) (HH.out W hk) (c := c2) (by rw [HLEN.out.2.1]; exact f3)
            rw [Nat.zero_add, hzz2] at this
            exact this
          have HZ : Hid ((zz = none → c - M = 0) ∧ (zz2 = none → c2 - M = 0)) := ⟨fun e => (by rw [e] at hzz; split at hzz <;> cases hzz), fun e => (by rw [e] at hzz2; split at hzz2 <;> cases hzz2)⟩
          clear hgb hgb2
          
          have HLE : Hid (M = (es.take M).length ∧ 0 + (es.take M).length ≤ 2932031007402 ∧ M + 1 ≤ 2932031007402 ∧ (N - M) = (es.drop M).length ∧ M + 1 + (es.drop M).length ≤ 2932031007402 ∧ M + 1 + (es.drop M).length = N + 1) := by
            have h1 := HLEN.out.1
            refine ⟨?_, ?_, ?_, ?_, ?_, ?_⟩ <;> (try simp only [List.length_take, List.length_drop, h1]) <;> omega
          have HLI : Hid (M = (hs.take M).length ∧ 0 + (hs.take M).length ≤ 2932031007402 ∧ M + 1 ≤ 2932031007402 ∧ (N - M) = (hs.drop M).length ∧ M + 1 + (hs.drop M).length ≤ 2932031007402 ∧ M + 1 + (hs.drop M).length = N + 1) := by
            have h1 := HLEN.out.2.1
            refine ⟨?_, ?_, ?_, ?_, ?_, ?_⟩ <;> (try simp only [List.length_take, List.length_drop, h1]) <;> omega
          clear hes hhs
          go_upto_region 10 with (at_builtin; go_loud (refine wpList_appE W5 (by rfl) (.tmp 80) (.tmp 86) 80 (by rfl) i0 undE5 hi0 hz0 hz1 hz2 9 (fun _ => 0) (.slice none 0 0) [] (by rfl) (OwnE.empty _ _ _) (some ⟨g, 0, none⟩) M c (es.take M) (by rfl) HLE.out.1 (fun e => by cases e) (IsE.take (HE.out _ HRP5.out.keep) _) HLE.out.2.1 ?_; intro a7 c7 T7 w7 hown7 hgo7 hat7; have HRP7 := HID (HRP5.out.below (zeroT_below (by omega) hgo7)); have HOL7 := HID ((old_zero W5).goes hgo7 (by omega)); rw [List.nil_append, List.length_nil, Nat.zero_add, ← HLE.out.1] at hown7; rw [List.length_nil, Nat.zero_add, ← HLE.out.1]; have HO7 := HID hown7; clear hown7 hgo7 hat7))
          clear k0
          obtain ⟨r0, r1, r2, r3⟩ := HRP7.out.box
          dsimp only at r0 r1 r2 r3
          have HBA : Hid (Below w7.heap.size w7 (w7.alloc (.cells #[.string xk, .int .u64 xs, .bool xd, .string xv] 77))) := (Below.refl _ _).alloc (Nat.le_refl _) _
          go_upto_region 11 with (at_builtin; go_loud (refine wpList_appE _ (by rfl) (.tmp 88) (.tmp 90) 80 (by rfl) i0 undE5 hi0 hz0 hz1 hz2 9 T7 (.slice a7 M c7) (es.take M) (by rfl) (HO7.out.below HBA.out) (some ⟨w7.heap.size, 0, none⟩) 1 1 [(xk, xs, xd, xv)] (by rfl) (by rfl) (by simp) isE_new5 (by rw [← HLE.out.1]; exact HLE.out.2.2.1) ?_; intro a8 c8 T8 w8 hown8 hgo8 hat8; have HOL8 := HID ((HOL7.out.goes (Goes.below (t := fun _ => False) HBA.out) (fun z => z)).goes hgo8 (by omega)); have HRP8 := HID (HRP5.out.below HOL8.out.below); rw [← HLE.out.1] at hown8; rw [← HLE.out.1]; have HO8 := HID hown8; clear hown8 hgo8 hat8))
          clear HRP7 HOL7 HO7 HBA r0 r1 r2 r3
          have k0 := HRP8.out.c0
          have fz := HRP8.out.fro
          go_upto_region 12 with (at_builtin; go_loud (refine wpList_appE w8 (by rfl) (.tmp 93) (.tmp 99) 80 (by rfl) i0 undE5 hi0 hz0 hz1 hz2 9 T8 (.slice a8 (M + 1) c8) (es.take M ++ [(xk, xs, xd, xv)]) (by rfl) HO8.out zz (N - M) (c - M) (es.drop M) (by rfl) HLE.out.2.2.2.1 HZ.out.1 (HX1.out _ HRP8.out.keep) (by rw [List.length_append, ← HLE.out.1]; exact HLE.out.2.2.2.2.1) ?_; intro a9 c9 T9 w9 hown9 hgo9 hat9; have HOL9 := HID (HOL8.out.goes hgo9 (by omega)); have HRP9 := HID (HRP5.out.below HOL9.out.below); have HL9 : (es.take M ++ [(xk, xs, xd, xv)]).length + (es.drop M).length = N + 1 := (by rw [List.length_append, ← HLE.out.1]; exact HLE.out.2.2.2.2.2); rw [HL9] at hown9; rw [HL9]; have HO9 := HID hown9; have k9 := HRP9.out.c0; have fz9 := HRP9.out.fro; clear hown9 hgo9 hat9 HL9))
          obtain ⟨g6, rfl, hg6, hr6, hl6, hc6⟩ := ownE_out HO9.out HOL9.out (by simp only [List.length_append, List.length_cons]; omega)
          have HRP10 : Hid _ := HRP9.out.set0 (.slice (some ⟨g6, 0, none⟩) (N + 1) c9)
          have HG6 : Hid (ERow (w9.setCell ⟨R, 0, none⟩ (.slice (some ⟨g6, 0, none⟩) (N + 1) c9)) g6 0 (insP es M (xk, xs, xd, xv)) ∧ N + 1 = (insP es M (xk, xs, xd, xv)).length ∧ N + 1 ≤ c9 ∧ w.heap.size ≤ g6) := by
            have hge : w.heap.size ≤ g6 := Nat.le_trans HRP5.out.keep.size hg6
            refine ⟨hr6.keep (Below.heap_setCell _ _ _ _ (by have := HRP5.out.lt; simp; omega)) (by simp), hl6, by rw [hl6]; exact hc6, hge⟩
          clear HRP8 HOL8 HO8 HRP9 HOL9 HO9 k0 k9 fz fz9 hg6 hr6 hl6 hc6 HRP5
          generalize w9.setCell ⟨R, 0, none⟩ (.slice (some ⟨g6, 0, none⟩) (N + 1) c9) = W10 at *
          have k1 := HRP10.out.c1
          go_upto_region 14 with (at_builtin; go_loud (refine wpList_appL2 W10 (by rfl) (.tmp 103) (.tmp 109) 27 (by rfl) i1 undI5 hi1 hy0 hy1 hy2 9 (fun _ => 0) (.slice none 0 0) [] (by rfl) (OwnL.nil _ _ _) (some ⟨g2, 0, none⟩) M c2 (hs.take M) (by rfl) HLI.out.1 (fun e => by cases e) ((HH.out _ HRP10.out.keep).take _) HLI.out.2.1 ?_; intro a7 c7 T7 w7 hown7 hgo7 hat7; have HRP7 := HID (HRP10.out.below (zeroT_below (by omega) hgo7)); have HOL7 := HID ((old_zero W10).goes hgo7 (by omega)); rw [List.nil_append, List.length_nil, Nat.zero_add, ← HLI.out.1] at hown7; rw [List.length_nil, Nat.zero_add, ← HLI.out.1]; have HO7 := HID hown7; clear hown7 hgo7 hat7))
          clear k1
          generalize hHG : (hgt ds N : Int) = hg at *
          have HHG : Hid ((hgt ds N : Int) = hg) := hHG
          clear hHG
          have HBA : Hid (Below w7.heap.size w7 (w7.alloc (.cells #[.int .i64 hg] 3))) := (Below.refl _ _).alloc (Nat.le_refl _) _
          go_upto_region 15 with (at_builtin; go_loud (refine wpList_appL2 _ (by rfl) (.tmp 111) (.tmp 113) 27 (by rfl) i1 undI5 hi1 hy0 hy1 hy2 9 T7 (.slice a7 M c7) (hs.take M) (by rfl) (HO7.out.below HBA.out) (some ⟨w7.heap.size, 0, none⟩) 1 1 [hg] (by rfl) (by rfl) (by simp) isI_new5 (by rw [← HLI.out.1]; exact HLI.out.2.2.1) ?_; intro a8 c8 T8 w8 hown8 hgo8 hat8; have HOL8 := HID ((HOL7.out.goes (Goes.below (t := fun _ => False) HBA.out) (fun z => z)).goes hgo8 (by omega)); have HRP8 := HID (HRP10.out.below HOL8.out.below); rw [← HLI.out.1] at hown8; rw [← HLI.out.1]; have HO8 := HID hown8; clear hown8 hgo8 hat8))
          clear HRP7 HOL7 HO7 HBA
          have k1 := HRP8.out.c1
          have fz := HRP8.out.fro
          go_upto_region 16 with (at_builtin; go_loud (refine wpList_appL2 w8 (by rfl) (.tmp 116) (.tmp 122) 27 (by rfl) i1 undI5 hi1 hy0 hy1 hy2 9 T8 (.slice a8 (M + 1) c8) (hs.take M ++ [hg]) (by rfl) HO8.out zz2 (N - M) (c2 - M) (hs.drop M) (by rfl) HLI.out.2.2.2.1 HZ.out.2 (HX2.out _ HRP8.out.keep) (by rw [List.length_append, ← HLI.out.1]; exact HLI.out.2.2.2.2.1) ?_; intro a9 cA T9 wA hown9 hgo9 hat9; have HOL9 := HID (HOL8.out.goes hgo9 (by omega)); have HRP9 := HID (HRP10.out.below HOL9.out.below); have HL9 : (hs.take M ++ [hg]).length + (hs.drop M).length = N + 1 := (by rw [List.length_append, ← HLI.out.1]; exact HLI.out.2.2.2.2.2); rw [HL9] at hown9; rw [HL9]; have HO9 := HID hown9; have k9 := HRP9.out.c1; have fz9 := HRP9.out.fro; clear hown9 hgo9 hat9 HL9))
          obtain ⟨gA, rfl, hgA, hrA, hlA, hcA⟩ := ownL_out HO9.out HOL9.out (by simp only [List.length_append, List.length_cons]; omega)
          have HRP11 : Hid _ := HRP9.out.set1 (.slice (some ⟨gA, 0, none⟩) (N + 1) cA)
          have HBW : Hid (Below W10.heap.size W10 wA) := HOL9.out.below
          have HGA : Hid (IRow (wA.setCell ⟨R, 1, none⟩ (.slice (some ⟨gA, 0, none⟩) (N + 1) cA)) gA 0 (insP hs M hg) ∧ N + 1 = (insP hs M hg).length ∧ N + 1 ≤ cA ∧ w.heap.size ≤ gA) := by
            have hge : w.heap.size ≤ gA := Nat.le_trans HRP10.out.keep.size hgA
            refine ⟨hrA.keep (Below.heap_setCell _ _ _ _ (by have := HRP10.out.lt; simp; omega)) (by simp), hlA, by rw [hlA]; exact hcA, hge⟩
          have HG6' : Hid (ERow (wA.setCell ⟨R, 1, none⟩ (.slice (some ⟨gA, 0, none⟩) (N + 1) cA)) g6 0 (insP es M (xk, xs, xd, xv))) := (HG6.out.1.below HBW.out HG6.out.1.1).keep (Below.heap_setCell _ _ _ _ (by have := HRP10.out.lt; have := HG6.out.2.2.2; simp; omega)) (by simp)
          have HB3 : Hid (IsB (wA.setCell ⟨R, 1, none⟩ (.slice (some ⟨gA, 0, none⟩) (N + 1) cA)) a3 ds) := HD.out _ HRP11.out.keep
          clear HRP8 HOL8 HO8 HRP9 HOL9 HO9 k1 k9 fz fz9 hgA hrA hlA hcA HBW
          generalize wA.setCell ⟨R, 1, none⟩ (.slice (some ⟨gA, 0, none⟩) (N + 1) cA) = W14 at *
          have HANS : RPutAns w R ds es hs bs (xk, xs, xd, xv) true W14 := by
            refine ⟨insP es M (xk, xs, xd, xv), insP hs M hg, g6 :: gA :: bs, ?_, HRP11.out.keep, fun b hb => ?_, .inr ⟨rfl, HDU.out, ?_, ?_⟩⟩
            · refine Rp.done (w := w) (B := B) (x := (xk, xs, xd, xv)) (c6 := c9) (c10 := cA) (a3 := a3) (c3 := c3) ?_ HG6'.out (by rw [← HG6.out.2.1]; exact HG6.out.2.2.1) HGA.out.1 (by rw [← HGA.out.2.1]; exact HGA.out.2.2.1) HB3.out HA.out.2.2.2.2.2.2 (by rw [← HGA.out.2.1, ← HG6.out.2.1]) (by rw [← HG6.out.2.1]; omega) HG6.out.2.2.2 HGA.out.2.2.2 HR.out.low
              have hf := HRP11.out
              rw [← HG6.out.2.1, ← HGA.out.2.1, HLEN.out.2.2.2]
              exact hf
            · simp only [List.mem_cons] at hb
              rcases hb with rfl | rfl | hb
              · exact .inr HG6.out.2.2.2
              · exact .inr HGA.out.2.2.2
              · exact .inl hb
            · show insP es M (xk, xs, xd, xv) = insP es (plc xk xs es) (xk, xs, xd, xv)
              rw [HLEN.out.2.2.1]
            · show insP hs M hg = insP hs (plc xk xs es) (hgt ds es.length : Int)
              rw [HLEN.out.2.2.1, HLEN.out.1, HHG.out]
          have HAN := HID HANS
          clear HANS
          go_wp2
          go_ret
          first | exact ⟨true, rfl, HAN.out⟩ | exact .inr ⟨rfl, HAN.out⟩
end Sk
end Go.Proofs.Ytcioaoanhmpdkaa
