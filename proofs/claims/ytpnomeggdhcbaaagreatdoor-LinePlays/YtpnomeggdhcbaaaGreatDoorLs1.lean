import Derived.Test.YtpnomeggdhcbaaaGreatDoorLr6
import Derived.Test.YtpnomeggdhcbaaaGreatDoorJT
namespace Go.Proofs.YtpnomeggdhcbaaaGreatDoor
namespace Lin
open Go.RowKit Go.Shelf Laws Irw
set_option linter.unusedVariables false
set_option maxRecDepth 100000
/-- a function turned at one place -/
def put {α : Type} (f : Nat → α) (i : Nat) (x : α) : Nat → α := fun j => if j = i then x else f j
theorem put_same {α : Type} (f : Nat → α) (i : Nat) (x : α) : put f i x i = x := if_pos rfl
theorem put_other {α : Type} (f : Nat → α) {i j : Nat} (x : α) (h : j ≠ i) : put f i x j = f j := if_neg h
theorem put_self {α : Type} (f : Nat → α) (i : Nat) : put f i (f i) = f := by
  funext j
  unfold put
  split
  · rename_i h; rw [h]
  · rfl
/-- The book, and both rows: a line (P) and the document's (Q) each. -/
structure LP (w : World) (K N : Nat) (P Q : Nat → Nat) (L : Nat → List Int) (T : Nat → Nat) (W : World) : Prop where
  kept : BookI.Kept T W K N
  lp : ∀ i, i < 2 → LineAt (9000010 + 4 * i) T W (P i) (L i)
  lq : ∀ i, i < 2 → LineAt (9000010 + 4 * i + 2) T W (Q i) (L i)
  bl : Below w.heap.size w W
  fr : ∀ b, b < w.heap.size → T b = 0
section
variable {w : World} {K N : Nat} {P Q : Nat → Nat} {L : Nat → List Int} {T T' : Nat → Nat} {W W' : World}
theorem bel_goes {u : Nat → Prop} {w W W' : World} {T T' : Nat → Nat} (hb : Below w.heap.size w W) (hf : ∀ b, b < w.heap.size → T b = 0) (hg : Goes u T W T' W') (h0 : ¬ u 0) : Below w.heap.size w W' ∧ ∀ b, b < w.heap.size → T' b = 0 :=
  ⟨hb.trans ⟨hg.os, hg.tape, hg.output, hg.size, fun b hl => hg.block b (Nat.lt_of_lt_of_le hl hb.size) (by rw [hf b hl]; exact h0)⟩, fun b hl => (hg.tag b (Nat.lt_of_lt_of_le hl hb.size) (by rw [hf b hl]; exact h0)).trans (hf b hl)⟩
theorem LP.below (h : LP w K N P Q L T W) (hb : Below W.heap.size W W') : LP w K N P Q L T W' :=
  ⟨h.kept.below hb, fun i hi => (h.lp i hi).below hb, fun i hi => (h.lq i hi).below hb, h.bl.trans (hb.mono h.bl.size), h.fr⟩
/-- One row turned. -/
theorem LP.turn {i : Nat} (hi : i < 2) {l : List Int} (h : LP w K N P Q L T W) (hp : PlayIs (9000010 + 4 * i) T W (P i) (Q i) l W') : ∃ T', LP w K N P Q (put L i l) T' W' ∧ Goes (· ≠ 0) T W T' W' := by
  obtain ⟨T', h1, h2, hg⟩ := hp
  have hb := bel_goes h.bl h.fr hg (by omega)
  refine ⟨T', ⟨h.kept.goes hg (fun x hx => by omega), fun j hj => ?_, fun j hj => ?_, hb.1, hb.2⟩, hg.mono fun x hx => by omega⟩
  · by_cases e : j = i
    · subst e; rw [put_same]; exact h1
    · rw [put_other _ _ e]; exact (h.lp j hj).goes hg (by omega) (by omega)
  · by_cases e : j = i
    · subst e; rw [put_same]; exact h2
    · rw [put_other _ _ e]; exact (h.lq j hj).goes hg (by omega) (by omega)
/-- New ints go to the book. -/
theorem LP.ints (h : LP w K N P Q L T W) (hb : Below W.heap.size W W') (hN : N + 1 ≤ 2000) {a : Option Addr} {c n : Nat} {l : List Int} (mark : Int) (ho : W'.ownsRow W.heap.size 3 1 (.slice a n c) n (cellsI l)) (hn : n = l.length) (hl : l.length ≤ 1000000000000) {W9 : World} (hb9 : Below W'.heap.size W' W9) :
    Calls Tryz.prog 16 #[.pointer (some ⟨K, 0, none⟩), .slice a n c, .int .i64 mark] W9 fun e w' => e = .returned (.tuple #[]) ∧ ∃ T', LP w K (N + 1) P Q L T' w' ∧ Goes (· ≠ 0) T W T' w' := by
  subst hn
  have hbb : Below W.heap.size W W9 := hb.trans (hb9.mono hb.size)
  rcases ho.2 with ⟨hv, h0⟩ | ⟨g, cap, cur, hv, hg, hh, hc, hm, hs, ht⟩
  · simp only [Value.slice.injEq] at hv
    obtain ⟨rfl, hv2, rfl⟩ := hv
    rw [hv2]
    have h9 := h.below hbb
    refine (h9.kept.bytes_nil hN mark 1).mono ?_
    rintro e w' ⟨rfl, T', h1, h2⟩
    have hg : Goes (fun x => ¬ (x = 0 ∨ 9000000 ≤ x) ∨ x = 9000001) T W9 T' w' := ⟨h2.os, h2.tape, h2.output, h2.size, fun b hb hu => (h2.block b hb (by omega) (by omega)).1, fun b hb hu => (h2.block b hb (by omega) (by omega)).2, fun b hb _ => h1.2 b hb⟩
    have hbl := bel_goes h9.bl h9.fr hg (by omega)
    exact ⟨rfl, T', ⟨h1, fun i hi => (h9.lp i hi).goes hg (by omega) (by omega), fun i hi => (h9.lq i hi).goes hg (by omega) (by omega), hbl.1, hbl.2⟩, (Goes.below hbb).trans (hg.mono fun x hx => by omega)⟩
  · simp only [Value.slice.injEq] at hv
    obtain ⟨rfl, _, rfl⟩ := hv
    have z2 : g < W'.heap.size := (ho.lt g rfl).2
    have hz := h.kept.2 g hg
    have hown : BookI.OwnI W' (g, c, l) := BookI.OwnI.of (BookI.own_base ho (fun _ _ => Nat.zero_le _))
    have hgT : Goes (fun _ => False) T W (BookI.upd T g (9000000 + 1)) W9 := ⟨hbb.os, hbb.tape, hbb.output, hbb.size, fun b hl _ => hbb.block b hl, fun b hl _ => BookI.upd_other _ _ (by omega), fun b hl h0 => (BookI.upd_other _ _ (by have := hb9.size; omega)).trans h0⟩
    have hk9 : BookI.Kept (BookI.upd T g (9000000 + 1)) W9 K N := (h.kept.below hbb).tag g 1 hz (Nat.lt_of_lt_of_le z2 hb9.size)
    have hlv : BookI.Live 1 (BookI.upd T g (9000000 + 1)) W9 (some ⟨g, 0, none⟩) c l := ⟨⟨g, rfl, hown.below hb9, BookI.upd_same _ _ _⟩, hc, BookI.own_cap ho⟩
    refine (hk9.bytes hN mark hlv hl rfl).mono ?_
    rintro e w' ⟨rfl, T', h1, h2⟩
    have hg : Goes (fun x => ¬ (x = 0 ∨ 9000000 ≤ x) ∨ x = 9000001) (BookI.upd T g (9000000 + 1)) W9 T' w' := ⟨h2.os, h2.tape, h2.output, h2.size, fun b hb hu => (h2.block b hb (by omega) (by omega)).1, fun b hb hu => (h2.block b hb (by omega) (by omega)).2, fun b hb _ => h1.2 b hb⟩
    have hbl0 := bel_goes h.bl h.fr hgT (fun z => z)
    have hbl := bel_goes hbl0.1 hbl0.2 hg (by omega)
    exact ⟨rfl, T', ⟨h1, fun i hi => ((h.lp i hi).goes hgT (fun z => z) (fun z => z)).goes hg (by omega) (by omega), fun i hi => ((h.lq i hi).goes hgT (fun z => z) (fun z => z)).goes hg (by omega) (by omega), hbl.1, hbl.2⟩, (hgT.mono fun x hx => hx.elim).trans (hg.mono fun x hx => by omega)⟩
end
/-- What a call makes of a row. -/
def stp (kd n : Int) (l : List Int) : List Int := if kd = 1 then joinL l n else if kd = 3 then leaveL l n else l
theorem stp_len (kd n : Int) (l : List Int) : (stp kd n l).length ≤ l.length + 1 := by
  unfold stp joinL leaveL
  split
  · split <;> simp
  · split
    · split
      · have := List.length_eraseIdx_le l (plc l n).toNat
        omega
      · omega
    · omega
end Lin
end Go.Proofs.YtpnomeggdhcbaaaGreatDoor
