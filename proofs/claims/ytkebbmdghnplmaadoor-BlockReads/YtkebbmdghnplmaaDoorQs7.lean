import Derived.Test.YtkebbmdghnplmaaDoorQs6
import Derived.Test.YtkebbmdghnplmaaDoorQgM
namespace Go.Proofs.YtkebbmdghnplmaaDoor
namespace Qb
open Go.RowKit CMath Byt Laws Irw Crw Cod
set_option linter.unusedVariables false
set_option linter.unusedSimpArgs false
set_option maxRecDepth 100000

theorem lastK_E2 (l : List En) : lastK l = lastE ⟨#[]⟩ l := by
  rcases List.eq_nil_or_concat l with rfl | ⟨l', e, rfl⟩
  · rfl
  · rw [List.concat_eq_append, lastK_snoc, lastE_snoc]
structure DS (w : World) (b : List Nat) (z : List (En × Nat)) (ky : ByteArray) (s p : Nat) : Prop where
  sm : sumS z = p
  wk : wk (eOf b) [] = z ++ wk ((eOf b).drop p) (strB ky)
  ch : chain ⟨#[]⟩ (z.map Prod.fst)
  ky : ky = lastE ⟨#[]⟩ (z.map Prod.fst)
  ps : ∀ x ∈ z, 3 ≤ x.2
  sc : 2 ≤ nOf b → Sec (vOf b) z s
  ok : ∀ e ∈ z.map Prod.fst, Ok e ∧ 0 ≤ e.2.1
structure DW (w : World) (l : List En) (v : Value) (T : Nat → Nat) (W : World) : Prop where
  ow : Erw.OwnE 7 T W v l
  bl : Below w.heap.size w W
  hi : Hi T W
  fr : ∀ b, b < w.heap.size → T b = 0
theorem DW.below {w : World} {l : List En} {v : Value} {T : Nat → Nat} {W W' : World} (h : DW w l v T W) (hb : Below W.heap.size W W') : DW w l v T W' :=
  ⟨h.ow.below hb, h.bl.trans (hb.mono h.bl.size), h.hi.below hb.size, h.fr⟩
theorem DW.next {w w2 w9 : World} {N : Nat} {acc : List En} {x : En} {v : Value} {a9 : Option Addr} {c9 : Nat} {T2 T9 : Nat → Nat} (h : DW w acc v T2 w2) (hg : Goes (· = 7) T2 w2 T9 w9) (ho : Erw.OwnE 7 T9 w9 (.slice a9 N c9) (acc ++ [x])) : DW w (acc ++ [x]) (.slice a9 N c9) T9 w9 :=
  ⟨ho, h.bl.trans ⟨hg.os, hg.tape, hg.output, hg.size, fun b hb => hg.block b (Nat.lt_of_lt_of_le hb h.bl.size) (by rw [h.fr b hb]; omega)⟩, h.hi.goes hg, fun b hb => (hg.tag b (Nat.lt_of_lt_of_le hb h.bl.size) (by rw [h.fr b hb]; omega)).trans (h.fr b hb)⟩
theorem DS.len3 {w : World} {b : List Nat} {z : List (En × Nat)} {ky : ByteArray} {s p : Nat} (h : DS w b z ky s p) : 3 * z.length ≤ p := by
  rw [← h.sm]
  have := h.ps
  clear h
  induction z with
  | nil => simp
  | cons x t ih =>
    rw [sumS_cons, List.length_cons]
    have h1 := ih (fun y hy => this y (List.mem_cons_of_mem _ hy))
    have h2 := this x (List.mem_cons_self ..)
    omega
theorem DS.next {w : World} {b : List Nat} {z : List (En × Nat)} {ky : ByteArray} {s s' p : Nat} {x : En × Nat} (hb : ∀ x ∈ b, x < 256) (h : DS w b z ky s p) (hp : p < pOf b) (hpl : pOf b ≤ b.length) (hr : rdF ((eOf b).drop p) (strB ky) = some x) (ha : adds (lastE ⟨#[]⟩ (z.map Prod.fst)) x.1 = 0) (hs : 2 ≤ nOf b → Sec (vOf b) (z ++ [x]) s') : DS w b (z ++ [x]) x.1.1 s' (p + x.2) := by
  have hB : ∀ y ∈ (eOf b).drop p, y < 256 := fun y hy => hb y (List.mem_of_mem_take (List.mem_of_mem_drop hy))
  have hne : (eOf b).drop p ≠ [] := by
    intro e
    have := congrArg List.length e
    simp [eOf] at this
    omega
  have hok := fault_ok (adds_ok ha).1
  have hE := rdF_ok hr hok.k2
  have hz := rdF_sz hB hr
  refine ⟨by rw [sumS_app, sumS_one, h.sm], ?_, ?_, ?_, ?_, hs, ?_⟩
  · rw [h.wk, wk_some hne hB hE, List.drop_drop, List.append_assoc]
    rfl
  · rw [List.map_append]
    exact chain_snoc h.ch ha
  · rw [List.map_append]
    show _ = lastE _ (z.map Prod.fst ++ [x.1])
    rw [lastE_snoc]
  · intro y hy
    rcases List.mem_append.1 hy with hy | hy
    · exact h.ps y hy
    · rw [List.mem_singleton.1 hy]; exact hz.1
  · intro e he
    rw [List.map_append] at he
    rcases List.mem_append.1 he with he | he
    · exact h.ok e he
    · have he2 : e = x.1 := List.mem_singleton.1 he
      rw [he2]; exact ⟨hok, hz.2.2.2.2⟩
theorem DS.none {w : World} {b : List Nat} {z : List (En × Nat)} {ky : ByteArray} {s p : Nat} (hl : b.length < 4294967296) (h : DS w b z ky s p) (hp : p < pOf b) (hr : rdF ((eOf b).drop p) (strB ky) = Option.none) : opn b = Option.none := by
  have h1 := h.wk
  rw [← h.sm] at h1 hr hp
  exact doc_stop hl h1 hp (rdF_none hr)
theorem DS.bad {w : World} {b : List Nat} {z : List (En × Nat)} {ky : ByteArray} {s p : Nat} {x : En × Nat} (hb : ∀ x ∈ b, x < 256) (hl : b.length < 4294967296) (h : DS w b z ky s p) (hp : p < pOf b) (hpl : pOf b ≤ b.length) (hr : rdF ((eOf b).drop p) (strB ky) = some x) (ha : adds (lastE ⟨#[]⟩ (z.map Prod.fst)) x.1 ≠ 0) : opn b = Option.none := by
  have hB : ∀ y ∈ (eOf b).drop p, y < 256 := fun y hy => hb y (List.mem_of_mem_take (List.mem_of_mem_drop hy))
  have hne : (eOf b).drop p ≠ [] := by
    intro e
    have := congrArg List.length e
    simp [eOf] at this
    omega
  by_cases hk : x.1.1.size ≤ 64
  · have hE := rdF_ok hr hk
    refine doc_bad (z := z) (x := x) (ah := kB x.1) hl ?_ ha
    rw [h.wk, wk_some hne hB hE, List.drop_drop, h.sm]
  · have h1 := h.wk
    rw [← h.sm] at h1 hr hp
    exact doc_stop hl h1 hp (rdF_long hr hk)
def DocIs (w : World) (b : List Nat) (e : Ending) (w' : World) : Prop := Below w.heap.size w w' ∧ ((opn b = none ∧ ∃ v, e = .returned (.tuple #[v, .bool false])) ∨ ∃ R l a n c, opn b = some (R, l) ∧ e = .returned (.tuple #[.slice a n c, .bool true]) ∧ n = l.length ∧ Erw.IsE w' a l ∧ (l ≠ [] → ∃ g o, a = some ⟨g, o, none⟩ ∧ w.heap.size ≤ g) ∧ n ≤ c ∧ (a = none → c = 0))
end Qb
end Go.Proofs.YtkebbmdghnplmaaDoor
