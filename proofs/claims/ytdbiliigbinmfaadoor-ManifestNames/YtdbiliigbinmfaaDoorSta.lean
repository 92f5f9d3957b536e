import Derived.Test.YtdbiliigbinmfaaDoorRomH
namespace Go.Proofs.YtdbiliigbinmfaaDoor
namespace Sta
open Go.RowKit CMath Byt Cod Laws Rom
set_option linter.unusedVariables false
set_option maxRecDepth 20000

/-- A list whose first k bytes are turned. -/
def mix (F : Nat → Nat → Nat) (l : List Nat) (k : Nat) : List Nat := l.mapIdx fun i x => if i < k then F i x else x
theorem mix_zero (F : Nat → Nat → Nat) (l : List Nat) : mix F l 0 = l := by
  apply List.ext_getElem?
  intro i
  simp [mix]
theorem mix_length (F : Nat → Nat → Nat) (l : List Nat) (k : Nat) : (mix F l k).length = l.length := by simp [mix]
theorem mix_get (F : Nat → Nat → Nat) (l : List Nat) (k i : Nat) : (mix F l k)[i]? = (l[i]?).map fun x => if i < k then F i x else x := by simp [mix]
theorem mix_byte {F : Nat → Nat → Nat} {l : List Nat} (hl : ∀ x ∈ l, x < 256) (hF : ∀ i x, x < 256 → F i x < 256) (k : Nat) : ∀ x ∈ mix F l k, x < 256 := by
  intro x hx
  obtain ⟨i, hi⟩ := List.getElem?_of_mem hx
  rw [mix_get] at hi
  cases hy : l[i]? with
  | none => rw [hy] at hi; cases hi
  | some y =>
    rw [hy] at hi
    simp at hi
    have := hl y (List.mem_of_getElem? hy)
    subst hi
    split
    · exact hF i y this
    · exact this
theorem mix_set {W : World} {F : Nat → Nat → Nat} {g k y : Nat} {l : List Nat} (h : BRow W g 0 (mix F l k)) (hy : l[k]? = some y) (z : Int) (hz : z = ((F k y : Nat) : Int)) : BRow (W.setCell ⟨g, k, none⟩ (.int .u8 z)) g 0 (mix F l (k + 1)) := by
  subst hz
  refine ⟨by simpa using h.1, fun i x hx => ?_⟩
  rw [mix_get] at hx
  have hold : (mix F l k)[k]? = some y := by rw [mix_get, hy]; simp
  by_cases hi : i = k
  · subst hi
    rw [hy] at hx
    simp at hx
    subst hx
    have := h.2 i y hold
    rw [Nat.zero_add] at this ⊢
    exact World.cell?_setCell_same _ _ _ this
  · rw [World.cell?_setCell_other _ _ _ _ (fun e => by simp only [Addr.mk.injEq] at e; omega)]
    refine h.2 i x ?_
    rw [mix_get]
    have e : (i < k + 1) ↔ (i < k) := by omega
    simp only [e] at hx
    exact hx

theorem New.keep {T base : Nat} {w w' : World} {a : Option Addr} {c : Nat} {l : List Nat} (h : New T base w a c l) (hb : ∀ g, (Value.slice a l.length c).ownBlock = some g → w'.heap[g]? = w.heap[g]?) : New T base w' a c l := by
  refine ⟨⟨h.row.1, ?_⟩, h.byte⟩
  rcases h.row.2 with h2 | ⟨g, cap, cur, hv, hg, hh, hr⟩
  · exact .inl h2
  · exact .inr ⟨g, cap, cur, hv, hg, (hb g (by rw [hv]; rfl)).trans hh, hr⟩

/-- What stands between two calls of a law over one lent list and a kept copy. -/
structure St (w W : World) (R g c n kc : Nat) (ka : Option Addr) (v0 v1 : Value) (l kl : List Nat) : Prop where
  bel : Below w.heap.size w W
  rm : Rm W R w.heap.size v0 v1 [(g, n, c)]
  inn : BRow W g 0 l
  byte : ∀ x ∈ l, x < 256
  len : n = l.length
  kept : New 5 w.heap.size W ka kc kl
  apart : (Value.slice ka kl.length kc).ownBlock ≠ some g
theorem St.below {w W W' : World} {R g c n kc : Nat} {ka : Option Addr} {v0 v1 : Value} {l kl : List Nat} (h : St w W R g c n kc ka v0 v1 l kl) (hb : Below W.heap.size W W') : St w W' R g c n kc ka v0 v1 l kl :=
  ⟨h.bel.trans (hb.mono h.bel.size), h.rm.below hb, h.inn.below hb h.inn.1, h.byte, h.len, h.kept.below hb, h.apart⟩
theorem St.isB {w W : World} {R g c n kc : Nat} {ka : Option Addr} {v0 v1 : Value} {l kl : List Nat} (h : St w W R g c n kc ka v0 v1 l kl) : IsB W (some ⟨g, 0, none⟩) l := IsB.some h.inn h.byte
theorem St.set {w W : World} {R g c n kc k y : Nat} {ka : Option Addr} {v0 v1 : Value} {F : Nat → Nat → Nat} {l kl : List Nat} (h : St w W R g c n kc ka v0 v1 (mix F l k) kl) (hy : l[k]? = some y) (hb : F k y < 256) (z : Int) (hz : z = ((F k y : Nat) : Int)) : St w (W.setCell ⟨g, k, none⟩ (.int .u8 z)) R g c n kc ka v0 v1 (mix F l (k + 1)) kl := by
  obtain ⟨hbg, hgR, _⟩ := h.rm.lent (g, n, c) (by simp)
  have hlen := h.len
  rw [mix_length] at hlen
  have hk : k < l.length := (List.getElem?_eq_some_iff.1 hy).1
  refine ⟨h.bel.setCell hbg _, h.rm.set _ ⟨(g, n, c), by simp, rfl⟩ (fun x hx _ => by simp at hx; subst hx; show k < n; omega), mix_set h.inn hy z hz, ?_, by rw [mix_length]; exact hlen, New.keep h.kept (fun x hx => Below.heap_setCell _ _ _ _ (fun e => h.apart (by rw [hx, e]))), h.apart⟩
  intro x hx
  obtain ⟨i, hi⟩ := List.getElem?_of_mem hx
  rw [mix_get] at hi
  by_cases he : i = k
  · subst he
    rw [hy] at hi
    simp at hi
    omega
  · refine h.byte x (List.mem_of_getElem? (i := i) ?_)
    rw [mix_get]
    have e : (i < k + 1) ↔ (i < k) := by omega
    simp only [e] at hi
    exact hi
/-- The first list of a new room. -/
theorem St.first {w w1 w2 : World} {ka : Option Addr} {kc g c : Nat} {v0 v1 : Value} {l kl : List Nat} (hb1 : Below w.heap.size w w1) (hk : New 5 w.heap.size w1 ka kc kl) (hl : ∀ x ∈ l, x < 256)
    (hrm : Rm w2 w1.heap.size w.heap.size v0 v1 ([] ++ [(g, l.length, c)])) (hrow : BRow w2 g 0 l) (hg : (w1.alloc roomZ).heap.size ≤ g) (hkeep : Keep (w1.heap.size :: ((Value.slice none 0 0).ownBlock.toList ++ (Value.slice none 0 0).ownBlock.toList)) (w1.alloc roomZ) w2) : St w w2 w1.heap.size g c l.length kc ka v0 v1 l kl := by
  have s1 := hb1.size
  simp at hg
  have K : Keep [w1.heap.size] w1 w2 := (Keep.alloc _ w1 roomZ).trans (hkeep.mono (fun x hx => by simpa [Value.ownBlock] using hx))
  refine ⟨⟨K.os.trans hb1.os, K.tape.trans hb1.tape, K.output.trans hb1.output, Nat.le_trans s1 K.size, fun i hi => (K.block i (by omega) (by simp; omega)).trans (hb1.block i hi)⟩, hrm, hrow, hl, rfl, New.keep hk (fun x hx => ?_), fun e => ?_⟩
  · have := (hk.row.lt x hx).2
    exact K.block x this (by simp; omega)
  · have := (hk.row.lt g e).2
    omega

end Sta
end Go.Proofs.YtdbiliigbinmfaaDoor
