import Derived.Test.YtjbnnhephagdmaaDoorMb7
import Derived.Test.YtjbnnhephagdmaaDoorMb1
import Derived.Deep.RegionHeld3
import Derived.Deep.RegionWith
namespace Go.Proofs.YtjbnnhephagdmaaDoor
namespace Mnf
open Go.RowKit CMath Byt Cod Crw Irw Laws
set_option linter.unusedVariables false
set_option linter.unusedSimpArgs false
set_option maxRecDepth 20000
theorem ownK_cutS {α : Type} {K : Knd α} {t : Nat} {T : Nat → Nat} {w : World} {a : Option Addr} {n c : Nat} {l : List α} (h : OwnK K t T w (svV (a, n, c)) l) {m : Nat} (hm : m ≤ l.length) : OwnK K t T w (svV (a, m, c)) (l.take m) := by
  rcases h.1.2 with ⟨h1, h2⟩ | ⟨g, cap, cur, hv, _⟩
  · unfold svV at h1
    cases h1
    have hl : l = [] := List.eq_nil_of_length_eq_zero h2
    subst hl
    have hm0 : m = 0 := by simpa using hm
    subst hm0
    exact h
  · unfold svV at hv
    cases hv
    exact ownK_cut h hm
/-- the pointers are cut -/
theorem Rs.cutp {w wr : World} {T : Nat → Nat} {es : List Ed} {vs : List Ev} {i m g nE cE n c a b d : Nat} {ap : Option Addr} {so si : Sv} {e : Ed} (h : Rs w T wr es (some ⟨g, 0, none⟩, nE, cE) vs) (hv : vs[i]? = some (a, b, d, so, si, (ap, n, c))) (he : es[i]? = some e) (hm : m ≤ e.ptr.length) : Rs w T (wr.setCell ⟨g, i * 6 + 5, none⟩ (.slice ap m c)) (es.set i { e with ptr := e.ptr.take m }) (some ⟨g, 0, none⟩, nE, cE) (vs.set i (a, b, d, so, si, (ap, m, c))) := by
  obtain ⟨k1, k2, k3, k4⟩ := h.eds i _ e hv he
  have hi := (List.getElem?_eq_some_iff.1 hv).1
  have hie := (List.getElem?_eq_some_iff.1 he).1
  have hT : T g = 1 := h.own.2 g rfl
  have hg := Goes.setCell (t := (· = 1)) (T := T) (w := wr) (p := g) (j := i * 6 + 5) (v := .slice ap m c) hT
  refine ⟨h.old.goes hg (by decide), ?_, by rw [List.length_set, List.length_set]; exact h.len, fun j u f hu hf => ?_⟩
  · exact ownK_set (K := kE) (j := 5) (x := (a, b, d, so, si, (ap, m, c))) h.own (OwnK.sk h.own).1 hi (by decide) (fun q hq => by rw [hv] at hq; cases hq; rfl)
  · by_cases hij : i = j
    · subst hij
      rw [List.getElem?_set_self hi] at hu
      rw [List.getElem?_set_self hie] at hf
      cases hu
      cases hf
      exact ⟨k1, k2.goes hg (by omega), k3.goes hg (by omega), (ownK_cutS k4 hm).goes hg (by omega)⟩
    · rw [List.getElem?_set_ne hij] at hu hf
      exact (h.eds j u f hu hf).goes hg (fun s hs => by omega)
/-! a list that is turned from its beginning on -/
def mp {α : Type} (f : α → α) (k : Nat) (l : List α) : List α := (l.take k).map f ++ l.drop k
theorem mp_zero {α : Type} (f : α → α) (l : List α) : mp f 0 l = l := by simp [mp]
theorem mp_len {α : Type} (f : α → α) (k : Nat) (l : List α) : (mp f k l).length = l.length := by simp [mp]; omega
theorem mp_all {α : Type} (f : α → α) {k : Nat} {l : List α} (h : l.length ≤ k) : mp f k l = l.map f := by simp [mp, List.take_of_length_le h, List.drop_of_length_le h]
theorem mp_get {α : Type} (f : α → α) {k : Nat} {l : List α} {x : α} (h : l[k]? = some x) : (mp f k l)[k]? = some x := by
  have hk := (List.getElem?_eq_some_iff.1 h).1
  have hl : ((l.take k).map f).length = k := by simp; omega
  unfold mp
  rw [List.getElem?_append_right (by omega), hl, Nat.sub_self, List.getElem?_drop]
  simpa using h
theorem mp_set {α : Type} (f : α → α) {k : Nat} {l : List α} {x : α} (h : l[k]? = some x) : (mp f k l).set k (f x) = mp f (k + 1) l := by
  have hk := (List.getElem?_eq_some_iff.1 h).1
  have hl : ((l.take k).map f).length = k := by simp; omega
  have hd : l.drop k = x :: l.drop (k + 1) := by rw [List.drop_eq_getElem_cons hk, (List.getElem?_eq_some_iff.1 h).2]
  unfold mp
  rw [List.set_append_right _ _ (by omega), hl, Nat.sub_self, hd, List.set_cons_zero, List.take_add_one, h]
  simp
/-! what may be written -/
def rPl (p : Pl) : Pl := (plc p.1 5, p.2)
def cut64 (s : ByteArray) : ByteArray := s.extract 0 (min s.size 64)
def rPd (q : Pd) : Pd := ⟨plc q.lv 5, q.no, max q.we 0, max q.by_ 0, max q.en 0, cut64 q.le, cut64 q.gr⟩
def rE (e : Ed) : Ed := { e with out := e.out.map rPl, inn := e.inn.map rPd, ptr := (e.ptr.take 5).map cut64 }
theorem cut64_size (s : ByteArray) : (cut64 s).size ≤ 64 := by
  unfold cut64
  rw [ByteArray.size_extract]
  omega
/-- numbers as Go's types hold them -/
def Nmd (e : Ed) : Prop := (e.log ≤ M64 ∧ e.nxt ≤ M64 ∧ e.seq ≤ M64) ∧ (∀ p ∈ e.out, p.2 ≤ M64) ∧ ∀ q ∈ e.inn, q.no ≤ M64 ∧ q.we ≤ (M63 : Nat) ∧ q.by_ ≤ (M63 : Nat) ∧ q.en ≤ (M63 : Nat)
theorem plc5 (k : Int) : 0 ≤ plc k 5 ∧ plc k 5 ≤ (4 : Nat) := by
  have := plc_bound k 5 (by decide)
  omega
theorem okE_right {e : Ed} (h : Nmd e) : okE (rE e) := by
  obtain ⟨h1, h2, h3⟩ := h
  refine ⟨h1, fun p hp => ?_, fun p hp => ?_, fun s hs => ?_, ?_⟩
  · obtain ⟨q, hq, rfl⟩ := List.mem_map.1 hp
    exact ⟨plc5 _, h2 q hq⟩
  · obtain ⟨q, hq, rfl⟩ := List.mem_map.1 hp
    obtain ⟨k1, k2, k3, k4⟩ := h3 q hq
    refine ⟨⟨⟨plc5 _, k1⟩, ⟨?_, ?_⟩, ⟨?_, ?_⟩, ⟨?_, ?_⟩⟩, cut64_size _, cut64_size _⟩
    · show (0 : Int) ≤ max q.we 0; omega
    · show max q.we 0 ≤ _; omega
    · show (0 : Int) ≤ max q.by_ 0; omega
    · show max q.by_ 0 ≤ _; omega
    · show (0 : Int) ≤ max q.en 0; omega
    · show max q.en 0 ≤ _; omega
  · obtain ⟨q, hq, rfl⟩ := List.mem_map.1 hs
    exact cut64_size q
  · show ((e.ptr.take 5).map cut64).length ≤ 5
    simp
    omega
theorem Rs.eds_at {w wr : World} {T : Nat → Nat} {es : List Ed} {s : Sv} {vs : List Ev} (h : Rs w T wr es s vs) : EdsAt wr s es := by
  obtain ⟨k1, k2, k3, k4, _, k5⟩ := OwnK.sk h.own
  refine ⟨vs, h.len, k1.trans h.len, k4, by have := h.len; omega, k2, fun j v e hv he => ?_⟩
  obtain ⟨q1, q2, q3, q4⟩ := h.eds j v e hv he
  obtain ⟨a1, a2, a3, a4, a5, _⟩ := OwnK.sk q2
  obtain ⟨b1, b2, b3, b4, b5, _⟩ := OwnK.sk q3
  obtain ⟨c1, c2, c3, c4, c5, _⟩ := OwnK.sk q4
  exact ⟨q1, ⟨a2, a1, a4, a3, a5⟩, ⟨b2, b1, b4, b3, b5⟩, ⟨c2, c1, c4, c3, c5⟩, own_cap q2, own_cap q3⟩
end Mnf
end Go.Proofs.YtjbnnhephagdmaaDoor
namespace Go.Proofs.YtjbnnhephagdmaaDoor
namespace Mnf
open Go.RowKit CMath Byt Cod Crw Irw Laws
set_option linter.unusedVariables false
set_option linter.unusedSimpArgs false
set_option maxRecDepth 20000
def I64 (x : Int) : Prop := -9223372036854775808 ≤ x ∧ x ≤ 9223372036854775807
def Rng (e : Ed) : Prop := (e.out.length ≤ 1000000 ∧ e.inn.length ≤ 1000000 ∧ e.ptr.length ≤ 1000000) ∧ (∀ p ∈ e.out, I64 p.1) ∧ (∀ q ∈ e.inn, I64 q.lv ∧ I64 q.we ∧ I64 q.by_ ∧ I64 q.en ∧ q.le.size ≤ 9223372036854775807 ∧ q.gr.size ≤ 9223372036854775807) ∧ ∀ s ∈ e.ptr, s.size ≤ 9223372036854775807
theorem set_same {α : Type} {l : List α} {k : Nat} {x : α} (h : l[k]? = some x) : l.set k x = l := by
  obtain ⟨h1, h2⟩ := List.getElem?_eq_some_iff.1 h
  rw [← h2, List.set_getElem_self]
/-- an edit of the copies as it lies -/
theorem Rs.cell {w wr : World} {T : Nat → Nat} {es : List Ed} {sa : Option Addr} {sn sc : Nat} {vs : List Ev} (h : Rs w T wr es (sa, sn, sc) vs) {k : Nat} {v : Ev} (hv : vs[k]? = some v) : ∃ g, sa = some ⟨g, 0, none⟩ ∧ ∀ j u, (kE.cs v)[j]? = some u → wr.cell? ⟨g, k * 6 + j, none⟩ = some u ∧ wr.frozen? ⟨g, k * 6 + j, none⟩ = false := by
  rcases h.own.1.2 with ⟨h1, h2⟩ | ⟨g, cap, cur, hv2, hb, hh, hc, hm, hr, ht⟩
  · have := (List.getElem?_eq_some_iff.1 hv).1
    omega
  · unfold svV at hv2
    cases hv2
    obtain ⟨_, k2, _⟩ := OwnK.sk h.own
    refine ⟨g, rfl, fun j u hu => ?_⟩
    obtain ⟨b, off, e, r⟩ := k2 (by rintro rfl; simp at hv)
    cases e
    have := r.2 k v hv j u hu
    have e1 : 0 + k * kE.size + j = k * 6 + j := by show 0 + k * 6 + j = _; omega
    rw [e1] at this
    exact ⟨this, frozen_of_row _ _ _ _ _ hh⟩
theorem Rs.below {w wr w' : World} {T : Nat → Nat} {es : List Ed} {s : Sv} {vs : List Ev} (h : Rs w T wr es s vs) (hb : Below wr.heap.size wr w') : Rs w T w' es s vs := by
  have hg := Goes.below (t := fun _ => False) (T := T) hb
  exact ⟨h.old.goes hg (fun z => z), h.own.below hb, h.len, fun j v e hv he => (h.eds j v e hv he).goes hg (fun s hs => hs.elim)⟩
end Mnf
end Go.Proofs.YtjbnnhephagdmaaDoor
