import Derived.Test.YtjbnnhephagdmaaDoorMp1
namespace Go.Proofs.YtjbnnhephagdmaaDoor
namespace Mnf
open Go.RowKit CMath Byt Cod Crw Irw Laws
set_option linter.unusedVariables false
set_option linter.unusedSimpArgs false
set_option maxRecDepth 20000
theorem isK_all {α : Type} {K : Knd α} {w : World} {B : Nat} {xs : List α} (h : Zb w B (K.cells xs)) : IsK K w (some ⟨B, 0, none⟩) xs := by
  refine IsK.of ⟨h.1, fun i e he j u hu => ?_⟩
  have hj : j < K.size := by rw [← K.len e]; exact (List.getElem?_eq_some_iff.1 hu).1
  rw [Nat.zero_add]
  exact h.2.1 _ u ((K.cells_get xs i e he j hj).trans hu)
theorem isl_new {α : Type} (K : Knd α) (T : Nat → Nat) (w : World) (xs : List α) (vs : Array Value) (t : TypeId) (b n : Nat) (hb : b = w.heap.size) (hT : T b = 0) (hn : n = xs.length) (hv : vs = (K.cells xs).toArray) : Isl K T (w.alloc (.cells vs t)) (some ⟨b, 0, none⟩, n, n) xs := by
  subst hb hn hv
  refine ⟨⟨isK_all (by simpa using Zb.new w (K.cells xs).toArray t), rfl, by simp, Nat.le_refl _, .inr ⟨_, _, rfl⟩⟩, fun _ b off e => by cases e; exact hT⟩
/-- putRecord's state -/
structure Pq (w : World) (T : Nat → Nat) (wr : World) (rc : List Value) (v : Value) (l : List Nat) : Prop where
  old : Old w T wr
  own : OwnK kB 1 T wr v l
  box : Zb wr w.heap.size rc
  tag : T w.heap.size = 0
theorem Pq.below {w wr w' : World} {T : Nat → Nat} {rc : List Value} {v : Value} {l : List Nat} (h : Pq w T wr rc v l) (hb : Below wr.heap.size wr w') : Pq w T w' rc v l :=
  ⟨h.old.goes (Goes.below (t := fun _ => False) hb) (fun z => z), h.own.below hb, h.box.below hb, h.tag⟩
theorem Pq.la {w wr w' : World} {T T' : Nat → Nat} {rc : List Value} {v v' : Value} {l l' : List Nat} (h : Pq w T wr rc v l) (hg : Goes (· = 1) T wr T' w') (ho : OwnK kB 1 T' w' v' l') : Pq w T' w' rc v' l' :=
  ⟨h.old.goes hg (by decide), ho, h.box.goes hg (by rw [h.tag]; decide), (hg.tag _ h.box.1 (by rw [h.tag]; decide)).trans h.tag⟩
theorem Pq.high {w wr : World} {T : Nat → Nat} {rc : List Value} {v : Value} {l : List Nat} (h : Pq w T wr rc v l) : ∀ x, wr.heap.size ≤ x → T x = 0 := fun x hx => h.old.zero x (.inr hx)
/-- what putRecord answers -/
def PrIs (l : List Nat) (w : World) (e : Ending) (w' : World) : Prop := ∃ g c, e = .returned (.slice (some ⟨g, 0, none⟩) l.length c) ∧ IsB w' (some ⟨g, 0, none⟩) l ∧ l.length ≤ c ∧ c ≤ 9223372036854775807 ∧ w.heap.size ≤ g ∧ g < w'.heap.size ∧ Below w.heap.size w w'
theorem Pq.start (w : World) (rc : Array Value) (t : TypeId) (x : Nat) : Pq w (upd (fun _ => 0) (w.heap.size + 1) 1) ((w.alloc (.cells rc t)).alloc (.cells #[.int .u8 (x : Int)] 5)) rc.toList (.slice (some ⟨w.heap.size + 1, 0, none⟩) 1 1) [x] := by
  refine ⟨⟨((Below.refl _ _).alloc (Nat.le_refl _) _).alloc (by simp) _, fun b hb => ?_⟩, ⟨?_, fun g e => ?_⟩, (Zb.new w rc t).below ((Below.refl _ _).alloc (Nat.le_refl _) _), by rw [upd_other _ _ (by omega)]⟩
  · rw [upd_other]
    simp at hb
    omega
  · have := World.ownsRow_lit (e := 5) (base := 0) (size := 1) (w.alloc (.cells rc t)) #[.int .u8 (x : Int)] 1 (Nat.zero_le _) (by unfold maxLen; omega) rfl
    rw [World.size_alloc] at this
    exact this
  · cases e
    exact upd_same _ _ _
theorem pl_nat {p : Pl} (h : okPl p) : ∃ a b : Nat, p = ((a : Int), b) ∧ a ≤ 4 ∧ b < 18446744073709551616 := by
  obtain ⟨⟨h1, h2⟩, h3⟩ := h
  refine ⟨p.1.toNat, p.2, ?_, by omega, by unfold M64 at h3; omega⟩
  obtain ⟨p1, p2⟩ := p
  dsimp only at h1 ⊢
  congr 1
  omega
theorem pd_nat {p : Pd} (h : okPd p) : ∃ a b c d e : Nat, p = ⟨(a : Int), b, (c : Int), (d : Int), (e : Int), p.le, p.gr⟩ ∧ a ≤ 4 ∧ b < 18446744073709551616 ∧ c ≤ 9223372036854775807 ∧ d ≤ 9223372036854775807 ∧ e ≤ 9223372036854775807 ∧ p.le.size ≤ 64 ∧ p.gr.size ≤ 64 := by
  obtain ⟨⟨⟨⟨h1, h2⟩, h3⟩, h4, h5, h6⟩, h7, h8⟩ := h
  obtain ⟨lv, no, we, by_, en, le, gr⟩ := p
  unfold okSz M63 at h4 h5 h6
  unfold M64 at h3
  dsimp only at h1 h2 h3 h4 h5 h6 h7 h8 ⊢
  refine ⟨lv.toNat, no, we.toNat, by_.toNat, en.toNat, ?_, by omega, by omega, by omega, by omega, by omega, h7, h8⟩
  congr 1 <;> omega
theorem flat2 (a b : Nat) : [a, b].flatMap num = num a ++ num b := by simp
theorem wrap_nat {n : Nat} (h : n ≤ 9223372036854775807) : IntKind.u64.wrap (n : Int) = (n : Int) := by rw [IntKind.wrap_u64]; omega
end Mnf
end Go.Proofs.YtjbnnhephagdmaaDoor
