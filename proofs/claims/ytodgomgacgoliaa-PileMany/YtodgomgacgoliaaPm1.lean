import Derived.Test.YtodgomgacgoliaaPp1
namespace Go.Proofs.Ytodgomgacgoliaa
namespace Hp
open Go.RowKit Laws Irw
set_option linter.unusedVariables false
set_option maxRecDepth 100000
set_option linter.unusedSimpArgs false

/-- What is known of one side of many. -/
structure SD where
  s : Nat
  h : Nat
  B : Nat
  b : Nat
  o : Int
  n : Nat
def SD.is (d : SD) (k : Nat) (T : Nat → Nat) (w : World) : Prop := SideIs (100 + 10 * k) T w d.s d.h d.B d.b d.o d.n
def ptrs (ds : List SD) : List Value := ds.map fun d => .pointer (some ⟨d.s, 0, none⟩)
/-- Many sides: the k-th one has the tags from 100 + 10 k on; the list of them has tag 5. -/
structure Many (w0 : World) (T : Nat → Nat) (w : World) (v : Value) (ds : List SD) (N : Nat) : Prop where
  sides : ∀ (k : Nat) (d : SD), ds[k]? = some d → d.is k T w ∧ d.n ≤ N
  list : w.ownsRow 0 23 1 v ds.length (ptrs ds)
  tag : ∀ g, v.ownBlock = some g → T g = 5
  old : Old w0 T w
theorem own_goes {u : Nat → Prop} {T T' : Nat → Nat} {w w' : World} {v : Value} {n : Nat} {xs : List Value} {e : TypeId} (h : w.ownsRow 0 e 1 v n xs) (ht : ∀ g, v.ownBlock = some g → T g = 5) (hg : Goes u T w T' w') (hu : ¬ u 5) : w'.ownsRow 0 e 1 v n xs ∧ ∀ g, v.ownBlock = some g → T' g = 5 := by
  have hlt := fun g hv => (h.lt g hv).2
  refine ⟨⟨h.1, ?_⟩, fun g hv => (hg.tag g (hlt g hv) (by rw [ht g hv]; exact hu)).trans (ht g hv)⟩
  rcases h.2 with h1 | ⟨g, cap, cur, hv, hb, hh, hr⟩
  · exact .inl h1
  · have hv' : v.ownBlock = some g := by rw [hv]; rfl
    exact .inr ⟨g, cap, cur, hv, hb, (hg.block g (hlt g hv') (by rw [ht g hv']; exact hu)).trans hh, hr⟩
theorem Many.goes {w0 : World} {u : Nat → Prop} {T T' : Nat → Nat} {w w' : World} {v : Value} {ds : List SD} {N : Nat} (p : Many w0 T w v ds N) (hg : Goes u T w T' w') (hu : ∀ x, u x → x = 6 ∨ 100 + 10 * ds.length < x) : Many w0 T' w' v ds N := by
  have h5 : ¬ u 5 := fun z => by have := hu 5 z; omega
  obtain ⟨k1, k2⟩ := own_goes p.list p.tag hg h5
  refine ⟨fun k d hd => ⟨(p.sides k d hd).1.goes hg (fun x a b z => ?_), (p.sides k d hd).2⟩, k1, k2, p.old.goes hg (fun z => by have := hu 0 z; omega)⟩
  have hk : k < ds.length := (List.getElem?_eq_some_iff.1 hd).1
  have := hu x z
  omega
theorem Many.below {w0 : World} {T : Nat → Nat} {w w' : World} {v : Value} {ds : List SD} {N : Nat} (p : Many w0 T w v ds N) (hb : Below w.heap.size w w') : Many w0 T w' v ds N := p.goes (Goes.below (t := fun _ => False) hb) (fun _ z => z.elim)
theorem Many.mono {w0 : World} {T : Nat → Nat} {w : World} {v : Value} {ds : List SD} {N N' : Nat} (p : Many w0 T w v ds N) (h : N ≤ N') : Many w0 T w v ds N' := ⟨fun k d hd => ⟨(p.sides k d hd).1, Nat.le_trans (p.sides k d hd).2 h⟩, p.list, p.tag, p.old⟩
/-- one of them plays -/
theorem Many.play {w0 : World} {T : Nat → Nat} {w : World} {v : Value} {ds : List SD} {N : Nat} (p : Many w0 T w v ds N) (hl : N ≤ 100000) (k : Nat) (d : SD) (hd : ds[k]? = some d) (kind x : Int) (sec : Bool) :
    Calls Try.prog 9 #[.pointer (some ⟨d.s, 0, none⟩), .agg #[.int .i64 kind, .int .i64 x, .bool sec]] w fun e w' => e = .returned (.bool true) ∧ Hid (∃ T' ds', Many w0 T' w' v ds' (N + 1) ∧ ds'.length = ds.length ∧ ptrs ds' = ptrs ds ∧ ∃ d', ds'[k]? = some d' ∧ d'.s = d.s) := by
  have hk : k < ds.length := (List.getElem?_eq_some_iff.1 hd).1
  obtain ⟨q1, q2⟩ := p.sides k d hd
  refine (plays_is (100 + 10 * k) T w d.s d.h d.B d.b d.o d.n kind x sec q1 (by omega) (fun g hg => p.old.zero g (.inr hg))).mono ?_
  rintro e w' ⟨rfl, T', k1, k2, k3⟩
  have hlen := lenOf_le kind d.n
  have h5 : ¬ mine (100 + 10 * k) 5 := fun z => by have := z.1; omega
  obtain ⟨r1, r2⟩ := own_goes p.list p.tag k2 h5
  have hp : ptrs (ds.set k { d with n := lenOf kind d.n }) = ptrs ds := by
    unfold ptrs
    rw [List.map_set]
    apply List.ext_getElem?
    intro i
    by_cases e : k = i
    · subst e
      rw [List.getElem?_set_self (by simpa using hk), List.getElem?_map, hd]
      rfl
    · rw [List.getElem?_set_ne e]
  refine ⟨rfl, T', ds.set k { d with n := lenOf kind d.n }, ⟨fun j d' hd' => ?_, by rw [hp, List.length_set]; exact r1, r2, p.old.goes k2 (fun z => by have := z.1; omega)⟩, by simp, hp, { d with n := lenOf kind d.n }, List.getElem?_set_self hk, rfl⟩
  by_cases e : k = j
  · subst e
    rw [List.getElem?_set_self hk] at hd'
    simp only [Option.some.injEq] at hd'
    subst hd'
    exact ⟨k1, by simp; omega⟩
  · rw [List.getElem?_set_ne e] at hd'
    have hj := p.sides j d' hd'
    exact ⟨hj.1.goes k2 (fun x a b z => by have := z.1; have := z.2; omega), by omega⟩
theorem Many.drain {w0 : World} {T : Nat → Nat} {w : World} {v : Value} {ds : List SD} {N : Nat} (p : Many w0 T w v ds N) (hl : N ≤ 100000) (k : Nat) (d : SD) (hd : ds[k]? = some d) :
    Calls Try.prog 10 #[.pointer (some ⟨d.s, 0, none⟩)] w fun e w' => e = .returned (.bool true) ∧ Hid (∃ T' ds', Many w0 T' w' v ds' N ∧ ds'.length = ds.length ∧ ptrs ds' = ptrs ds) := by
  have hk : k < ds.length := (List.getElem?_eq_some_iff.1 hd).1
  obtain ⟨q1, q2⟩ := p.sides k d hd
  refine (drains_is (100 + 10 * k) T w d.s d.h d.B d.b d.o d.n q1 (by omega) (fun g hg => p.old.zero g (.inr hg))).mono ?_
  rintro e w' ⟨rfl, T', k1, k2, k3⟩
  have h5 : ¬ mine (100 + 10 * k) 5 := fun z => by have := z.1; omega
  obtain ⟨r1, r2⟩ := own_goes p.list p.tag k2 h5
  have hp : ptrs (ds.set k { d with n := 0 }) = ptrs ds := by
    unfold ptrs
    rw [List.map_set]
    apply List.ext_getElem?
    intro i
    by_cases e : k = i
    · subst e
      rw [List.getElem?_set_self (by simpa using hk), List.getElem?_map, hd]
      rfl
    · rw [List.getElem?_set_ne e]
  refine ⟨rfl, T', ds.set k { d with n := 0 }, ⟨fun j d' hd' => ?_, by rw [hp, List.length_set]; exact r1, r2, p.old.goes k2 (fun z => by have := z.1; omega)⟩, by simp, hp⟩
  by_cases e : k = j
  · subst e
    rw [List.getElem?_set_self hk] at hd'
    simp only [Option.some.injEq] at hd'
    subst hd'
    exact ⟨k1, by simp⟩
  · rw [List.getElem?_set_ne e] at hd'
    have hj := p.sides j d' hd'
    exact ⟨hj.1.goes k2 (fun x a b z => by have := z.1; have := z.2; omega), hj.2⟩
/-- a pointer of the list, to be read -/
theorem Many.at_ {w0 : World} {T : Nat → Nat} {w : World} {g c n : Nat} {ds : List SD} {N : Nat} (p : Many w0 T w (.slice (some ⟨g, 0, none⟩) n c) ds N) (hn : n = ds.length) (k : Nat) (d : SD) (hd : ds[k]? = some d) : w.cell? ⟨g, k, none⟩ = some (.pointer (some ⟨d.s, 0, none⟩)) := by
  have hk : k < ds.length := (List.getElem?_eq_some_iff.1 hd).1
  have h := p.list
  subst hn
  rw [h.cellAt _ (by omega)]
  unfold ptrs
  rw [List.getElem?_map, hd]
  rfl

end Hp
end Go.Proofs.Ytodgomgacgoliaa
