import Derived.Test.YtodgomgacgoliaaBg4
namespace Go.Proofs.Ytodgomgacgoliaa
namespace Hp
open Go.RowKit Laws Irw
set_option linter.unusedVariables false
set_option maxRecDepth 100000
set_option linter.unusedSimpArgs false

/-- A side's own block. -/
structure SBlk (k : Nat) (T : Nat → Nat) (w : World) (s h b : Nat) (top : Int) (told : Bool) : Prop where
  tag : T s = k + 6
  lt : s < w.heap.size
  c0 : w.cell? ⟨s, 0, none⟩ = some (.pointer (some ⟨h, 0, none⟩))
  c1 : w.cell? ⟨s, 1, none⟩ = some (.pointer (some ⟨b, 0, none⟩))
  c2 : w.cell? ⟨s, 2, none⟩ = some (.int .i64 top)
  c3 : w.cell? ⟨s, 3, none⟩ = some (.bool told)
  f2 : w.frozen? ⟨s, 2, none⟩ = false
  f3 : w.frozen? ⟨s, 3, none⟩ = false
theorem SBlk.goes {k : Nat} {u : Nat → Prop} {T T' : Nat → Nat} {w w' : World} {s h b : Nat} {top : Int} {told : Bool} (p : SBlk k T w s h b top told) (hg : Goes u T w T' w') (hu : ¬ u (k + 6)) : SBlk k T' w' s h b top told := by
  have e : ¬ u (T s) := by rw [p.tag]; exact hu
  have hb := hg.block s p.lt e
  exact ⟨(hg.tag s p.lt e).trans p.tag, Nat.lt_of_lt_of_le p.lt hg.size, (hg.cell p.lt e).trans p.c0, (hg.cell p.lt e).trans p.c1, (hg.cell p.lt e).trans p.c2, (hg.cell p.lt e).trans p.c3, (World.frozen?_of_block (a := ⟨s, 2, none⟩) hb).trans p.f2, (World.frozen?_of_block (a := ⟨s, 3, none⟩) hb).trans p.f3⟩
theorem SBlk.told {k : Nat} {T : Nat → Nat} {w : World} {s h b : Nat} {top : Int} {told : Bool} (p : SBlk k T w s h b top told) (v : Bool) : SBlk k T (w.setCell ⟨s, 3, none⟩ (.bool v)) s h b top v ∧ Goes (· = k + 6) T w T (w.setCell ⟨s, 3, none⟩ (.bool v)) :=
  ⟨⟨p.tag, by simpa using p.lt, by rw [World.cell?_setCell_other _ _ _ _ (by simp)]; exact p.c0, by rw [World.cell?_setCell_other _ _ _ _ (by simp)]; exact p.c1, by rw [World.cell?_setCell_other _ _ _ _ (by simp)]; exact p.c2, World.cell?_setCell_same _ _ _ p.c3, by rw [World.frozen?_setCell]; exact p.f2, by rw [World.frozen?_setCell]; exact p.f3⟩, Goes.setCell (t := (· = k + 6)) (T := T) (p := s) p.tag⟩
theorem SBlk.top {k : Nat} {T : Nat → Nat} {w : World} {s h b : Nat} {top : Int} {told : Bool} (p : SBlk k T w s h b top told) (v : Int) : SBlk k T (w.setCell ⟨s, 2, none⟩ (.int .i64 v)) s h b v told ∧ Goes (· = k + 6) T w T (w.setCell ⟨s, 2, none⟩ (.int .i64 v)) :=
  ⟨⟨p.tag, by simpa using p.lt, by rw [World.cell?_setCell_other _ _ _ _ (by simp)]; exact p.c0, by rw [World.cell?_setCell_other _ _ _ _ (by simp)]; exact p.c1, World.cell?_setCell_same _ _ _ p.c2, by rw [World.cell?_setCell_other _ _ _ _ (by simp)]; exact p.c3, by rw [World.frozen?_setCell]; exact p.f2, by rw [World.frozen?_setCell]; exact p.f3⟩, Goes.setCell (t := (· = k + 6)) (T := T) (p := s) p.tag⟩

/-- A side: a heap, and what it holds. -/
structure SideAt (k : Nat) (T : Nat → Nat) (w : World) (s h B b : Nat) (o : Int) (l m : List Int) (top : Int) (told : Bool) : Prop where
  heap : HeapAt (k + 1) T w h 32 B o l
  bag : BagAt (k + 4) T w b o m
  blk : SBlk k T w s h b top told
  perm : l.Perm m
  heapy : Heapy (aheadF o) 0 l
  ok : told = true → 0 < l.length ∧ top = l.getD 0 0
def mine (k : Nat) : Nat → Prop := fun x => k < x ∧ x < k + 10
theorem SideAt.goes {k : Nat} {u : Nat → Prop} {T T' : Nat → Nat} {w w' : World} {s h B b : Nat} {o : Int} {l m : List Int} {top : Int} {told : Bool} (p : SideAt k T w s h B b o l m top told) (hg : Goes u T w T' w') (hu : ∀ x, k < x → x < k + 10 → ¬ u x) : SideAt k T' w' s h B b o l m top told :=
  ⟨p.heap.goes hg (hu _ (by omega) (by omega)) (hu _ (by omega) (by omega)) (hu _ (by omega) (by omega)), p.bag.goes hg (hu _ (by omega) (by omega)) (hu _ (by omega) (by omega)), p.blk.goes hg (hu _ (by omega) (by omega)), p.perm, p.heapy, p.ok⟩
theorem SideAt.below {k : Nat} {T : Nat → Nat} {w w' : World} {s h B b : Nat} {o : Int} {l m : List Int} {top : Int} {told : Bool} (p : SideAt k T w s h B b o l m top told) (hb : Below w.heap.size w w') : SideAt k T w' s h B b o l m top told := p.goes (Goes.below (t := fun _ => False) hb) (fun _ _ _ z => z)
theorem first_mem {l : List Int} (h : 0 < l.length) : l.getD 0 0 ∈ l := by
  have e : l.getD 0 0 = l[0] := by simp [h]
  rw [e]; exact List.getElem_mem h

set_option maxHeartbeats 2000000 in
theorem shows_none (k : Nat) (T : Nat → Nat) (w : World) (s h B b : Nat) (o : Int) (l : List Int) (top : Int) (told : Bool) (p : SideAt k T w s h B b o l [] top told) :
    Calls Try.prog 34 #[.pointer (some ⟨s, 0, none⟩), .int .i64 0, .bool false] w fun e w' => e = .returned (.bool true) ∧ w' = w := by
  have c1 := p.blk.c1
  obtain ⟨a, c, hc, _⟩ := p.bag.form
  clear p
  go_enter Try.func34, Try.ntmps34
  go_wp2
  go_ret
  exact ⟨rfl, rfl⟩
set_option maxHeartbeats 2000000 in
theorem shows_some (k : Nat) (T : Nat → Nat) (w : World) (s b : Nat) (o : Int) (m : List Int) (top : Int) (told : Bool) (h x : Int) (hh : Nat) (pb : BagAt (k + 4) T w b o m) (pk : SBlk k T w s hh b top told) (hx : x ∈ m) (ha : ∀ y ∈ m, aheadF o y x = false) (ht : told = true → top = x) (hl : m.length ≤ 100000000000) :
    Calls Try.prog 34 #[.pointer (some ⟨s, 0, none⟩), .int .i64 x, .bool true] w fun e w' => e = .returned (.bool true) ∧ Below w.heap.size w w' := by
  have c1 := pk.c1
  have c2 := pk.c2
  have c3 := pk.c3
  have HLE : Hid (Calls Try.prog 47 #[.pointer (some ⟨b, 0, none⟩), .int .i64 x] w fun e w' => e = .returned (.bool true) ∧ Below w.heap.size w w') := least_any (k + 4) T w b o m x pb hx ha hl
  clear pb pk ha hx
  cases told with
  | false =>
    clear ht
    go_enter Try.func34, Try.ntmps34
    go_wp2_with (go_at_call 47; refine HLE.out.mono ?_; rintro e w9 ⟨rfl, hb9⟩)
    go_ret
    exact ⟨rfl, hb9⟩
  | true =>
    have e := ht rfl
    subst e
    clear ht
    go_enter Try.func34, Try.ntmps34
    go_wp2_with (go_at_call 47; refine HLE.out.mono ?_; rintro e w9 ⟨rfl, hb9⟩)
    go_ret
    exact ⟨rfl, hb9⟩

end Hp
end Go.Proofs.Ytodgomgacgoliaa
