import Derived.Test.YtpappjcbeibhiaaEp5
import Derived.Lib.SliceRun
namespace Go.Proofs.Ytpappjcbeibhiaa
namespace Ehp
open Go.RowKit Laws Irw Erw
open Hp (swp swp_length swp_perm Ord Heapy Up Dn fore fore1 fore_lt fore_ge goes_drew goes_drewN above_any below_drewN)
set_option linter.unusedVariables false
set_option maxRecDepth 100000
set_option linter.unusedSimpArgs false

theorem isE_new {w : World} {x : En} {u : TypeId} : IsE (w.alloc (.cells #[.string x.1, .int .u64 x.2.1, .bool x.2.2.1, .string x.2.2.2] u)) (some ⟨w.heap.size, 0, none⟩) [x] := by
  refine IsE.of ⟨by simp, fun i z hz => ?_⟩
  cases i with
  | zero => simp at hz; subst hz; refine ⟨?_, ?_, ?_, ?_⟩ <;> (rw [World.cell?_alloc_at _ _ _ _ rfl]; rfl)
  | succ i => simp at hz

/-- A heap that lies: tag t is itself, t + 1 its things, t + 2 what its less has captured. -/
structure HeapE (t : Nat) (T : Nat → Nat) (w : World) (h B : Nat) (o : Bool) (l : List En) : Prop where
  tag : T h = t
  dirs : DirsE (t + 1) T w h B o
  tagB : T B = t + 2
  free : w.frozen? ⟨h, 1, none⟩ = false
  at_ : ∃ v, w.cell? ⟨h, 1, none⟩ = some v ∧ OwnE (t + 1) T w v l
theorem HeapE.goes {t : Nat} {u : Nat → Prop} {T T' : Nat → Nat} {w w' : World} {h B : Nat} {o : Bool} {l : List En} (p : HeapE t T w h B o l) (hg : Goes u T w T' w') (h1 : ¬ u t) (h2 : ¬ u (t + 1)) (h3 : ¬ u (t + 2)) : HeapE t T' w' h B o l := by
  have e1 : ¬ u (T h) := by rw [p.tag]; exact h1
  have e2 : ¬ u (T B) := by rw [p.tagB]; exact h3
  have hb := hg.block h p.dirs.dir.lth e1
  obtain ⟨v, hv, ho⟩ := p.at_
  have t1 := hg.tag h p.dirs.dir.lth e1
  have t2 := hg.tag B p.dirs.dir.ltB e2
  exact ⟨t1.trans p.tag, ⟨⟨(hg.cell p.dirs.dir.lth e1).trans p.dirs.dir.less, (hg.cell p.dirs.dir.ltB e2).trans p.dirs.dir.cap, Nat.lt_of_lt_of_le p.dirs.dir.lth hg.size, Nat.lt_of_lt_of_le p.dirs.dir.ltB hg.size⟩, by rw [t1]; exact p.dirs.tagh, by rw [t2]; exact p.dirs.tagB⟩, t2.trans p.tagB, (World.frozen?_of_block (a := ⟨h, 1, none⟩) hb).trans p.free, v, (hg.cell p.dirs.dir.lth e1).trans hv, ho.goes hg h2⟩
theorem HeapE.below {t : Nat} {T : Nat → Nat} {w w' : World} {h B : Nat} {o : Bool} {l : List En} (p : HeapE t T w h B o l) (hb : Below w.heap.size w w') : HeapE t T w' h B o l := p.goes (Goes.below (t := fun _ => False) hb) (fun z => z) (fun z => z) (fun z => z)
theorem HeapE.put {t : Nat} {T T' : Nat → Nat} {w w' : World} {h B : Nat} {o : Bool} {l l' : List En} {v : Value} (p : HeapE t T w h B o l) (hg : Goes (· = t + 1) T w T' w') (ho : OwnE (t + 1) T' w' v l') :
    HeapE t T' (w'.setCell ⟨h, 1, none⟩ v) h B o l' ∧ Goes (fun x => x = t ∨ x = t + 1) T w T' (w'.setCell ⟨h, 1, none⟩ v) := by
  have e1 : ¬ (T h = t + 1) := by rw [p.tag]; omega
  have e2 : ¬ (T B = t + 1) := by rw [p.tagB]; omega
  have hT : T' h = t := (hg.tag h p.dirs.dir.lth e1).trans p.tag
  have hTB : T' B = t + 2 := (hg.tag B p.dirs.dir.ltB e2).trans p.tagB
  have hb := hg.block h p.dirs.dir.lth e1
  obtain ⟨v0, hv0, _⟩ := p.at_
  have hc : w'.cell? ⟨h, 1, none⟩ = some v0 := (hg.cell p.dirs.dir.lth e1).trans hv0
  have hs : Goes (· = t) T' w' T' (w'.setCell ⟨h, 1, none⟩ v) := Goes.setCell hT
  have hl : h < w'.heap.size := Nat.lt_of_lt_of_le p.dirs.dir.lth hg.size
  have hlB : B < w'.heap.size := Nat.lt_of_lt_of_le p.dirs.dir.ltB hg.size
  refine ⟨⟨hT, ⟨⟨?_, ?_, by simpa using hl, by simpa using hlB⟩, by omega, by omega⟩, hTB, ?_, v, World.cell?_setCell_same _ _ _ hc, ho.goes hs (by omega)⟩, (hg.mono fun x hx => .inr hx).trans (hs.mono fun x hx => .inl hx)⟩
  · rw [World.cell?_setCell_other _ _ _ _ (by simp)]
    exact (hg.cell p.dirs.dir.lth e1).trans p.dirs.dir.less
  · rw [hs.cell hlB (by rw [hTB]; omega)]
    exact (hg.cell p.dirs.dir.ltB e2).trans p.dirs.dir.cap
  · rw [World.frozen?_setCell]
    exact (World.frozen?_of_block (a := ⟨h, 1, none⟩) hb).trans p.free
/-- its things have turned in place -/
theorem HeapE.turn {t : Nat} {T : Nat → Nat} {w w' : World} {h B : Nat} {o : Bool} {l l' : List En} {v : Value} (p : HeapE t T w h B o l) (hv : w.cell? ⟨h, 1, none⟩ = some v) (hg : Goes (· = t + 1) T w T w') (ho : OwnE (t + 1) T w' v l') : HeapE t T w' h B o l' := by
  have e1 : ¬ (T h = t + 1) := by rw [p.tag]; omega
  exact ⟨p.tag, p.dirs.goes hg, p.tagB, (World.frozen?_of_block (a := ⟨h, 1, none⟩) (hg.block h p.dirs.dir.lth e1)).trans p.free, v, (hg.cell p.dirs.dir.lth e1).trans hv, ho⟩
theorem HeapE.form {t : Nat} {T : Nat → Nat} {w : World} {h B : Nat} {o : Bool} {l : List En} (p : HeapE t T w h B o l) : ∃ a c, w.cell? ⟨h, 1, none⟩ = some (.slice a l.length c) ∧ OwnE (t + 1) T w (.slice a l.length c) l ∧ IsE w a l ∧ l.length ≤ c ∧ (a = none → c = 0) := by
  obtain ⟨v, hv, ho⟩ := p.at_
  obtain ⟨a, c, rfl, h1, h2, h3⟩ := ho.form
  exact ⟨a, c, hv, ho, h1, h2, h3⟩
/-- NEW: a heap of nothing. -/
theorem newE_any (T : Nat → Nat) (w : World) (B : Nat) (o : Bool) (t : Nat) (hB : B < w.heap.size) (hT : T B = t + 2) (hc : w.cell? ⟨B, 0, none⟩ = some (.bool o)) :
    Calls Try.prog 5 #[.func (.func 6) #[] #[.pointer (some ⟨B, 0, none⟩)]] w fun e w' => e = .returned (.pointer (some ⟨w.heap.size, 0, none⟩)) ∧ HeapE t (upd T w.heap.size t) w' w.heap.size B o [] ∧ Below w.heap.size w w' := by
  go_enter Try.func5, Try.ntmps5
  go_wp2
  go_ret
  have hne : B ≠ w.heap.size := by omega
  refine ⟨rfl, ⟨upd_same _ _ _, ⟨⟨by simp, ?_, by simp, by simp; omega⟩, by rw [upd_same]; omega, by rw [upd_other _ _ hne, hT]; omega⟩, by rw [upd_other _ _ hne, hT], by simp, .slice none 0 0, by simp, OwnE.empty _ _ _⟩, (Below.refl _ _).alloc (Nat.le_refl _) _⟩
  rw [World.cell?_alloc_past _ _ _ (by simpa using hB)]
  exact hc

/-- LEN. -/
theorem lenE_any (t : Nat) (T : Nat → Nat) (w : World) (h B : Nat) (o : Bool) (l : List En) (p : HeapE t T w h B o l) :
    Calls Try.prog 10 #[.pointer (some ⟨h, 0, none⟩)] w fun e w' => e = .returned (.int .i64 (l.length : Int)) ∧ w' = w := by
  obtain ⟨a, c, hc, _, hi, _, _⟩ := p.form
  clear p
  go_enter Try.func10, Try.ntmps10
  go_wp2
  go_ret
  exact ⟨rfl, rfl⟩

def PushIs (f : En → En → Bool) (t : Nat) (T : Nat → Nat) (w : World) (h B : Nat) (o : Bool) (l : List En) (x : En) (w' : World) : Prop :=
  ∃ T' l', HeapE t T' w' h B o l' ∧ Goes (fun x => x = t ∨ x = t + 1) T w T' w' ∧ l'.Perm (l ++ [x]) ∧ (Ord f → Heapy f ez l → Heapy f ez l')


end Ehp
end Go.Proofs.Ytpappjcbeibhiaa
