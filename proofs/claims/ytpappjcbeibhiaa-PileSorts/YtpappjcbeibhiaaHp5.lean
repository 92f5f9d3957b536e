import Derived.Test.YtpappjcbeibhiaaHp4
import Derived.Lib.SliceRun
namespace Go.Proofs.Ytpappjcbeibhiaa
namespace Hp
open Go.RowKit Laws Irw
set_option linter.unusedVariables false
set_option maxRecDepth 100000
set_option linter.unusedSimpArgs false

theorem infoI : (Try.prog.info? 3).map (fun i => (i.zero, i.size, i.bytes)) = some (some (.int .i64 0), 1, 8) := by kernel_rfl
theorem isI_new {w : World} {x : Int} {u : TypeId} : IsI (w.alloc (.cells #[.int .i64 x] u)) (some ⟨w.heap.size, 0, none⟩) [x] := by
  refine IsI.of ⟨by simp, fun i z hz => ?_⟩
  rw [World.cell?_alloc_at _ _ _ _ rfl]
  cases i with
  | zero => simp at hz; subst hz; rfl
  | succ i => simp at hz

/-- A heap that lies: tag t is itself, t + 1 its things, t + 2 what its less has captured. -/
structure HeapAt (t : Nat) (T : Nat → Nat) (w : World) (h g B : Nat) (o : Int) (l : List Int) : Prop where
  tag : T h = t
  dirs : Dirs (t + 1) T w h g B o
  tagB : T B = t + 2
  free : w.frozen? ⟨h, 1, none⟩ = false
  at_ : ∃ v, w.cell? ⟨h, 1, none⟩ = some v ∧ OwnL (t + 1) T w v l
theorem HeapAt.goes {t : Nat} {u : Nat → Prop} {T T' : Nat → Nat} {w w' : World} {h g B : Nat} {o : Int} {l : List Int} (p : HeapAt t T w h g B o l) (hg : Goes u T w T' w') (h1 : ¬ u t) (h2 : ¬ u (t + 1)) (h3 : ¬ u (t + 2)) : HeapAt t T' w' h g B o l := by
  have e1 : ¬ u (T h) := by rw [p.tag]; exact h1
  have e2 : ¬ u (T B) := by rw [p.tagB]; exact h3
  have hb := hg.block h p.dirs.lth e1
  obtain ⟨v, hv, ho⟩ := p.at_
  have t1 := hg.tag h p.dirs.lth e1
  have t2 := hg.tag B p.dirs.ltB e2
  exact ⟨t1.trans p.tag, ⟨⟨(hg.cell p.dirs.lth e1).trans p.dirs.dir.less, (hg.cell p.dirs.ltB e2).trans p.dirs.dir.cap⟩, Nat.lt_of_lt_of_le p.dirs.lth hg.size, by rw [t1]; exact p.dirs.tagh, Nat.lt_of_lt_of_le p.dirs.ltB hg.size, by rw [t2]; exact p.dirs.tagB⟩, t2.trans p.tagB, (World.frozen?_of_block (a := ⟨h, 1, none⟩) hb).trans p.free, v, (hg.cell p.dirs.lth e1).trans hv, ho.goes hg h2⟩
theorem HeapAt.below {t : Nat} {T : Nat → Nat} {w w' : World} {h g B : Nat} {o : Int} {l : List Int} (p : HeapAt t T w h g B o l) (hb : Below w.heap.size w w') : HeapAt t T w' h g B o l := p.goes (Goes.below (t := fun _ => False) hb) (fun z => z) (fun z => z) (fun z => z)
theorem HeapAt.put {t : Nat} {T T' : Nat → Nat} {w w' : World} {h g B : Nat} {o : Int} {l l' : List Int} {v : Value} (p : HeapAt t T w h g B o l) (hg : Goes (· = t + 1) T w T' w') (ho : OwnL (t + 1) T' w' v l') :
    HeapAt t T' (w'.setCell ⟨h, 1, none⟩ v) h g B o l' ∧ Goes (fun x => x = t ∨ x = t + 1) T w T' (w'.setCell ⟨h, 1, none⟩ v) := by
  have e1 : ¬ (T h = t + 1) := by rw [p.tag]; omega
  have e2 : ¬ (T B = t + 1) := by rw [p.tagB]; omega
  have hT : T' h = t := (hg.tag h p.dirs.lth e1).trans p.tag
  have hTB : T' B = t + 2 := (hg.tag B p.dirs.ltB e2).trans p.tagB
  have hb := hg.block h p.dirs.lth e1
  obtain ⟨v0, hv0, _⟩ := p.at_
  have hc : w'.cell? ⟨h, 1, none⟩ = some v0 := (hg.cell p.dirs.lth e1).trans hv0
  have hs : Goes (· = t) T' w' T' (w'.setCell ⟨h, 1, none⟩ v) := Goes.setCell hT
  have hl : h < w'.heap.size := Nat.lt_of_lt_of_le p.dirs.lth hg.size
  have hlB : B < w'.heap.size := Nat.lt_of_lt_of_le p.dirs.ltB hg.size
  refine ⟨⟨hT, ⟨⟨?_, ?_⟩, by simpa using hl, by omega, by simpa using hlB, by omega⟩, hTB, ?_, v, World.cell?_setCell_same _ _ _ hc, ho.goes hs (by omega)⟩, (hg.mono fun x hx => .inr hx).trans (hs.mono fun x hx => .inl hx)⟩
  · rw [World.cell?_setCell_other _ _ _ _ (by simp)]
    exact (hg.cell p.dirs.lth e1).trans p.dirs.dir.less
  · rw [hs.cell hlB (by rw [hTB]; omega)]
    exact (hg.cell p.dirs.ltB e2).trans p.dirs.dir.cap
  · rw [World.frozen?_setCell]
    exact (World.frozen?_of_block (a := ⟨h, 1, none⟩) hb).trans p.free
/-- its things have turned in place -/
theorem HeapAt.turn {t : Nat} {T : Nat → Nat} {w w' : World} {h g B : Nat} {o : Int} {l l' : List Int} {v : Value} (p : HeapAt t T w h g B o l) (hv : w.cell? ⟨h, 1, none⟩ = some v) (hg : Goes (· = t + 1) T w T w') (ho : OwnL (t + 1) T w' v l') : HeapAt t T w' h g B o l' := by
  have e1 : ¬ (T h = t + 1) := by rw [p.tag]; omega
  exact ⟨p.tag, p.dirs.goes hg, p.tagB, (World.frozen?_of_block (a := ⟨h, 1, none⟩) (hg.block h p.dirs.lth e1)).trans p.free, v, (hg.cell p.dirs.lth e1).trans hv, ho⟩
theorem HeapAt.form {t : Nat} {T : Nat → Nat} {w : World} {h g B : Nat} {o : Int} {l : List Int} (p : HeapAt t T w h g B o l) : ∃ a c, w.cell? ⟨h, 1, none⟩ = some (.slice a l.length c) ∧ OwnL (t + 1) T w (.slice a l.length c) l ∧ IsI w a l ∧ l.length ≤ c ∧ (a = none → c = 0) := by
  obtain ⟨v, hv, ho⟩ := p.at_
  obtain ⟨a, c, rfl, h1, h2, h3, _⟩ := ho.form
  exact ⟨a, c, hv, ho, h1, h2, h3⟩
theorem OwnL.some {t : Nat} {T : Nat → Nat} {w : World} {a : Option Addr} {n c : Nat} {l : List Int} (h : OwnL t T w (.slice a n c) l) (h0 : 0 < l.length) : ∃ g, a = Option.some ⟨g, 0, none⟩ := by
  rcases h.1.2 with ⟨h1, h2⟩ | ⟨g, cap, cur, hv, _⟩
  · omega
  · simp only [Value.slice.injEq] at hv
    exact ⟨g, hv.1⟩

/-- NEW: a heap of nothing. -/
theorem new_any (T : Nat → Nat) (w : World) (g B : Nat) (o : Int) (t : Nat) (hB : B < w.heap.size) (hT : T B = t + 2) (hc : w.cell? ⟨B, 0, none⟩ = some (.int .i64 o)) :
    Calls Try.prog 20 #[.func (.func g) #[] #[.pointer (some ⟨B, 0, none⟩)]] w fun e w' => e = .returned (.pointer (some ⟨w.heap.size, 0, none⟩)) ∧ HeapAt t (upd T w.heap.size t) w' w.heap.size g B o [] ∧ Below w.heap.size w w' := by
  go_enter Try.func20, Try.ntmps20
  go_wp2
  go_ret
  have hne : B ≠ w.heap.size := by omega
  refine ⟨rfl, ⟨upd_same _ _ _, ⟨⟨by simp, ?_⟩, by simp, by rw [upd_same]; omega, by simp; omega, by rw [upd_other _ _ hne, hT]; omega⟩, by rw [upd_other _ _ hne, hT], by simp, .slice none 0 0, by simp, OwnL.nil _ _ _⟩, (Below.refl _ _).alloc (Nat.le_refl _) _⟩
  rw [World.cell?_alloc_past _ _ _ (by simpa using hB)]
  exact hc

/-- TOP. -/
theorem top_any (t : Nat) (T : Nat → Nat) (w : World) (h g B : Nat) (o : Int) (l : List Int) (p : HeapAt t T w h g B o l) (hlen : l.length ≤ 1000000000000) :
    Calls Try.prog 13 #[.pointer (some ⟨h, 0, none⟩)] w fun e w' => e = .returned (.tuple #[.int .i64 (l.getD 0 0), .bool (decide (0 < l.length))]) ∧ w' = w := by
  obtain ⟨a, c, hc, _, hi, _, _⟩ := p.form
  clear p
  by_cases h0 : l = []
  · subst h0
    go_enter Try.func13, Try.ntmps13
    go_wp2
    go_ret2
    exact ⟨by simp, rfl⟩
  · obtain ⟨b, off, rfl, hr⟩ := hi h0
    have hp : 0 < l.length := List.length_pos_iff.2 h0
    have c0 : w.cell? ⟨b, off, none⟩ = some (.int .i64 (l.getD 0 0)) := by have := hr.cell hp; simpa using this
    have q1 : ¬ (l.length : Int) = 0 := by omega
    have q2 : (0 : Int) < l.length := by omega
    generalize l.getD 0 0 = y at *
    go_enter Try.func13, Try.ntmps13
    go_wp2
    go_ret2
    exact ⟨by simp [hp], rfl⟩
/-- LEN. -/
theorem len_any (t : Nat) (T : Nat → Nat) (w : World) (h g B : Nat) (o : Int) (l : List Int) (p : HeapAt t T w h g B o l) :
    Calls Try.prog 14 #[.pointer (some ⟨h, 0, none⟩)] w fun e w' => e = .returned (.int .i64 (l.length : Int)) ∧ w' = w := by
  obtain ⟨a, c, hc, _, hi, _, _⟩ := p.form
  clear p
  go_enter Try.func14, Try.ntmps14
  go_wp2
  go_ret
  exact ⟨rfl, rfl⟩

def PushIs (f : Int → Int → Bool) (t : Nat) (T : Nat → Nat) (w : World) (h g B : Nat) (o : Int) (l : List Int) (x : Int) (w' : World) : Prop :=
  ∃ T' l', HeapAt t T' w' h g B o l' ∧ Goes (fun x => x = t ∨ x = t + 1) T w T' w' ∧ l'.Perm (l ++ [x]) ∧ (Ord f → Heapy f 0 l → Heapy f 0 l')

set_option maxHeartbeats 2000000 in
/-- PUSH. -/
theorem push_any {f : Int → Int → Int → Bool} (t : Nat) (T : Nat → Nat) (w : World) (h g B : Nat) (o : Int) (l : List Int) (x : Int) (hL : Less g f) (p : HeapAt t T w h g B o l) (hlen : l.length ≤ 10000000000) :
    Calls Try.prog 12 #[.pointer (some ⟨h, 0, none⟩), .int .i64 x] w fun e w' => e = .returned (.tuple #[]) ∧ PushIs (f o) t T w h g B o l x w' := by
  obtain ⟨i0, hi0, hz0, hz1, hz2⟩ := info_parts infoI
  obtain ⟨a, c, hc, ho, hi, _, hn⟩ := p.form
  have HP : Hid (HeapAt t T w h g B o l) := p
  have HO : Hid (OwnL (t + 1) T w (.slice a l.length c) l) := ho
  have HL : Hid (Less g f) := hL
  have hlt := p.dirs.lth
  have hf := p.free
  have hmf : ∀ (fn : Fn) (first cap : Array Value) (w : World), (Instr.makeFunc fn first cap).run Try.prog w = .ok (.func fn first cap) w := fun _ _ _ _ => rfl
  clear p ho hL
  go_enter Try.func12, Try.ntmps12
  go_wp2_with (first
    | (at_builtin; refine wpList_appL _ (by rfl) (.tmp 8) (.tmp 10) 38 (by rfl) i0 Try.underlying38 hi0 hz0 hz1 hz2 (t + 1) T (.slice a l.length c) l (by rfl) (HO.out.below ((Below.refl _ _).alloc (Nat.le_refl _) _)) (some ⟨w.heap.size, 0, none⟩) 1 1 [x] (by rfl) (by rfl) (by simp) isI_new (by simp; omega) ?_; intro a7 c7 T7 w7 hown7 hgo7 hat7; obtain ⟨gl, rfl⟩ := OwnL.some hown7 (by simp); have hg' : Goes (· = t + 1) T w T7 w7 := (Goes.below ((Below.refl _ _).alloc (Nat.le_refl _) _)).trans hgo7; have hfin : Hid (HeapAt t T7 (w7.setCell ⟨h, 1, none⟩ (.slice (some ⟨gl, 0, none⟩) (l.length + 1) c7)) h g B o (l ++ [x]) ∧ Goes (fun x => x = t ∨ x = t + 1) T w T7 (w7.setCell ⟨h, 1, none⟩ (.slice (some ⟨gl, 0, none⟩) (l.length + 1) c7))) := HP.out.put hg' hown7; have hc7 : ∃ v0, w7.cell? ⟨h, 1, none⟩ = some v0 := ⟨_, (hg'.cell hlt (by rw [HP.out.tag]; omega)).trans hc⟩; obtain ⟨v0, hc7⟩ := hc7; have hf7 : w7.frozen? ⟨h, 1, none⟩ = false := (World.frozen?_of_block (a := ⟨h, 1, none⟩) (hg'.block h hlt (by rw [HP.out.tag]; omega))).trans hf; clear hg' hown7 hgo7 hat7)
    | (go_at_call 23; go_loud (obtain ⟨a8, c8, hc8, ho8, _⟩ := hfin.out.1.form; have hc9 : some (Value.slice a8 (l ++ [x]).length c8) = some (Value.slice (some ⟨gl, 0, none⟩) (l.length + 1) c7) := hc8.symm.trans (World.cell?_setCell_same _ _ _ hc7); simp only [Option.some.injEq, Value.slice.injEq] at hc9; obtain ⟨rfl, hcl, rfl⟩ := hc9; rw [hcl] at ho8 hc8; refine (rise_any (t + 1) T7 _ h g B o HL.out hfin.out.1.dirs gl (l.length + 1) c8 (l ++ [x]) ho8 hcl.symm (by simp) (by rw [hcl]; omega)).mono ?_; rintro e w9 ⟨rfl, l9, k1, k2, k3, k4⟩; have HF9 : Hid (PushIs (f o) t T w h g B o l x w9) := ⟨T7, l9, hfin.out.1.turn hc8 k2 k1, hfin.out.2.trans (k2.mono fun x hx => .inr hx), k3, fun ho hh => k4 ho (by have := Up.push hh x; rw [hcl]; exact this)⟩; clear k1 k2 k3 k4 ho8 hc8 hcl)))
  go_end0
  exact ⟨rfl, HF9.out⟩

end Hp
end Go.Proofs.Ytpappjcbeibhiaa
