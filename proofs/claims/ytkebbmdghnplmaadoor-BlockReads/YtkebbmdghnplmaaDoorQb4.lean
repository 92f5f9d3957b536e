import Derived.Test.YtkebbmdghnplmaaDoorQb3
import Derived.Deep.RegionHeld3
import Derived.Lib.SmallJoins
namespace Go.Proofs.YtkebbmdghnplmaaDoor
namespace Qb
open Go.RowKit CMath Byt Laws Irw Crw Cod
set_option linter.unusedVariables false
set_option linter.unusedSimpArgs false
set_option maxRecDepth 20000

/-- The tags of a maker. -/
def Mk (t : Nat) : Nat → Prop := fun x => x = t ∨ x = t + 1 ∨ x = t + 2
/-- A maker as it lies: tag t itself, t + 1 its entries, t + 2 its places. -/
structure MakerAt (t : Nat) (T : Nat → Nat) (w : World) (M : Nat) (r : Int) (S : St) : Prop where
  lt : M < w.heap.size
  tag : T M = t
  c0 : w.cell? ⟨M, 0, none⟩ = some (.int .i64 r)
  c1 : w.cell? ⟨M, 1, none⟩ = some (.int .i64 (S.n : Int))
  c2 : w.cell? ⟨M, 2, none⟩ = some (.string S.last)
  c3 : ∃ v, w.cell? ⟨M, 3, none⟩ = some v ∧ OwnB (t + 1) T w v S.b
  c4 : ∃ v, w.cell? ⟨M, 4, none⟩ = some v ∧ OwnB (t + 2) T w v S.p
  fz : ∀ j, w.frozen? ⟨M, j, none⟩ = false
  last : S.last.size ≤ 64
theorem MakerAt.goes {t : Nat} {u : Nat → Prop} {T T' : Nat → Nat} {w w' : World} {M : Nat} {r : Int} {S : St} (p : MakerAt t T w M r S) (hg : Goes u T w T' w') (h0 : ¬ u t) (h1 : ¬ u (t + 1)) (h2 : ¬ u (t + 2)) : MakerAt t T' w' M r S := by
  have e : ¬ u (T M) := by rw [p.tag]; exact h0
  obtain ⟨v3, hv3, ho3⟩ := p.c3
  obtain ⟨v4, hv4, ho4⟩ := p.c4
  exact ⟨Nat.lt_of_lt_of_le p.lt hg.size, (hg.tag M p.lt e).trans p.tag, (hg.cell p.lt e).trans p.c0, (hg.cell p.lt e).trans p.c1, (hg.cell p.lt e).trans p.c2, ⟨v3, (hg.cell p.lt e).trans hv3, ho3.goes hg h1⟩, ⟨v4, (hg.cell p.lt e).trans hv4, ho4.goes hg h2⟩, fun j => (World.frozen?_of_block (a := ⟨M, j, none⟩) (hg.block M p.lt e)).trans (p.fz j), p.last⟩
theorem MakerAt.below {t : Nat} {T : Nat → Nat} {w w' : World} {M : Nat} {r : Int} {S : St} (p : MakerAt t T w M r S) (hb : Below w.heap.size w w') : MakerAt t T w' M r S := p.goes (Goes.below (t := fun _ => False) hb) (fun z => z) (fun z => z) (fun z => z)
theorem MakerAt.form {t : Nat} {T : Nat → Nat} {w : World} {M : Nat} {r : Int} {S : St} (p : MakerAt t T w M r S) : ∃ a c a' c', w.cell? ⟨M, 3, none⟩ = some (.slice a S.b.length c) ∧ OwnB (t + 1) T w (.slice a S.b.length c) S.b ∧ w.cell? ⟨M, 4, none⟩ = some (.slice a' S.p.length c') ∧ OwnB (t + 2) T w (.slice a' S.p.length c') S.p := by
  obtain ⟨v3, hv3, ho3⟩ := p.c3
  obtain ⟨v4, hv4, ho4⟩ := p.c4
  obtain ⟨a, c, rfl, _⟩ := ho3.form
  obtain ⟨a', c', rfl, _⟩ := ho4.form
  exact ⟨a, c, a', c', hv3, ho3, hv4, ho4⟩
theorem MakerAt.set3 {t : Nat} {T T' : Nat → Nat} {w w' : World} {M : Nat} {r : Int} {S : St} {v : Value} {l : List Nat} (p : MakerAt t T w M r S) (hg : Goes (· = t + 1) T w T' w') (ho : OwnB (t + 1) T' w' v l) :
    MakerAt t T' (w'.setCell ⟨M, 3, none⟩ v) M r ⟨l, S.p, S.n, S.last⟩ ∧ Goes (Mk t) T w T' (w'.setCell ⟨M, 3, none⟩ v) := by
  have e : ¬ ((T M) = t + 1) := by rw [p.tag]; omega
  have hT : T' M = t := (hg.tag M p.lt e).trans p.tag
  have hl : M < w'.heap.size := Nat.lt_of_lt_of_le p.lt hg.size
  have hc : ∀ i, w'.cell? ⟨M, i, none⟩ = w.cell? ⟨M, i, none⟩ := fun i => hg.cell p.lt e
  have hs : Goes (· = t) T' w' T' (w'.setCell ⟨M, 3, none⟩ v) := Goes.setCell hT
  obtain ⟨v3, hv3, ho3⟩ := p.c3
  obtain ⟨v4, hv4, ho4⟩ := p.c4
  have hof : ∀ i, i ≠ 3 → (w'.setCell ⟨M, 3, none⟩ v).cell? ⟨M, i, none⟩ = w.cell? ⟨M, i, none⟩ := fun i hi => (World.cell?_setCell_other _ _ _ _ (by intro h; exact hi (congrArg Addr.off h).symm)).trans (hc i)
  have hfz : ∀ i, (w'.setCell ⟨M, 3, none⟩ v).frozen? ⟨M, i, none⟩ = false := fun i => by rw [World.frozen?_setCell]; exact (World.frozen?_of_block (a := ⟨M, i, none⟩) (hg.block M p.lt e)).trans (p.fz i)
  exact ⟨⟨by simpa using hl, hT, (hof 0 (by omega)).trans p.c0, (hof 1 (by omega)).trans p.c1, (hof 2 (by omega)).trans p.c2, ⟨_, World.cell?_setCell_same _ _ _ ((hc 3).trans hv3), ho.goes hs (by omega)⟩, ⟨v4, (hof 4 (by omega)).trans hv4, (ho4.goes hg (by omega)).goes hs (by omega)⟩, hfz, p.last⟩, (hg.mono fun x hx => .inr (.inl hx)).trans (hs.mono fun x hx => .inl hx)⟩
theorem MakerAt.set4 {t : Nat} {T T' : Nat → Nat} {w w' : World} {M : Nat} {r : Int} {S : St} {v : Value} {l : List Nat} (p : MakerAt t T w M r S) (hg : Goes (· = t + 2) T w T' w') (ho : OwnB (t + 2) T' w' v l) :
    MakerAt t T' (w'.setCell ⟨M, 4, none⟩ v) M r ⟨S.b, l, S.n, S.last⟩ ∧ Goes (Mk t) T w T' (w'.setCell ⟨M, 4, none⟩ v) := by
  have e : ¬ ((T M) = t + 2) := by rw [p.tag]; omega
  have hT : T' M = t := (hg.tag M p.lt e).trans p.tag
  have hl : M < w'.heap.size := Nat.lt_of_lt_of_le p.lt hg.size
  have hc : ∀ i, w'.cell? ⟨M, i, none⟩ = w.cell? ⟨M, i, none⟩ := fun i => hg.cell p.lt e
  have hs : Goes (· = t) T' w' T' (w'.setCell ⟨M, 4, none⟩ v) := Goes.setCell hT
  obtain ⟨v3, hv3, ho3⟩ := p.c3
  obtain ⟨v4, hv4, ho4⟩ := p.c4
  have hof : ∀ i, i ≠ 4 → (w'.setCell ⟨M, 4, none⟩ v).cell? ⟨M, i, none⟩ = w.cell? ⟨M, i, none⟩ := fun i hi => (World.cell?_setCell_other _ _ _ _ (by intro h; exact hi (congrArg Addr.off h).symm)).trans (hc i)
  have hfz : ∀ i, (w'.setCell ⟨M, 4, none⟩ v).frozen? ⟨M, i, none⟩ = false := fun i => by rw [World.frozen?_setCell]; exact (World.frozen?_of_block (a := ⟨M, i, none⟩) (hg.block M p.lt e)).trans (p.fz i)
  exact ⟨⟨by simpa using hl, hT, (hof 0 (by omega)).trans p.c0, (hof 1 (by omega)).trans p.c1, (hof 2 (by omega)).trans p.c2, ⟨v3, (hof 3 (by omega)).trans hv3, (ho3.goes hg (by omega)).goes hs (by omega)⟩, ⟨_, World.cell?_setCell_same _ _ _ ((hc 4).trans hv4), ho.goes hs (by omega)⟩, hfz, p.last⟩, (hg.mono fun x hx => .inr (.inr hx)).trans (hs.mono fun x hx => .inl hx)⟩
theorem MakerAt.set2 {t : Nat} {T T' : Nat → Nat} {w w' : World} {M : Nat} {r : Int} {S : St}  (p : MakerAt t T w M r S) (hg : Goes (fun _ => False) T w T' w') (k : ByteArray) (hlast : k.size ≤ 64) :
    MakerAt t T' (w'.setCell ⟨M, 2, none⟩ (.string k)) M r ⟨S.b, S.p, S.n, k⟩ ∧ Goes (Mk t) T w T' (w'.setCell ⟨M, 2, none⟩ (.string k)) := by
  have e : ¬ (False) := by exact id
  have hT : T' M = t := (hg.tag M p.lt e).trans p.tag
  have hl : M < w'.heap.size := Nat.lt_of_lt_of_le p.lt hg.size
  have hc : ∀ i, w'.cell? ⟨M, i, none⟩ = w.cell? ⟨M, i, none⟩ := fun i => hg.cell p.lt e
  have hs : Goes (· = t) T' w' T' (w'.setCell ⟨M, 2, none⟩ (.string k)) := Goes.setCell hT
  obtain ⟨v3, hv3, ho3⟩ := p.c3
  obtain ⟨v4, hv4, ho4⟩ := p.c4
  have hof : ∀ i, i ≠ 2 → (w'.setCell ⟨M, 2, none⟩ (.string k)).cell? ⟨M, i, none⟩ = w.cell? ⟨M, i, none⟩ := fun i hi => (World.cell?_setCell_other _ _ _ _ (by intro h; exact hi (congrArg Addr.off h).symm)).trans (hc i)
  have hfz : ∀ i, (w'.setCell ⟨M, 2, none⟩ (.string k)).frozen? ⟨M, i, none⟩ = false := fun i => by rw [World.frozen?_setCell]; exact (World.frozen?_of_block (a := ⟨M, i, none⟩) (hg.block M p.lt e)).trans (p.fz i)
  exact ⟨⟨by simpa using hl, hT, (hof 0 (by omega)).trans p.c0, (hof 1 (by omega)).trans p.c1, World.cell?_setCell_same _ _ _ ((hc 2).trans p.c2), ⟨v3, (hof 3 (by omega)).trans hv3, (ho3.goes hg (fun z => z)).goes hs (by omega)⟩, ⟨v4, (hof 4 (by omega)).trans hv4, (ho4.goes hg (fun z => z)).goes hs (by omega)⟩, hfz, hlast⟩, (hg.mono fun x hx => hx.elim).trans (hs.mono fun x hx => .inl hx)⟩
theorem MakerAt.set1 {t : Nat} {T T' : Nat → Nat} {w w' : World} {M : Nat} {r : Int} {S : St}  (p : MakerAt t T w M r S) (hg : Goes (fun _ => False) T w T' w') (n : Nat) :
    MakerAt t T' (w'.setCell ⟨M, 1, none⟩ (.int .i64 (n : Int))) M r ⟨S.b, S.p, n, S.last⟩ ∧ Goes (Mk t) T w T' (w'.setCell ⟨M, 1, none⟩ (.int .i64 (n : Int))) := by
  have e : ¬ (False) := by exact id
  have hT : T' M = t := (hg.tag M p.lt e).trans p.tag
  have hl : M < w'.heap.size := Nat.lt_of_lt_of_le p.lt hg.size
  have hc : ∀ i, w'.cell? ⟨M, i, none⟩ = w.cell? ⟨M, i, none⟩ := fun i => hg.cell p.lt e
  have hs : Goes (· = t) T' w' T' (w'.setCell ⟨M, 1, none⟩ (.int .i64 (n : Int))) := Goes.setCell hT
  obtain ⟨v3, hv3, ho3⟩ := p.c3
  obtain ⟨v4, hv4, ho4⟩ := p.c4
  have hof : ∀ i, i ≠ 1 → (w'.setCell ⟨M, 1, none⟩ (.int .i64 (n : Int))).cell? ⟨M, i, none⟩ = w.cell? ⟨M, i, none⟩ := fun i hi => (World.cell?_setCell_other _ _ _ _ (by intro h; exact hi (congrArg Addr.off h).symm)).trans (hc i)
  have hfz : ∀ i, (w'.setCell ⟨M, 1, none⟩ (.int .i64 (n : Int))).frozen? ⟨M, i, none⟩ = false := fun i => by rw [World.frozen?_setCell]; exact (World.frozen?_of_block (a := ⟨M, i, none⟩) (hg.block M p.lt e)).trans (p.fz i)
  exact ⟨⟨by simpa using hl, hT, (hof 0 (by omega)).trans p.c0, World.cell?_setCell_same _ _ _ ((hc 1).trans p.c1), (hof 2 (by omega)).trans p.c2, ⟨v3, (hof 3 (by omega)).trans hv3, (ho3.goes hg (fun z => z)).goes hs (by omega)⟩, ⟨v4, (hof 4 (by omega)).trans hv4, (ho4.goes hg (fun z => z)).goes hs (by omega)⟩, hfz, p.last⟩, (hg.mono fun x hx => hx.elim).trans (hs.mono fun x hx => .inl hx)⟩

theorem newMaker_any (t : Nat) (T : Nat → Nat) (w : World) (r : Int) :
    Calls Tryd.prog 34 #[.int .i64 r] w fun e w' => e = .returned (.pointer (some ⟨w.heap.size, 0, none⟩)) ∧ MakerAt t (upd T w.heap.size t) w' w.heap.size r st0 ∧ Below w.heap.size w w' ∧ w'.heap.size = w.heap.size + 1 := by
  go_enter Tryd.func34, Tryd.ntmps34
  go_wp2
  go_ret
  exact ⟨rfl, ⟨by simp, upd_same _ _ _, by simp, by simp [st0], by simp [st0], ⟨.slice none 0 0, by simp, OwnB.empty _ _ _⟩, ⟨.slice none 0 0, by simp, OwnB.empty _ _ _⟩, fun j => by simp, Nat.zero_le _⟩, (Below.refl _ _).alloc (Nat.le_refl _) _, by simp⟩
set_option maxHeartbeats 1000000 in
theorem size_any (t : Nat) (T : Nat → Nat) (w : World) (M : Nat) (r : Int) (S : St) (p : MakerAt t T w M r S) (hb : S.b.length ≤ 100000000000) (hp : S.p.length ≤ 100000000000) :
    Calls Tryd.prog 75 #[.pointer (some ⟨M, 0, none⟩)] w fun e w' => e = .returned (.int .i64 ((S.b.length + S.p.length + 8 : Nat) : Int)) ∧ ∃ n, w' = w.drewN n := by
  obtain ⟨a, c, a', c', k3, _, k4, _⟩ := p.form
  have hN : ((S.b.length + S.p.length + 8 : Nat) : Int) = (S.b.length : Int) + (S.p.length : Int) + 8 := by omega
  rw [hN]
  clear p hN
  generalize S.b.length = B at *
  generalize S.p.length = P at *
  go_enter Tryd.func75, Tryd.ntmps75
  go_wp2
  go_quiet (fail)
  go_wp2
  go_ret
  exact ⟨rfl, _, rfl⟩
theorem restarts_any (w : World) (K o : Nat) (a : Option Addr) (n c : Nat) (h : w.cell? ⟨K, o + 1, none⟩ = some (.slice a n c)) (hn : n ≤ 1000000000000) :
    Calls Tryd.prog 67 #[.pointer (some ⟨K, o, none⟩)] w fun e w' => e = .returned (.int .i64 ((n / 4 : Nat) : Int)) ∧ w' = w := by
  have hN : ((n / 4 : Nat) : Int) = (n : Int) / 4 := by omega
  rw [hN]
  clear hN
  go_enter Tryd.func67, Tryd.ntmps67
  go_wp2
  go_ret
  exact ⟨rfl, rfl⟩
set_option maxHeartbeats 1000000 in
theorem place_any (w : World) (K o : Nat) (a : Option Addr) (l : List Nat) (n c i : Nat) (h : w.cell? ⟨K, o + 1, none⟩ = some (.slice a n c)) (hl : IsB w a l) (hn : n = l.length) (hc : l.length ≤ c) (hn2 : c ≤ 9223372036854775807) (hi : 4 * i + 4 ≤ l.length) (hl2 : l.length ≤ 1000000000000) :
    Calls Tryd.prog 68 #[.pointer (some ⟨K, o, none⟩), .int .i64 (i : Int)] w fun e w' => e = .returned (.int .i64 ((val ((l.drop (4 * i)).take 4) : Nat) : Int)) ∧ w' = w := by
  obtain ⟨b, off, rfl, hr⟩ := hl.1 (by rintro rfl; simp at hi)
  have HI : Hid (IsB w (some ⟨b, off + i * 4, none⟩) ((l.drop (4 * i)).take 4) ∧ ((l.drop (4 * i)).take 4).length = 4) := ⟨IsB.some (by have := (hr.drop (4 * i)).take 4; rw [Nat.mul_comm i 4]; exact this) (fun x hx => hl.2 x (List.mem_of_mem_drop (List.mem_of_mem_take hx))), by rw [List.length_take, List.length_drop]; omega⟩
  have hv := val_lt _ (fun x hx => hl.2 x (List.mem_of_mem_drop (List.mem_of_mem_take hx)) : ∀ x ∈ (l.drop (4 * i)).take 4, x < 256)
  rw [HI.out.2] at hv
  subst hn
  clear hl hr
  generalize (l.drop (4 * i)).take 4 = l4 at *
  generalize l.length = n at *
  have hv2 : val l4 < 4294967296 := hv
  clear hv
  go_enter Tryd.func68, Tryd.ntmps68
  go_wp2_with (go_at_call 66; refine (word_any (some ⟨b, off + i * 4, none⟩) 4 4 l4 _ HI.out.1 HI.out.2 rfl).mono ?_; rintro e w1 ⟨rfl, hw⟩; have hw2 := hw.symm; clear hw; subst hw2)
  go_ret
  exact ⟨rfl, rfl⟩
end Qb
end Go.Proofs.YtkebbmdghnplmaaDoor
