import Derived.Test.YtnhhalabmmcemaaDoorTa3
import Derived.Test.YtnhhalabmmcemaaDoorQb9
namespace Go.Proofs.YtnhhalabmmcemaaDoor
namespace Tbl
open Go.RowKit CMath Byt Laws Irw Crw Cod Qb
set_option linter.unusedVariables false
set_option linter.unusedSimpArgs false
set_option maxRecDepth 20000

theorem TmAt.setLaid {t : Nat} {T T' : Nat → Nat} {w w' : World} {M : Nat} {bb r bits : Int} {S : Ts} (p : TmAt t T w M bb r bits S) (hg : Goes (· = t + 8) T w T' w') {v : Value} {l : List Nat} (ho : OwnB (t + 8) T' w' v l) :
    TmAt t T' (w'.setCell ⟨M, 6, none⟩ v) M bb r bits ⟨S.cur, S.idx, S.keys, l, S.mt, S.ended⟩ ∧ Goes (Tk t) T w T' (w'.setCell ⟨M, 6, none⟩ v) := by
  have e : ¬ (· = t + 8) (T M) := by rw [p.tag]; simp
  have hT : T' M = t := (hg.tag M p.lt e).trans p.tag
  have hl : M < w'.heap.size := Nat.lt_of_lt_of_le p.lt hg.size
  have hc : ∀ i, w'.cell? ⟨M, i, none⟩ = w.cell? ⟨M, i, none⟩ := fun i => hg.cell p.lt e
  have hs : Goes (· = t) T' w' T' (w'.setCell ⟨M, 6, none⟩ v) := Goes.setCell hT
  obtain ⟨C, hC, hm⟩ := p.cur
  obtain ⟨q, hq⟩ := p.ix
  obtain ⟨v5, h5, o5⟩ := p.keys
  obtain ⟨v6, h6, o6⟩ := p.laid
  have hof : ∀ i, i ≠ 6 → (w'.setCell ⟨M, 6, none⟩ v).cell? ⟨M, i, none⟩ = w.cell? ⟨M, i, none⟩ := fun i hi => (World.cell?_setCell_other _ _ _ _ (by intro h; exact hi (congrArg Addr.off h).symm)).trans (hc i)
  have hfz : ∀ i, (w'.setCell ⟨M, 6, none⟩ v).frozen? ⟨M, i, none⟩ = false := fun i => by rw [World.frozen?_setCell]; exact (World.frozen?_of_block (a := ⟨M, i, none⟩) (hg.block M p.lt e)).trans (p.fz i)
  exact ⟨⟨by simpa using hl, hT, ⟨C, (hof 0 (by omega)).trans hC, (hm.goes hg (by simp) (by simp) (by simp)).goes hs (by simp) (by first | omega | (simp; done) | (simp; omega)) (by first | omega | (simp; done) | (simp; omega))⟩, fun hE => (by
      obtain ⟨I, hI, hi⟩ := p.idx hE
      exact ⟨I, (hof 1 (by omega)).trans hI, (hi.goes hg (by simp) (by simp) (by simp)).goes hs (by simp) (by first | omega | (simp; done) | (simp; omega)) (by first | omega | (simp; done) | (simp; omega))⟩), ⟨q, (hof 1 (by omega)).trans hq⟩, (hof 2 (by omega)).trans p.c2, (hof 3 (by omega)).trans p.c3, (hof 4 (by omega)).trans p.c4, ⟨v5, (hof 5 (by omega)).trans h5, (o5.goes hg (by simp)).goes hs (by simp)⟩, ⟨_, World.cell?_setCell_same _ _ _ ((hc 6).trans h6), ho.goes hs (by simp)⟩, fun j hj => (hof _ (by omega)).trans (p.mt j hj), (hof 13 (by omega)).trans p.fin, hfz⟩, (hg.mono fun x hx => (by have h := hx; first | (subst h; constructor <;> omega) | (simp at h; subst h; constructor <;> omega))).trans (hs.mono fun x hx => (by have h := hx; first | (subst h; constructor <;> omega) | (simp at h; subst h; constructor <;> omega)))⟩
theorem TmAt.setKeys {t : Nat} {T T' : Nat → Nat} {w w' : World} {M : Nat} {bb r bits : Int} {S : Ts} (p : TmAt t T w M bb r bits S) (hg : Goes (· = t + 7) T w T' w') {v : Value} {l : List ByteArray} (ho : OwnK kT (t + 7) T' w' v l) :
    TmAt t T' (w'.setCell ⟨M, 5, none⟩ v) M bb r bits ⟨S.cur, S.idx, l, S.laid, S.mt, S.ended⟩ ∧ Goes (Tk t) T w T' (w'.setCell ⟨M, 5, none⟩ v) := by
  have e : ¬ (· = t + 7) (T M) := by rw [p.tag]; simp
  have hT : T' M = t := (hg.tag M p.lt e).trans p.tag
  have hl : M < w'.heap.size := Nat.lt_of_lt_of_le p.lt hg.size
  have hc : ∀ i, w'.cell? ⟨M, i, none⟩ = w.cell? ⟨M, i, none⟩ := fun i => hg.cell p.lt e
  have hs : Goes (· = t) T' w' T' (w'.setCell ⟨M, 5, none⟩ v) := Goes.setCell hT
  obtain ⟨C, hC, hm⟩ := p.cur
  obtain ⟨q, hq⟩ := p.ix
  obtain ⟨v5, h5, o5⟩ := p.keys
  obtain ⟨v6, h6, o6⟩ := p.laid
  have hof : ∀ i, i ≠ 5 → (w'.setCell ⟨M, 5, none⟩ v).cell? ⟨M, i, none⟩ = w.cell? ⟨M, i, none⟩ := fun i hi => (World.cell?_setCell_other _ _ _ _ (by intro h; exact hi (congrArg Addr.off h).symm)).trans (hc i)
  have hfz : ∀ i, (w'.setCell ⟨M, 5, none⟩ v).frozen? ⟨M, i, none⟩ = false := fun i => by rw [World.frozen?_setCell]; exact (World.frozen?_of_block (a := ⟨M, i, none⟩) (hg.block M p.lt e)).trans (p.fz i)
  exact ⟨⟨by simpa using hl, hT, ⟨C, (hof 0 (by omega)).trans hC, (hm.goes hg (by simp) (by simp) (by simp)).goes hs (by simp) (by first | omega | (simp; done) | (simp; omega)) (by first | omega | (simp; done) | (simp; omega))⟩, fun hE => (by
      obtain ⟨I, hI, hi⟩ := p.idx hE
      exact ⟨I, (hof 1 (by omega)).trans hI, (hi.goes hg (by simp) (by simp) (by simp)).goes hs (by simp) (by first | omega | (simp; done) | (simp; omega)) (by first | omega | (simp; done) | (simp; omega))⟩), ⟨q, (hof 1 (by omega)).trans hq⟩, (hof 2 (by omega)).trans p.c2, (hof 3 (by omega)).trans p.c3, (hof 4 (by omega)).trans p.c4, ⟨_, World.cell?_setCell_same _ _ _ ((hc 5).trans h5), ho.goes hs (by simp)⟩, ⟨v6, (hof 6 (by omega)).trans h6, (o6.goes hg (by simp)).goes hs (by simp)⟩, fun j hj => (hof _ (by omega)).trans (p.mt j hj), (hof 13 (by omega)).trans p.fin, hfz⟩, (hg.mono fun x hx => (by have h := hx; first | (subst h; constructor <;> omega) | (simp at h; subst h; constructor <;> omega))).trans (hs.mono fun x hx => (by have h := hx; first | (subst h; constructor <;> omega) | (simp at h; subst h; constructor <;> omega)))⟩
theorem TmAt.setBytes {t : Nat} {T T' : Nat → Nat} {w w' : World} {M : Nat} {bb r bits : Int} {S : Ts} (p : TmAt t T w M bb r bits S) (hg : Goes (fun _ => False) T w T' w') (n : Int) :
    TmAt t T' (w'.setCell ⟨M, 9, none⟩ (.int .i64 n)) M bb r bits ⟨S.cur, S.idx, S.keys, S.laid, ⟨S.mt.wt, n, S.mt.n, S.mt.lo, S.mt.hi⟩, S.ended⟩ ∧ Goes (Tk t) T w T' (w'.setCell ⟨M, 9, none⟩ (.int .i64 n)) := by
  have e : ¬ (fun _ => False) (T M) := by rw [p.tag]; simp
  have hT : T' M = t := (hg.tag M p.lt e).trans p.tag
  have hl : M < w'.heap.size := Nat.lt_of_lt_of_le p.lt hg.size
  have hc : ∀ i, w'.cell? ⟨M, i, none⟩ = w.cell? ⟨M, i, none⟩ := fun i => hg.cell p.lt e
  have hs : Goes (· = t) T' w' T' (w'.setCell ⟨M, 9, none⟩ (.int .i64 n)) := Goes.setCell hT
  obtain ⟨C, hC, hm⟩ := p.cur
  obtain ⟨q, hq⟩ := p.ix
  obtain ⟨v5, h5, o5⟩ := p.keys
  obtain ⟨v6, h6, o6⟩ := p.laid
  have hof : ∀ i, i ≠ 9 → (w'.setCell ⟨M, 9, none⟩ (.int .i64 n)).cell? ⟨M, i, none⟩ = w.cell? ⟨M, i, none⟩ := fun i hi => (World.cell?_setCell_other _ _ _ _ (by intro h; exact hi (congrArg Addr.off h).symm)).trans (hc i)
  have hfz : ∀ i, (w'.setCell ⟨M, 9, none⟩ (.int .i64 n)).frozen? ⟨M, i, none⟩ = false := fun i => by rw [World.frozen?_setCell]; exact (World.frozen?_of_block (a := ⟨M, i, none⟩) (hg.block M p.lt e)).trans (p.fz i)
  exact ⟨⟨by simpa using hl, hT, ⟨C, (hof 0 (by omega)).trans hC, (hm.goes hg (by simp) (by simp) (by simp)).goes hs (by simp) (by first | omega | (simp; done) | (simp; omega)) (by first | omega | (simp; done) | (simp; omega))⟩, fun hE => (by
      obtain ⟨I, hI, hi⟩ := p.idx hE
      exact ⟨I, (hof 1 (by omega)).trans hI, (hi.goes hg (by simp) (by simp) (by simp)).goes hs (by simp) (by first | omega | (simp; done) | (simp; omega)) (by first | omega | (simp; done) | (simp; omega))⟩), ⟨q, (hof 1 (by omega)).trans hq⟩, (hof 2 (by omega)).trans p.c2, (hof 3 (by omega)).trans p.c3, (hof 4 (by omega)).trans p.c4, ⟨v5, (hof 5 (by omega)).trans h5, (o5.goes hg (by simp)).goes hs (by simp)⟩, ⟨v6, (hof 6 (by omega)).trans h6, (o6.goes hg (by simp)).goes hs (by simp)⟩, fun j hj => (by
      have h9 : w'.cell? ⟨M, 9, none⟩ = some (.int .i64 S.mt.by_) := (hc 9).trans (p.mt 2 (by omega))
      match j, hj with
      | 0, _ => exact (hof 7 (by omega)).trans (p.mt 0 (by omega))
      | 1, _ => exact (hof 8 (by omega)).trans (p.mt 1 (by omega))
      | 2, _ => exact World.cell?_setCell_same _ _ _ h9
      | 3, _ => exact (hof 10 (by omega)).trans (p.mt 3 (by omega))
      | 4, _ => exact (hof 11 (by omega)).trans (p.mt 4 (by omega))
      | 5, _ => exact (hof 12 (by omega)).trans (p.mt 5 (by omega))), (hof 13 (by omega)).trans p.fin, hfz⟩, (hg.mono fun x hx => (by exact hx.elim)).trans (hs.mono fun x hx => (by have h := hx; first | (subst h; constructor <;> omega) | (simp at h; subst h; constructor <;> omega)))⟩
theorem TmAt.newCur {t : Nat} {T T' : Nat → Nat} {w w' : World} {M : Nat} {bb r bits : Int} {S : Ts} (p : TmAt t T w M bb r bits S) (hg : Goes (fun _ => False) T w T' w') {G : Nat} {c : St} (hn : MakerAt (t + 1) T' w' G r c) :
    TmAt t T' (w'.setCell ⟨M, 0, none⟩ (.pointer (some ⟨G, 0, none⟩))) M bb r bits ⟨c, S.idx, S.keys, S.laid, S.mt, S.ended⟩ ∧ Goes (Tk t) T w T' (w'.setCell ⟨M, 0, none⟩ (.pointer (some ⟨G, 0, none⟩))) := by
  have e : ¬ (fun _ => False) (T M) := by rw [p.tag]; simp
  have hT : T' M = t := (hg.tag M p.lt e).trans p.tag
  have hl : M < w'.heap.size := Nat.lt_of_lt_of_le p.lt hg.size
  have hc : ∀ i, w'.cell? ⟨M, i, none⟩ = w.cell? ⟨M, i, none⟩ := fun i => hg.cell p.lt e
  have hs : Goes (· = t) T' w' T' (w'.setCell ⟨M, 0, none⟩ (.pointer (some ⟨G, 0, none⟩))) := Goes.setCell hT
  obtain ⟨C, hC, hm⟩ := p.cur
  obtain ⟨q, hq⟩ := p.ix
  obtain ⟨v5, h5, o5⟩ := p.keys
  obtain ⟨v6, h6, o6⟩ := p.laid
  have hof : ∀ i, i ≠ 0 → (w'.setCell ⟨M, 0, none⟩ (.pointer (some ⟨G, 0, none⟩))).cell? ⟨M, i, none⟩ = w.cell? ⟨M, i, none⟩ := fun i hi => (World.cell?_setCell_other _ _ _ _ (by intro h; exact hi (congrArg Addr.off h).symm)).trans (hc i)
  have hfz : ∀ i, (w'.setCell ⟨M, 0, none⟩ (.pointer (some ⟨G, 0, none⟩))).frozen? ⟨M, i, none⟩ = false := fun i => by rw [World.frozen?_setCell]; exact (World.frozen?_of_block (a := ⟨M, i, none⟩) (hg.block M p.lt e)).trans (p.fz i)
  exact ⟨⟨by simpa using hl, hT, ⟨G, World.cell?_setCell_same _ _ _ ((hc 0).trans hC), hn.goes hs (by simp) (by first | omega | (simp; done) | (simp; omega)) (by first | omega | (simp; done) | (simp; omega))⟩, fun hE => (by
      obtain ⟨I, hI, hi⟩ := p.idx hE
      exact ⟨I, (hof 1 (by omega)).trans hI, (hi.goes hg (by simp) (by simp) (by simp)).goes hs (by simp) (by first | omega | (simp; done) | (simp; omega)) (by first | omega | (simp; done) | (simp; omega))⟩), ⟨q, (hof 1 (by omega)).trans hq⟩, (hof 2 (by omega)).trans p.c2, (hof 3 (by omega)).trans p.c3, (hof 4 (by omega)).trans p.c4, ⟨v5, (hof 5 (by omega)).trans h5, (o5.goes hg (by simp)).goes hs (by simp)⟩, ⟨v6, (hof 6 (by omega)).trans h6, (o6.goes hg (by simp)).goes hs (by simp)⟩, fun j hj => (hof _ (by omega)).trans (p.mt j hj), (hof 13 (by omega)).trans p.fin, hfz⟩, (hg.mono fun x hx => (by exact hx.elim)).trans (hs.mono fun x hx => (by have h := hx; first | (subst h; constructor <;> omega) | (simp at h; subst h; constructor <;> omega)))⟩
/-- The index goes on. -/
theorem TmAt.setIdx {t : Nat} {T T' : Nat → Nat} {w w' : World} {M I : Nat} {bb r bits : Int} {S : Ts} {c : St} (p : TmAt t T w M bb r bits S) (hI : w.cell? ⟨M, 1, none⟩ = some (.pointer (some ⟨I, 0, none⟩))) (hg : Goes (Mk (t + 4)) T w T' w') (hm : MakerAt (t + 4) T' w' I r c) : TmAt t T' w' M bb r bits ⟨S.cur, c, S.keys, S.laid, S.mt, S.ended⟩ ∧ Goes (Tk t) T w T' w' := by
  have e : ¬ Mk (t + 4) (T M) := by rw [p.tag]; simp [Mk]; omega
  obtain ⟨C, hC, hc'⟩ := p.cur
  obtain ⟨v5, h5, o5⟩ := p.keys
  obtain ⟨v6, h6, o6⟩ := p.laid
  have hc : ∀ i, w'.cell? ⟨M, i, none⟩ = w.cell? ⟨M, i, none⟩ := fun i => hg.cell p.lt e
  exact ⟨⟨Nat.lt_of_lt_of_le p.lt hg.size, (hg.tag M p.lt e).trans p.tag, ⟨C, (hc 0).trans hC, hc'.goes hg (by simp [Mk]) (by simp [Mk]) (by simp [Mk])⟩, fun hE => ⟨I, (hc 1).trans hI, hm⟩,
    ⟨_, (hc 1).trans hI⟩, (hc 2).trans p.c2, (hc 3).trans p.c3, (hc 4).trans p.c4, ⟨v5, (hc 5).trans h5, o5.goes hg (by simp [Mk])⟩, ⟨v6, (hc 6).trans h6, o6.goes hg (by simp [Mk])⟩,
    fun j hj => (hc _).trans (p.mt j hj), (hc 13).trans p.fin, fun j => (World.frozen?_of_block (a := ⟨M, j, none⟩) (hg.block M p.lt e)).trans (p.fz j)⟩, hg.mono fun x hx => by rcases hx with h | h | h <;> (subst h; constructor <;> omega)⟩
/-- The cells of a maker that a walk reads. -/
theorem TmAt.form {t : Nat} {T : Nat → Nat} {w : World} {M : Nat} {bb r bits : Int} {S : Ts} (p : TmAt t T w M bb r bits S) (hE : S.ended = false) : ∃ C I a c, w.cell? ⟨M, 0, none⟩ = some (.pointer (some ⟨C, 0, none⟩)) ∧ MakerAt (t + 1) T w C r S.cur ∧ w.cell? ⟨M, 1, none⟩ = some (.pointer (some ⟨I, 0, none⟩)) ∧ MakerAt (t + 4) T w I r S.idx ∧ w.cell? ⟨M, 6, none⟩ = some (.slice a S.laid.length c) ∧ OwnB (t + 8) T w (.slice a S.laid.length c) S.laid := by
  obtain ⟨C, hC, hc⟩ := p.cur
  obtain ⟨I, hI, hi⟩ := p.idx hE
  obtain ⟨v6, h6, o6⟩ := p.laid
  obtain ⟨a, c, rfl, _⟩ := o6.form
  exact ⟨C, I, a, c, hC, hc, hI, hi, h6, o6⟩
/-- The index's entry of the block under way. -/
def ixE (S : Ts) : En := (S.mt.hi, 0, false, ixV S.laid.length (blk S.cur).length)
/-- The block under way has ended. -/
def endS (r : Int) (S : Ts) : Ts := ⟨st0, if adds S.idx.last (ixE S) = 0 then push (Rn r) S.idx (ixE S) else S.idx, S.keys, S.laid ++ blk S.cur, ⟨S.mt.wt, ((S.laid.length + (blk S.cur).length : Nat) : Int), S.mt.n, S.mt.lo, S.mt.hi⟩, S.ended⟩
/-- What endBlock leaves. -/
def EbIs (t : Nat) (T : Nat → Nat) (w : World) (M : Nat) (bb r bits : Int) (S : Ts) (e : Ending) (w' : World) : Prop :=
  ∃ T' v, e = .returned v ∧ OwnB 0 T' w' v (blk S.cur) ∧ (∀ g, v.ownBlock = some g → w.heap.size ≤ g) ∧ TmAt t T' w' M bb r bits (endS r S) ∧ Goes (Tk t) T w T' w'

end Tbl
end Go.Proofs.YtnhhalabmmcemaaDoor
namespace Go.Proofs.YtnhhalabmmcemaaDoor
namespace Tbl
open Go.RowKit CMath Byt Laws Irw Crw Cod Qb
set_option linter.unusedVariables false
set_option linter.unusedSimpArgs false
set_option maxRecDepth 20000

theorem own_zero {base : Nat} {T : Nat → Nat} {w : World} {v : Value} {l : List Nat} (h : Byt.Own 5 base w v l) (hT : ∀ b, base ≤ b → T b = 0) : OwnB 0 T w v l := by
  obtain ⟨g, hg, _, ho⟩ := OwnB.of_own (t := 0) (T := T) h
  have e : upd T g 0 = T := by
    funext b
    by_cases hb : b = g
    · subst hb; rw [upd_same, hT b hg]
    · rw [upd_other _ _ hb]
  rw [e] at ho
  exact ho
theorem num_len10 (n : Nat) (h : n < 9223372036854775808) : (num n).length ≤ 10 := num_le10 (by omega)
theorem ixV_size (p n : Nat) (hp : p < 9223372036854775808) (hn : n < 9223372036854775808) : (ixV p n).size ≤ 20 := by
  have h1 := num_len10 p hp
  have h2 := num_len10 n hn
  have : (ixV p n).size = (num p ++ num n).length := by rw [← strB_length, ixV, strB_ofB (byte_app (num_byte p) (num_byte n))]
  rw [this, List.length_append]
  omega
/-- A new maker, wherever it comes to lie. -/
theorem newMaker_at (t : Nat) (T : Nat → Nat) (X : World) (r : Int) (n : Nat) (hn : X.heap.size = n) :
    Calls Tryd.prog 33 #[.int .i64 r] X fun e w' => e = .returned (.pointer (some ⟨n, 0, none⟩)) ∧ MakerAt t (upd T n t) w' n r st0 ∧ Below X.heap.size X w' ∧ Goes (fun _ => False) T X (upd T n t) w' := by
  subst hn
  refine (newMaker_any t T X r).mono ?_
  rintro e w' ⟨rfl, hm, hb, hs⟩
  exact ⟨rfl, hm, hb, hb.os, hb.tape, hb.output, hb.size, fun b hb' _ => hb.block b hb', fun b hb' _ => upd_other _ _ (by omega), fun b hb' h0 => (upd_other _ _ (by omega)).trans h0⟩
theorem x_size (w : World) (M : Nat) (v u : Value) : ((w.setCell ⟨M, 6, none⟩ v).setCell ⟨M, 9, none⟩ u).heap.size = w.heap.size := by simp
theorem x_cell {w : World} {M : Nat} (v u : Value) {y : Value} (h : w.cell? ⟨M, 0, none⟩ = some y) : ((w.setCell ⟨M, 6, none⟩ v).setCell ⟨M, 9, none⟩ u).cell? ⟨M, 0, none⟩ = some y := by
  rw [World.cell?_setCell_other _ _ _ _ (by intro h; cases h), World.cell?_setCell_other _ _ _ _ (by intro h; cases h)]
  exact h
theorem x_froz {w : World} {M : Nat} (v u : Value) (h : w.frozen? ⟨M, 0, none⟩ = false) : ((w.setCell ⟨M, 6, none⟩ v).setCell ⟨M, 9, none⟩ u).frozen? ⟨M, 0, none⟩ = false := by
  rw [World.frozen?_setCell, World.frozen?_setCell]
  exact h
theorem eb_fin {t : Nat} {T T3 T4 T6 : Nat → Nat} {w w3 w4 w6 : World} {M G g1 c1 : Nat} {bb r bits : Int} {S : Ts} {v4 : Value} {n : Int} (ht : t ≠ 0) (hg1 : w.heap.size ≤ g1)
    (h3 : TmAt t T3 w3 M bb r bits ⟨S.cur, if adds S.idx.last (ixE S) = 0 then push (Rn r) S.idx (ixE S) else S.idx, S.keys, S.laid, S.mt, S.ended⟩ ∧ Goes (Tk t) T w T3 w3) (ho3 : OwnB 0 T3 w3 (.slice (some ⟨g1, 0, none⟩) (blk S.cur).length c1) (blk S.cur))
    (ho4 : OwnB (t + 8) T4 w4 v4 (S.laid ++ blk S.cur)) (hg4 : Goes (· = t + 8) T3 w3 T4 w4) (hn : n = ((S.laid.length + (blk S.cur).length : Nat) : Int))
    (hm6 : MakerAt (t + 1) T6 w6 G r st0) (hg6 : Goes (fun _ => False) T4 ((w4.setCell ⟨M, 6, none⟩ v4).setCell ⟨M, 9, none⟩ (.int .i64 n)) T6 w6) : EbIs t T w M bb r bits S (.returned (.slice (some ⟨g1, 0, none⟩) (blk S.cur).length c1)) (w6.setCell ⟨M, 0, none⟩ (.pointer (some ⟨G, 0, none⟩))) := by
  subst hn
  obtain ⟨h3, k3⟩ := h3
  obtain ⟨h4, k4⟩ := h3.setLaid hg4 ho4
  obtain ⟨h5, k5⟩ := h4.setBytes (Goes.refl (fun _ => False) T4 _) ((S.laid.length + (blk S.cur).length : Nat) : Int)
  obtain ⟨h6, k6⟩ := h5.newCur hg6 hm6
  have z : ¬ Tk t 0 := fun h => ht (by have := h.1; omega)
  exact ⟨T6, _, rfl, ((ho3.goes k4 z).goes k5 z).goes k6 z, fun g hg => (by simp [Value.ownBlock] at hg; omega), h6, ((k3.trans k4).trans k5).trans k6⟩
set_option maxHeartbeats 2000000 in
theorem endBlock_any (t : Nat) (T : Nat → Nat) (w : World) (M : Nat) (bb r bits : Int) (S : Ts) (p : TmAt t T w M bb r bits S) (hi : Hi T w) (ht : t ≠ 0) (hE : S.ended = false) (hT : Tab w) (hh : S.mt.hi.size ≤ 1000000) (hb : S.cur.b.length ≤ 4000000000) (hp : S.cur.p.length ≤ 4000000000) (hl : S.laid.length ≤ 100000000000)
    (hib : S.idx.b.length ≤ 4000000000) (hip : S.idx.p.length ≤ 10000000000) (hin : S.idx.n ≤ 1000000000000) (hr : -9223372036854775808 ≤ r ∧ r ≤ 9223372036854775807) :
    Calls Tryd.prog 37 #[.pointer (some ⟨M, 0, none⟩)] w fun e w' => EbIs t T w M bb r bits S e w' := by
  obtain ⟨C, I, a6, c6, hC, hc, hI, hi4, h6, o6⟩ := p.form hE
  have hG : w.cell? ⟨M, 12, none⟩ = some (.string S.mt.hi) := p.mt 5 (by omega)
  have h9 : w.cell? ⟨M, 9, none⟩ = some (.int .i64 S.mt.by_) := p.mt 2 (by omega)
  have h3 : w.cell? ⟨M, 3, none⟩ = some (.int .i64 r) := p.c3
  have hlt := p.lt
  have HP : Hid (TmAt t T w M bb r bits S) := p
  have HI : Hid (Hi T w) := hi
  have hbl : (blk S.cur).length ≤ 9000000000 := by rw [blk_len]; omega
  have HBY : Hid (Calls Tryd.prog 38 #[.pointer (some ⟨C, 0, none⟩)] w fun e w' => ∃ v, e = .returned v ∧ Byt.Own 5 w.heap.size w' v (blk S.cur) ∧ Below w.heap.size w w') := bytes_any (t + 1) T w C r S.cur hc hT hb hp
  have HADD : Hid (∀ W, Below w.heap.size w W → Calls Tryd.prog 57 #[.pointer (some ⟨I, 0, none⟩), .agg #[.string S.mt.hi, .int .u64 0, .bool false, .string (ixV S.laid.length (blk S.cur).length)]] W fun e w' => AddIs (t + 4) T W I r S.idx (ixE S) e w') := fun W hW => add_any (t + 4) T W I r S.idx S.mt.hi 0 false (ixV S.laid.length (blk S.cur).length) (hi4.below hW) (hi.below hW.size) (by omega) hh (by have := ixV_size S.laid.length (blk S.cur).length (by omega) (by omega); omega) hib hip hin hr
  have HIX : Hid (∀ W, Calls Tryd.prog 59 #[.string S.mt.hi, .int .i64 (S.laid.length : Int), .int .i64 ((blk S.cur).length : Int)] W fun e w' => e = .returned (.agg #[.string S.mt.hi, .int .u64 0, .bool false, .string (ixV S.laid.length (blk S.cur).length)]) ∧ Below W.heap.size W w') := fun W => indexEntry_any S.mt.hi S.laid.length (blk S.cur).length W (by omega) (by omega)
  clear p hi hc hi4 hT o6
  go_enter Tryd.func37, Tryd.ntmps37
  go_wp2_with (go_at_call 38; go_loud (refine HBY.out.mono ?_; rintro e w1 ⟨v1, rfl, ho1, hb1⟩; have HO1 := Qb.hid (own_zero ho1 (fun b hb => HI.out b hb)); obtain ⟨g1, c1, rfl, hr1, hby1⟩ := ho1; have hg1 := (hr1.lt g1 rfl).1; have HB1 := Qb.hid hb1; clear hr1 hby1 hb1))
  have hs1 := HB1.out.size
  have HSS : Hid (∀ W6 T6, Goes (Mk (t + 4)) T w T6 W6 → W6.cell? ⟨M, 1, none⟩ = some (.pointer (some ⟨I, 0, none⟩)) ∧ W6.cell? ⟨M, 12, none⟩ = some (.string S.mt.hi) ∧ W6.cell? ⟨M, 6, none⟩ = some (.slice a6 S.laid.length c6)) := by
    intro W6 T6 hg
    have e0 : ¬ Mk (t + 4) (T M) := by rw [HP.out.tag]; simp [Mk]; omega
    exact ⟨(hg.cell hlt e0).trans hI, (hg.cell hlt e0).trans hG, (hg.cell hlt e0).trans h6⟩
  have hA0 := HSS.out w1 T (Goes.below HB1.out)
  have HC0 := Qb.hid hC
  have HI1 := Qb.hid hI
  have H9 := Qb.hid h9
  have H3 := Qb.hid h3
  clear HBY hC hI hG h6 h9 h3
  go_region_held3 (fun W => W.cell? ⟨M, 1, none⟩ = some (.pointer (some ⟨I, 0, none⟩)) ∧ W.cell? ⟨M, 12, none⟩ = some (.string S.mt.hi) ∧ W.cell? ⟨M, 6, none⟩ = some (.slice a6 S.laid.length c6)) (first | assumption | exact hA0)
    (first
    | (go_at_call 59; go_loud (refine (HIX.out _).mono ?_; rintro e w2 ⟨rfl, hb2'⟩; have hb2 : Below w1.heap.size w1 w2 := (by first | exact hb2' | exact ((Below.refl _ _).drew).trans hb2'); have HB2 := Qb.hid (HB1.out.trans (hb2.mono hs1)); have hS2 := HSS.out w2 T (Goes.below HB2.out); have HO2 := Qb.hid (HO1.out.below hb2); clear hb2 hb2'))
    | (go_at_call 57; go_loud (refine (HADD.out w2 HB2.out).mono ?_; rintro e w3 ⟨T3, rfl, hm3, hg3⟩; have hg3' : Goes (Mk (t + 4)) T w T3 w3 := (Goes.below HB2.out).trans hg3; have hS3 := HSS.out w3 T3 hg3'; have HO3 := Qb.hid (HO2.out.goes hg3 (by simp [Mk])); have HP3 := Qb.hid (HP.out.setIdx HI1.out hg3' hm3); clear hm3 hg3 hg3')))
  all_goals (
    have k6 := hS3.2.2
    have hlt3 : M < w3.heap.size := HP3.out.1.lt
    have HO6 : Hid (OwnB (t + 8) T3 w3 (.slice a6 S.laid.length c6) S.laid) := by
      obtain ⟨v, k, o⟩ := HP3.out.1.laid
      rw [k6] at k
      cases k
      exact o
    have HI3 : Hid (IsB w3 (some ⟨g1, 0, none⟩) (blk S.cur)) := by
      obtain ⟨a, c, e, hb, _⟩ := HO3.out.form
      cases e
      exact hb
    have e3 : ¬ (T3 M = t + 8) := by rw [HP3.out.1.tag]; omega
    have k9 : w3.cell? ⟨M, 9, none⟩ = some (.int .i64 S.mt.by_) := HP3.out.1.mt 2 (by omega)
    have k3 : w3.cell? ⟨M, 3, none⟩ = some (.int .i64 r) := HP3.out.1.c3
    obtain ⟨C3, k0, _⟩ := HP3.out.1.cur
    have K0 := Qb.hid k0
    have K3 := Qb.hid k3
    have K9 := Qb.hid k9
    have HFZ := Qb.hid HP3.out.1.fz
    clear hS2 hS3 hA0 HIX HADD HSS k0 k3 k9
    go_wp2_with (first
      | (at_builtin; go_loud (refine wpList_app8n (S.laid.length + (blk S.cur).length) _ (by rfl) (.tmp 31) (.tmp 32) (by rfl) (t + 8) T3 _ S.laid (by rfl) HO6.out (some ⟨g1, 0, none⟩) _ c1 (blk S.cur) (by rfl) rfl (by simp) HI3.out (by omega) rfl ?_; intro a4 c4 T4 w4 ho4 hg4; have y6 := (hg4.cell (j := 6) hlt3 e3).trans k6; have y9 := (hg4.cell (j := 9) hlt3 e3).trans K9.out; have y3 := (hg4.cell (j := 3) hlt3 e3).trans K3.out; have y0 := (hg4.cell (j := 0) hlt3 e3).trans K0.out; have z6 := (World.frozen?_of_block (a := ⟨M, 6, none⟩) (hg4.block M hlt3 e3)).trans (HFZ.out 6); have z9 := (World.frozen?_of_block (a := ⟨M, 9, none⟩) (hg4.block M hlt3 e3)).trans (HFZ.out 9); have z0 := (World.frozen?_of_block (a := ⟨M, 0, none⟩) (hg4.block M hlt3 e3)).trans (HFZ.out 0); have hlt4 := Nat.lt_of_lt_of_le hlt3 hg4.size; have HO4 := Qb.hid ho4; have HG4 := Qb.hid hg4; clear ho4 hg4 k6))
      | (go_at_call 33; go_loud (refine Calls.mono (newMaker_at (t + 1) T4 _ r w4.heap.size (x_size _ _ _ _)) ?_; rintro e w6 ⟨rfl, hm6, hb6, hg6⟩; have x0 : w6.cell? ⟨M, 0, none⟩ = some (.pointer (some ⟨C3, 0, none⟩)) := (hb6.cell (p := ⟨M, 0, none⟩) (by rw [x_size]; exact hlt4)).trans (x_cell _ _ y0); have x1 : w6.frozen? ⟨M, 0, none⟩ = false := (World.frozen?_of_block (a := ⟨M, 0, none⟩) (hb6.block M (by rw [x_size]; exact hlt4))).trans (x_froz _ _ z0); have HF := Qb.hid (eb_fin ht hg1 HP3.out HO3.out HO4.out HG4.out (by omega) hm6 hg6); clear hm6 hb6 hg6)))
    go_ret
    exact HF.out)

end Tbl
end Go.Proofs.YtnhhalabmmcemaaDoor
namespace Go.Proofs.YtnhhalabmmcemaaDoor
namespace Tbl
open Go.RowKit CMath Byt Laws Irw Crw Cod Qb
set_option linter.unusedVariables false
set_option linter.unusedSimpArgs false
set_option maxRecDepth 20000

theorem TmAt.setMt1 {t : Nat} {T T' : Nat → Nat} {w w' : World} {M : Nat} {bb r bits : Int} {S : Ts} (p : TmAt t T w M bb r bits S) (hg : Goes (fun _ => False) T w T' w') (j : Nat) (hj : j < 6) (v : Value) (m : Mt) (hmt : m.cells = S.mt.cells.set! j v) :
    TmAt t T' (w'.setCell ⟨M, 7 + j, none⟩ v) M bb r bits ⟨S.cur, S.idx, S.keys, S.laid, m, S.ended⟩ ∧ Goes (Tk t) T w T' (w'.setCell ⟨M, 7 + j, none⟩ v) := by
  have e : ¬ (fun _ => False) (T M) := by rw [p.tag]; simp
  have hT : T' M = t := (hg.tag M p.lt e).trans p.tag
  have hl : M < w'.heap.size := Nat.lt_of_lt_of_le p.lt hg.size
  have hc : ∀ i, w'.cell? ⟨M, i, none⟩ = w.cell? ⟨M, i, none⟩ := fun i => hg.cell p.lt e
  have hs : Goes (· = t) T' w' T' (w'.setCell ⟨M, 7 + j, none⟩ v) := Goes.setCell hT
  obtain ⟨C, hC, hm⟩ := p.cur
  obtain ⟨q, hq⟩ := p.ix
  obtain ⟨v5, h5, o5⟩ := p.keys
  obtain ⟨v6, h6, o6⟩ := p.laid
  have hof : ∀ i, i ≠ 7 + j → (w'.setCell ⟨M, 7 + j, none⟩ v).cell? ⟨M, i, none⟩ = w.cell? ⟨M, i, none⟩ := fun i hi => (World.cell?_setCell_other _ _ _ _ (by intro h; exact hi (congrArg Addr.off h).symm)).trans (hc i)
  have hfz : ∀ i, (w'.setCell ⟨M, 7 + j, none⟩ v).frozen? ⟨M, i, none⟩ = false := fun i => by rw [World.frozen?_setCell]; exact (World.frozen?_of_block (a := ⟨M, i, none⟩) (hg.block M p.lt e)).trans (p.fz i)
  exact ⟨⟨by simpa using hl, hT, ⟨C, (hof 0 (by omega)).trans hC, (hm.goes hg (by simp) (by simp) (by simp)).goes hs (by simp) (by first | omega | (simp; done) | (simp; omega)) (by first | omega | (simp; done) | (simp; omega))⟩, fun hE => (by
      obtain ⟨I, hI, hi⟩ := p.idx hE
      exact ⟨I, (hof 1 (by omega)).trans hI, (hi.goes hg (by simp) (by simp) (by simp)).goes hs (by simp) (by first | omega | (simp; done) | (simp; omega)) (by first | omega | (simp; done) | (simp; omega))⟩), ⟨q, (hof 1 (by omega)).trans hq⟩, (hof 2 (by omega)).trans p.c2, (hof 3 (by omega)).trans p.c3, (hof 4 (by omega)).trans p.c4, ⟨v5, (hof 5 (by omega)).trans h5, (o5.goes hg (by simp)).goes hs (by simp)⟩, ⟨v6, (hof 6 (by omega)).trans h6, (o6.goes hg (by simp)).goes hs (by simp)⟩, fun i hi => (by
      by_cases h : i = j
      · subst h
        have h9 : ∃ y, w'.cell? ⟨M, 7 + i, none⟩ = some y := by
          rw [hc, p.mt i hi]
          exact ⟨_, Array.getElem?_eq_getElem (by simpa [Mt.cells] using hi)⟩
        obtain ⟨y, h9⟩ := h9
        rw [World.cell?_setCell_same _ _ _ h9, hmt, Array.set!_eq_setIfInBounds, Array.getElem?_setIfInBounds_self_of_lt (by simpa [Mt.cells] using hi)]
      · rw [hof (7 + i) (by omega), p.mt i hi, hmt, Array.set!_eq_setIfInBounds, Array.getElem?_setIfInBounds_ne (by omega)]), (hof 13 (by omega)).trans p.fin, hfz⟩, (hg.mono fun x hx => (by exact hx.elim)).trans (hs.mono fun x hx => (by have h := hx; first | (subst h; constructor <;> omega) | (simp at h; subst h; constructor <;> omega)))⟩
/-- The six cells are set. -/
theorem TmAt.setMt {t : Nat} {T : Nat → Nat} {w : World} {M : Nat} {bb r bits : Int} {S : Ts} (p : TmAt t T w M bb r bits S) (m : Mt) :
    TmAt t T ((((((w.setCell ⟨M, 7, none⟩ (.int .u64 0)).setCell ⟨M, 8, none⟩ (.int .i64 m.wt)).setCell ⟨M, 9, none⟩ (.int .i64 m.by_)).setCell ⟨M, 10, none⟩ (.int .i64 (m.n : Int))).setCell ⟨M, 11, none⟩ (.string m.lo)).setCell ⟨M, 12, none⟩ (.string m.hi)) M bb r bits ⟨S.cur, S.idx, S.keys, S.laid, m, S.ended⟩ ∧ Goes (Tk t) T w T ((((((w.setCell ⟨M, 7, none⟩ (.int .u64 0)).setCell ⟨M, 8, none⟩ (.int .i64 m.wt)).setCell ⟨M, 9, none⟩ (.int .i64 m.by_)).setCell ⟨M, 10, none⟩ (.int .i64 (m.n : Int))).setCell ⟨M, 11, none⟩ (.string m.lo)).setCell ⟨M, 12, none⟩ (.string m.hi)) := by
  obtain ⟨p0, k0⟩ := p.setMt1 (Goes.refl (fun _ => False) T _) 0 (by omega) (.int .u64 0) S.mt rfl
  obtain ⟨p1, k1⟩ := p0.setMt1 (Goes.refl (fun _ => False) T _) 1 (by omega) (.int .i64 m.wt) ⟨m.wt, S.mt.by_, S.mt.n, S.mt.lo, S.mt.hi⟩ rfl
  obtain ⟨p2, k2⟩ := p1.setMt1 (Goes.refl (fun _ => False) T _) 2 (by omega) (.int .i64 m.by_) ⟨m.wt, m.by_, S.mt.n, S.mt.lo, S.mt.hi⟩ rfl
  obtain ⟨p3, k3⟩ := p2.setMt1 (Goes.refl (fun _ => False) T _) 3 (by omega) (.int .i64 (m.n : Int)) ⟨m.wt, m.by_, m.n, S.mt.lo, S.mt.hi⟩ rfl
  obtain ⟨p4, k4⟩ := p3.setMt1 (Goes.refl (fun _ => False) T _) 4 (by omega) (.string m.lo) ⟨m.wt, m.by_, m.n, m.lo, S.mt.hi⟩ rfl
  obtain ⟨p5, k5⟩ := p4.setMt1 (Goes.refl (fun _ => False) T _) 5 (by omega) (.string m.hi) ⟨m.wt, m.by_, m.n, m.lo, m.hi⟩ rfl
  exact ⟨p5, k0.trans (k1.trans (k2.trans (k3.trans (k4.trans k5))))⟩
set_option maxHeartbeats 1000000 in
theorem meta_any (t : Nat) (T : Nat → Nat) (w : World) (M : Nat) (bb r bits : Int) (S : Ts) (p : TmAt t T w M bb r bits S) :
    Calls Tryd.prog 22 #[.pointer (some ⟨M, 0, none⟩)] w fun e w' => e = .returned (.agg S.mt.cells) ∧ Below w.heap.size w w' := by
  have k0 : w.cell? ⟨M, 7, none⟩ = some (.int .u64 0) := p.mt 0 (by omega)
  have k1 : w.cell? ⟨M, 8, none⟩ = some (.int .i64 S.mt.wt) := p.mt 1 (by omega)
  have k2 : w.cell? ⟨M, 9, none⟩ = some (.int .i64 S.mt.by_) := p.mt 2 (by omega)
  have k3 : w.cell? ⟨M, 10, none⟩ = some (.int .i64 (S.mt.n : Int)) := p.mt 3 (by omega)
  have k4 : w.cell? ⟨M, 11, none⟩ = some (.string S.mt.lo) := p.mt 4 (by omega)
  have k5 : w.cell? ⟨M, 12, none⟩ = some (.string S.mt.hi) := p.mt 5 (by omega)
  have hlt := p.lt
  clear p
  show Calls Tryd.prog 22 #[.pointer (some ⟨M, 0, none⟩)] w fun e w' => e = .returned (.agg #[.int .u64 0, .int .i64 S.mt.wt, .int .i64 S.mt.by_, .int .i64 (S.mt.n : Int), .string S.mt.lo, .string S.mt.hi]) ∧ Below w.heap.size w w'
  go_enter Tryd.func22, Tryd.ntmps22
  go_wp2
  refine bodyPost_ret (v := .agg #[.int .u64 0, .int .i64 S.mt.wt, .int .i64 S.mt.by_, .int .i64 (S.mt.n : Int), .string S.mt.lo, .string S.mt.hi]) (by simp [results, Tryd.results22, go_sem]) rfl ⟨rfl, ?_⟩
  first | exact Below.refl _ _ | exact (Below.refl _ _).alloc (Nat.le_refl _) _

end Tbl
end Go.Proofs.YtnhhalabmmcemaaDoor
