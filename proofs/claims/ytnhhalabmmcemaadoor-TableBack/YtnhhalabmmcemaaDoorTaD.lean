import Derived.Test.YtnhhalabmmcemaaDoorTa9
import Derived.Shelf.Spec.SlicesGrow
import Derived.Lib.Walk
namespace Go.Proofs.YtnhhalabmmcemaaDoor
namespace Tbl
open Go.RowKit CMath Byt Laws Irw Crw Cod Qb
set_option linter.unusedVariables false
set_option linter.unusedSimpArgs false
set_option maxRecDepth 20000

set_option maxHeartbeats 1000000 in
theorem sclone_any (a : Addr) (cap n : Nat) (l : List Nat) (w : World) (ha : IsB w (some a) l) (hk : l.length ≤ 140737488355328) (hn : n = l.length) :
    Calls Tryd.prog 42 #[.slice (some a) n cap] w fun e w' => ∃ v, e = .returned v ∧ Byt.Own 5 w.heap.size w' v l ∧ Below w.heap.size w w' := by
  subst hn
  obtain ⟨i8, hi, hz0, hz1, hz2⟩ := info_parts info8
  have HOWN : Hid ((w.alloc (.cells #[] 5)).ownsRow w.heap.size 5 1 (.slice (some ⟨w.heap.size, 0, none⟩) 0 0) 0 (cellsB [])) := World.ownsRow_lit w #[] 0 (Nat.le_refl _) (by simp [maxLen]) (by simp)
  have HI : Hid (IsB (w.alloc (.cells #[] 5)) (some a) l) := ha.below ((Below.refl _ _).alloc (Nat.le_refl _) _)
  have HBY : Hid (∀ x ∈ l, x < 256) := ha.2
  clear ha
  have q22 : ∀ (w : World) (n c : Nat), (binOp .eql 25 (.slice (some a) n c) (.slice none 0 0)).run Tryd.prog w = .ok (.bool false) w := fun w n c => Lib.run_eql_slice_nil w _ _ (some a) n c 0 0 Tryd.underlying25
  go_enter Tryd.func42, Tryd.ntmps42
  go_wp2_with (at_builtin; refine wpList_appB (by rfl) (.tmp 5) (.tmp 6) 25 (by rfl) w.heap.size 5 i8 Tryd.underlying25 hi hz0 hz1 hz2 _ [] 0 (by rfl) HOWN.out (some a) l.length cap l (by rfl) rfl (by simp) HI.out (by omega) (by simp) ?_; intro u1 w1 hown1 hgr1 hnn1; have HG : Hid ((w.alloc (.cells #[] 5)).grownBy w1 (some w.heap.size)) := hgr1; have HO1 : Hid (w1.ownsRow w.heap.size 5 1 u1 (0 + l.length) (cellsB l)) := hown1; have HNN : Hid (u1 ≠ .slice none 0 0) := hnn1 (by simp); clear hgr1 hown1 hnn1)
  go_ret
  exact ⟨u1, rfl, Own.mk' HO1.out HBY.out HNN.out, below_of ((Below.refl _ _).alloc (Nat.le_refl _) _) HG.out (Nat.le_refl _) (by intro k hk; cases hk; exact Nat.le_refl _)⟩

end Tbl
end Go.Proofs.YtnhhalabmmcemaaDoor
namespace Go.Proofs
open Go.Shelf
shelf_lay_g Lays8.n4 Nm8 4 at Tryd 66 as Tryd.growB
end Go.Proofs
namespace Go.Proofs.YtnhhalabmmcemaaDoor
namespace Tbl
open Go.RowKit Go.Shelf CMath Byt Laws Irw Crw Cod Qb
set_option linter.unusedVariables false
set_option linter.unusedSimpArgs false
set_option maxRecDepth 20000

/-- A new row of no bytes, with room. -/
def GwIs (w : World) (e : Ending) (w' : World) : Prop := ∃ a c T, e = .returned (.slice a 0 c) ∧ OwnB 1 T w' (.slice a 0 c) [] ∧ Below w.heap.size w w' ∧ (∀ b, b < w.heap.size → T b = 0)
theorem grow_any (n : Nat) (w : World) (hn : n ≤ 100000000000) :
    Calls Tryd.prog 66 #[.slice none 0 0, .int .i64 (n : Int)] w fun e w' => GwIs w e w' := by
  obtain ⟨i8, hi, hz0, hz1, hz2⟩ := info_parts info8'
  by_cases h0 : n = 0
  · subst h0
    refine (Any8.slices_Grow_room Tryd.growB none 0 0 0 w (by omega) (by omega) (by omega) (by omega)).mono ?_
    rintro e w' ⟨rfl, rfl⟩
    exact ⟨none, 0, fun _ => 0, rfl, OwnB.empty _ _ _, Below.refl _ _, fun _ _ => rfl⟩
  · refine (Any8.slices_Grow_grow Tryd.growB i8 (.int .u8 0) hi hz0 (by rw [hz1]; omega) none 0 0 n [] w (by omega) (by omega) (by rw [hz2]; omega) (by omega) (by simp) (fun _ => rfl) (by simp)).mono ?_
    rintro e w' ⟨rfl, rfl⟩
    have hge := grownCap_ge w (0 + n) 0 (Tryd.growB_ren.t 25)
    have hmx := grownCap_le_maxLen w (0 + n) 0 (Tryd.growB_ren.t 25) (by unfold maxLen; omega)
    generalize grownCap w (0 + n) 0 (Tryd.growB_ren.t 25) = N at *
    refine ⟨_, _, upd (fun _ => 0) w.heap.size 1, rfl, ?_, (Below.refl _ _).drew.alloc (by simp) _, fun b hb => upd_other _ _ (by omega)⟩
    have h3 := World.alloc_heap_new w.drew (.cells (#[] ++ Builtin.zeroCells (Value.int IntKind.u8 0).cells (0 + n - 0) ++ Builtin.zeroCells (Value.int IntKind.u8 0).cells (N - (0 + n))) (Tryd.growB_ren.t 25))
    refine own_of_heap (g := w.heap.size) (N := N) (n := 0) (l := []) (Z := (#[] ++ Builtin.zeroCells (Value.int IntKind.u8 0).cells (0 + n - 0) ++ Builtin.zeroCells (Value.int IntKind.u8 0).cells (N - (0 + n))).toList) ?_ rfl ?_ hmx (by simp) 1 _ (upd_same _ _ _)
    · have e : (cellsB [] ++ (#[] ++ Builtin.zeroCells (Value.int IntKind.u8 0).cells (0 + n - 0) ++ Builtin.zeroCells (Value.int IntKind.u8 0).cells (N - (0 + n))).toList).toArray = #[] ++ Builtin.zeroCells (Value.int IntKind.u8 0).cells (0 + n - 0) ++ Builtin.zeroCells (Value.int IntKind.u8 0).cells (N - (0 + n)) := by
        apply Array.toList_inj.1
        simp [cellsB]
      rw [e]
      exact h3
    · have h1 := size_zeroCells (Value.int IntKind.u8 0).cells (0 + n - 0)
      have h2 := size_zeroCells (Value.int IntKind.u8 0).cells (N - (0 + n))
      rw [show (Value.int IntKind.u8 0).cells.size = 1 from rfl] at h1 h2
      simp only [List.length_append, cellsB_length, List.length_nil, Array.toList_append, Array.length_toList]
      rw [h1, h2]
      simp
      omega

/-- The bytes of some rows, one behind the other. -/
def cat (P : List (Option Addr × Nat × List Nat)) : List Nat := (P.map fun p => p.2.2).flatten
theorem cat_take {P : List (Option Addr × Nat × List Nat)} {k : Nat} {p : Option Addr × Nat × List Nat} (h : P[k]? = some p) : cat (P.take (k + 1)) = cat (P.take k) ++ p.2.2 := by
  unfold cat
  rw [List.take_add_one, h]
  simp
theorem cat_le {P : List (Option Addr × Nat × List Nat)} (k : Nat) : (cat (P.take k)).length ≤ (cat P).length := by
  have : cat P = cat (P.take k) ++ cat (P.drop k) := by unfold cat; rw [← List.flatten_append, ← List.map_append, List.take_append_drop]
  rw [this, List.length_append]
  omega
set_option maxHeartbeats 2000000 in
theorem concat_any (g : Nat) (P : List (Option Addr × Nat × List Nat)) (w : World) (hlt : g < w.heap.size) (hrow : ∀ i p, P[i]? = some p → w.cell? ⟨g, i, none⟩ = some (.slice p.1 p.2.2.length p.2.1)) (his : ∀ p ∈ P, IsB w p.1 p.2.2 ∧ (p.1 = none → p.2.1 = 0)) (hP : P.length ≤ 1000000) (hsum : (cat P).length ≤ 100000000000) (n : Nat) (hn : n = P.length) :
    Calls Tryd.prog 41 #[.slice (some ⟨g, 0, none⟩) n n] w fun e w' => ∃ a c T, e = .returned (.slice a (cat P).length c) ∧ OwnB 1 T w' (.slice a (cat P).length c) (cat P) ∧ Below w.heap.size w w' ∧ (∀ b, b < w.heap.size → T b = 0) := by
  subst hn
  have HR := Qb.hid hrow
  have HIS := Qb.hid his
  clear hrow his
  go_enter Tryd.func41, Tryd.ntmps41
  go_wp2
  go_loopw [3, 11] (fun z i wr => ∃ k : Nat, k ≤ P.length ∧ i = .int .i64 (k : Int) ∧ z = .int .i64 ((cat (P.take k)).length : Int) ∧ wr = w) (fun _ i _ => P.length - (intOf i).toNat)
  case atStart => exact ⟨0, by omega, rfl, rfl, rfl⟩
  case round =>
    obtain ⟨k, hk, rfl, rfl, hw⟩ := hrel
    rename World => wr
    subst hw
    by_cases hlt' : k < P.length
    · obtain ⟨p, hp⟩ : ∃ p, P[k]? = some p := ⟨_, List.getElem?_eq_getElem hlt'⟩
      have q1 : (k : Int) < (P.length : Int) := by omega
      have r1 := HR.out k p hp
      have hc := cat_take hp
      have hle := cat_le (P := P) (k + 1)
      have HC : Hid ((cat (P.take (k + 1))).length = (cat (P.take k)).length + p.2.2.length) := by apply Qb.hid; rw [hc, List.length_append]
      have hl2 := HC.out
      clear hc
      generalize (cat (P.take k)).length = X at *
      go_wp2
      go_roundw
      case rel => exact ⟨k + 1, by omega, by go_num, by rw [HC.out]; simp, trivial⟩
      case measure => simp [intOf]; omega
    · have hk' : k = P.length := by omega
      subst hk'
      rw [List.take_length]
      go_wp2_with (go_at_call 66; go_loud (refine (grow_any (cat P).length wr hsum).mono ?_; rintro e w1 ⟨a1, c1, T1, rfl, ho1, hb1, ht1⟩; have HO1 := Qb.hid ho1; have HB1 := Qb.hid hb1; have HT1 := Qb.hid ht1; clear ho1 hb1 ht1))
      go_loopw [6, 27] (fun v i w2 => ∃ (k : Nat) (a : Option Addr) (c : Nat) (T : Nat → Nat), k ≤ P.length ∧ i = .int .i64 (k : Int) ∧ v = .slice a (cat (P.take k)).length c ∧ Hid (OwnB 1 T w2 (.slice a (cat (P.take k)).length c) (cat (P.take k)) ∧ Below wr.heap.size wr w2 ∧ ∀ b, b < wr.heap.size → T b = 0)) (fun _ i _ => P.length - (intOf i).toNat)
      case atStart => exact ⟨0, a1, c1, T1, by omega, rfl, rfl, HO1.out, HB1.out, HT1.out⟩
      case round =>
        obtain ⟨k, a2, c2, T2, hk, rfl, rfl, HI2⟩ := hrel
        rename World => w2
        by_cases hlt' : k < P.length
        · obtain ⟨p, hp⟩ : ∃ p, P[k]? = some p := ⟨_, List.getElem?_eq_getElem hlt'⟩
          have q1 : (k : Int) < (P.length : Int) := by omega
          have r1 := (HI2.out.2.1.cell (p := ⟨g, k, none⟩) hlt).trans (HR.out k p hp)
          have hpm : p ∈ P := List.mem_of_getElem? hp
          have HPI := Qb.hid ((HIS.out p hpm).1.below HI2.out.2.1)
          have HPN := Qb.hid (HIS.out p hpm).2
          have hle := cat_le (P := P) (k + 1)
          have HC := Qb.hid (cat_take hp)
          rw [cat_take hp, List.length_append] at hle
          go_wp2_with (at_builtin; go_loud (refine wpList_app8n ((cat (P.take k)).length + p.2.2.length) _ (by rfl) (.tmp 31) (.tmp 32) (by rfl) 1 T2 _ (cat (P.take k)) (by rfl) HI2.out.1 p.1 p.2.2.length p.2.1 p.2.2 (by rfl) rfl HPN.out HPI.out (by omega) rfl ?_; intro a3 c3 T3 w3 ho3 hg3; have HF3 : Hid (OwnB 1 T3 w3 (.slice a3 ((cat (P.take k)).length + p.2.2.length) c3) (cat (P.take k) ++ p.2.2) ∧ Below wr.heap.size wr w3 ∧ ∀ b, b < wr.heap.size → T3 b = 0) := Qb.hid ⟨ho3, below_goes HI2.out.2.1 hg3 (fun b hb => (by rw [HI2.out.2.2 b hb]; omega)), fun b hb => (hg3.tag b (Nat.lt_of_lt_of_le hb HI2.out.2.1.size) (by rw [HI2.out.2.2 b hb]; omega)).trans (HI2.out.2.2 b hb)⟩; clear ho3 hg3))
          go_roundw
          case rel => exact ⟨k + 1, a3, c3, T3, by omega, by go_num, by rw [HC.out, List.length_append], by rw [HC.out, List.length_append]; exact HF3.out⟩
          case measure => simp [intOf]; omega
        · have hk' : k = P.length := by omega
          subst hk'
          rw [List.take_length] at HI2 ⊢
          go_wp2
          go_ret
          exact ⟨a2, c2, T2, rfl, HI2.out.1, HI2.out.2.1, HI2.out.2.2⟩

end Tbl
end Go.Proofs.YtnhhalabmmcemaaDoor
namespace Go.Proofs.YtnhhalabmmcemaaDoor
namespace Tbl
open Go.RowKit CMath Byt Laws Irw Crw Cod Qb
set_option linter.unusedVariables false
set_option linter.unusedSimpArgs false
set_option maxRecDepth 20000

theorem TmAt.setFin {t : Nat} {T T' : Nat → Nat} {w w' : World} {M : Nat} {bb r bits : Int} {S : Ts} (p : TmAt t T w M bb r bits S) (hg : Goes (fun _ => False) T w T' w') :
    TmAt t T' (w'.setCell ⟨M, 13, none⟩ (.bool true)) M bb r bits ⟨S.cur, S.idx, S.keys, S.laid, S.mt, true⟩ ∧ Goes (Tk t) T w T' (w'.setCell ⟨M, 13, none⟩ (.bool true)) := by
  have e : ¬ (fun _ => False) (T M) := by rw [p.tag]; simp
  have hT : T' M = t := (hg.tag M p.lt e).trans p.tag
  have hl : M < w'.heap.size := Nat.lt_of_lt_of_le p.lt hg.size
  have hc : ∀ i, w'.cell? ⟨M, i, none⟩ = w.cell? ⟨M, i, none⟩ := fun i => hg.cell p.lt e
  have hs : Goes (· = t) T' w' T' (w'.setCell ⟨M, 13, none⟩ (.bool true)) := Goes.setCell hT
  obtain ⟨C, hC, hm⟩ := p.cur
  obtain ⟨q, hq⟩ := p.ix
  obtain ⟨v5, h5, o5⟩ := p.keys
  obtain ⟨v6, h6, o6⟩ := p.laid
  have hof : ∀ i, i ≠ 13 → (w'.setCell ⟨M, 13, none⟩ (.bool true)).cell? ⟨M, i, none⟩ = w.cell? ⟨M, i, none⟩ := fun i hi => (World.cell?_setCell_other _ _ _ _ (by intro h; exact hi (congrArg Addr.off h).symm)).trans (hc i)
  have hfz : ∀ i, (w'.setCell ⟨M, 13, none⟩ (.bool true)).frozen? ⟨M, i, none⟩ = false := fun i => by rw [World.frozen?_setCell]; exact (World.frozen?_of_block (a := ⟨M, i, none⟩) (hg.block M p.lt e)).trans (p.fz i)
  exact ⟨⟨by simpa using hl, hT, ⟨C, (hof 0 (by omega)).trans hC, (hm.goes hg (by simp) (by simp) (by simp)).goes hs (by simp) (by first | omega | (simp; done) | (simp; omega)) (by first | omega | (simp; done) | (simp; omega))⟩, fun hE => (by cases hE), ⟨q, (hof 1 (by omega)).trans hq⟩, (hof 2 (by omega)).trans p.c2, (hof 3 (by omega)).trans p.c3, (hof 4 (by omega)).trans p.c4, ⟨v5, (hof 5 (by omega)).trans h5, (o5.goes hg (by simp)).goes hs (by simp)⟩, ⟨v6, (hof 6 (by omega)).trans h6, (o6.goes hg (by simp)).goes hs (by simp)⟩, fun j hj => (hof _ (by omega)).trans (p.mt j hj), World.cell?_setCell_same _ _ _ ((hc 13).trans p.fin), hfz⟩, (hg.mono fun x hx => (by exact hx.elim)).trans (hs.mono fun x hx => (by have h := hx; first | (subst h; constructor <;> omega) | (simp at h; subst h; constructor <;> omega)))⟩
theorem TmAt.setIxNil {t : Nat} {T T' : Nat → Nat} {w w' : World} {M : Nat} {bb r bits : Int} {S : Ts} (p : TmAt t T w M bb r bits S) (hg : Goes (fun _ => False) T w T' w') (hE1 : S.ended = true) :
    TmAt t T' (w'.setCell ⟨M, 1, none⟩ (.pointer none)) M bb r bits ⟨S.cur, S.idx, S.keys, S.laid, S.mt, S.ended⟩ ∧ Goes (Tk t) T w T' (w'.setCell ⟨M, 1, none⟩ (.pointer none)) := by
  have e : ¬ (fun _ => False) (T M) := by rw [p.tag]; simp
  have hT : T' M = t := (hg.tag M p.lt e).trans p.tag
  have hl : M < w'.heap.size := Nat.lt_of_lt_of_le p.lt hg.size
  have hc : ∀ i, w'.cell? ⟨M, i, none⟩ = w.cell? ⟨M, i, none⟩ := fun i => hg.cell p.lt e
  have hs : Goes (· = t) T' w' T' (w'.setCell ⟨M, 1, none⟩ (.pointer none)) := Goes.setCell hT
  obtain ⟨C, hC, hm⟩ := p.cur
  obtain ⟨q, hq⟩ := p.ix
  obtain ⟨v5, h5, o5⟩ := p.keys
  obtain ⟨v6, h6, o6⟩ := p.laid
  have hof : ∀ i, i ≠ 1 → (w'.setCell ⟨M, 1, none⟩ (.pointer none)).cell? ⟨M, i, none⟩ = w.cell? ⟨M, i, none⟩ := fun i hi => (World.cell?_setCell_other _ _ _ _ (by intro h; exact hi (congrArg Addr.off h).symm)).trans (hc i)
  have hfz : ∀ i, (w'.setCell ⟨M, 1, none⟩ (.pointer none)).frozen? ⟨M, i, none⟩ = false := fun i => by rw [World.frozen?_setCell]; exact (World.frozen?_of_block (a := ⟨M, i, none⟩) (hg.block M p.lt e)).trans (p.fz i)
  exact ⟨⟨by simpa using hl, hT, ⟨C, (hof 0 (by omega)).trans hC, (hm.goes hg (by simp) (by simp) (by simp)).goes hs (by simp) (by first | omega | (simp; done) | (simp; omega)) (by first | omega | (simp; done) | (simp; omega))⟩, fun hE => (by rw [hE1] at hE; cases hE), ⟨_, World.cell?_setCell_same _ _ _ ((hc 1).trans hq)⟩, (hof 2 (by omega)).trans p.c2, (hof 3 (by omega)).trans p.c3, (hof 4 (by omega)).trans p.c4, ⟨v5, (hof 5 (by omega)).trans h5, (o5.goes hg (by simp)).goes hs (by simp)⟩, ⟨v6, (hof 6 (by omega)).trans h6, (o6.goes hg (by simp)).goes hs (by simp)⟩, fun j hj => (hof _ (by omega)).trans (p.mt j hj), (hof 13 (by omega)).trans p.fin, hfz⟩, (hg.mono fun x hx => (by exact hx.elim)).trans (hs.mono fun x hx => (by have h := hx; first | (subst h; constructor <;> omega) | (simp at h; subst h; constructor <;> omega)))⟩
/-- The maker has ended. -/
def finS (S : Ts) (n : Int) : Ts := ⟨S.cur, S.idx, [], [], ⟨S.mt.wt, n, S.mt.n, S.mt.lo, S.mt.hi⟩, true⟩
theorem TmAt.finish {t : Nat} {T : Nat → Nat} {w : World} {M : Nat} {bb r bits : Int} {S : Ts} (p : TmAt t T w M bb r bits S) (n : Int) :
    TmAt t T (((((w.setCell ⟨M, 9, none⟩ (.int .i64 n)).setCell ⟨M, 13, none⟩ (.bool true)).setCell ⟨M, 1, none⟩ (.pointer none)).setCell ⟨M, 5, none⟩ (.slice none 0 0)).setCell ⟨M, 6, none⟩ (.slice none 0 0)) M bb r bits (finS S n) ∧ Goes (Tk t) T w T (((((w.setCell ⟨M, 9, none⟩ (.int .i64 n)).setCell ⟨M, 13, none⟩ (.bool true)).setCell ⟨M, 1, none⟩ (.pointer none)).setCell ⟨M, 5, none⟩ (.slice none 0 0)).setCell ⟨M, 6, none⟩ (.slice none 0 0)) := by
  obtain ⟨p0, k0⟩ := p.setBytes (Goes.refl (fun _ => False) T _) n
  obtain ⟨p1, k1⟩ := p0.setFin (Goes.refl (fun _ => False) T _)
  obtain ⟨p2, k2⟩ := p1.setIxNil (Goes.refl (fun _ => False) T _) rfl
  obtain ⟨p3, k3⟩ := p2.setKeys (Goes.refl (· = t + 7) T _) (OwnK.empty _ _ _)
  obtain ⟨p4, k4⟩ := p3.setLaid (Goes.refl (· = t + 8) T _) (OwnB.empty _ _ _)
  exact ⟨p4, k0.trans (k1.trans (k2.trans (k3.trans k4)))⟩
theorem isT_of {w : World} {a : Option Addr} {l : List ByteArray} (h : IsK kT w a l) : Tsr.IsT w a l := fun hne => by
  obtain ⟨b, off, e, h1, h2⟩ := h hne
  refine ⟨b, off, e, h1, fun i x hx => ?_⟩
  have := h2 i x hx 0 (.string x) rfl
  rw [show off + i * kT.size + 0 = off + i by show off + i * 1 + 0 = _; omega] at this
  exact this
/-- What a table has ahead of its sum. -/
def whole0 (bits : Int) (S : Ts) : List Nat := S.laid ++ (blk S.idx ++ (BMath.mk (S.keys.map strB) bits ++ foot S.laid.length (blk S.idx).length (BMath.mk (S.keys.map strB) bits).length S.mt))
def whole (bits : Int) (S : Ts) : List Nat := whole0 bits S ++ four (crc (whole0 bits S))
/-- The last block has ended, if it has an entry. -/
def lastS (r : Int) (S : Ts) : Ts := if 8 < curSz S then endS r S else S
/-- What End answers, and what it leaves. -/
def tend (r bits : Int) (S : Ts) : List Nat × Int × Ts :=
  if S.ended = true then ([], 102, S) else if S.mt.n = 0 then ([], 101, S) else ((whole bits (lastS r S)).drop S.laid.length, 0, finS (lastS r S) ((whole bits (lastS r S)).length : Int))

end Tbl
end Go.Proofs.YtnhhalabmmcemaaDoor
namespace Go.Proofs.YtnhhalabmmcemaaDoor
namespace Tbl
open Go.RowKit CMath Byt Laws Irw Crw Cod Qb
set_option linter.unusedVariables false
set_option linter.unusedSimpArgs false
set_option maxRecDepth 20000

theorem demand_ok (w : World) : Calls Tryd.prog 48 #[.bool true] w fun e w' => e = .returned (.tuple #[]) ∧ w' = w := by
  go_enter Tryd.func48, Tryd.ntmps48
  go_wp2
  exact bodyPost_end (results_none Tryd.results48 _ _ _) rfl ⟨rfl, rfl⟩
theorem num_any (n : Int) (w : World) : Calls Tryd.prog 11 #[.int .i64 n] w fun e w' => e = .returned (.int .i64 n) ∧ w' = w := by
  go_enter Tryd.func11, Tryd.ntmps11
  go_wp2
  go_ret
  exact ⟨rfl, rfl⟩
/-- The first n bytes, and the others. -/
def CutIs (a : Option Addr) (L c n : Nat) (w : World) (e : Ending) (w' : World) : Prop := ∃ y, e = .returned (.tuple #[.slice a n n, .slice y (L - n) (c - n)]) ∧ (y = a.map (fun x => x.add n) ∨ (n = c ∧ y = a)) ∧ ∃ m, w' = w.drewN m
set_option maxHeartbeats 1000000 in
theorem cut_ok (a : Option Addr) (L c n : Nat) (w : World) (hL : L ≤ c) (hc : c ≤ 9223372036854775807) (hn : n ≤ L) :
    Calls Tryd.prog 68 #[.slice a L c, .int .u64 (n : Int)] w fun e w' => CutIs a L c n w e w' := by
  have q1 : (n : Int) ≤ (L : Int) := by omega
  have q2 : (n : Int) ≤ (c : Int) := by omega
  have q3 : (L : Int) ≤ (c : Int) := by omega
  have e1 : (L : Int) % 18446744073709551616 = (L : Int) := by omega
  go_enter Tryd.func68, Tryd.ntmps68
  go_wp2_with (go_at_call 48; go_loud (refine (demand_ok _).mono ?_; rintro e w' ⟨rfl, hw⟩; have hw2 := hw.symm; clear hw; subst hw2))
  go_quiet (fail)
  go_wp2
  all_goals go_ret2
  · first | exact ⟨_, rfl, .inl rfl, _, rfl⟩ | exact ⟨_, by rw [Nat.sub_self]; rfl, .inr ⟨rfl, rfl⟩, _, rfl⟩
  · first | exact ⟨_, rfl, .inl rfl, _, rfl⟩ | exact ⟨_, by rw [Nat.sub_self]; rfl, .inr ⟨rfl, rfl⟩, _, rfl⟩

end Tbl
end Go.Proofs.YtnhhalabmmcemaaDoor
