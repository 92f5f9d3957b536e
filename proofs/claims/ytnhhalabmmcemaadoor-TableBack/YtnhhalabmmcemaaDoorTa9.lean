import Derived.Test.YtnhhalabmmcemaaDoorTa6
import Derived.Deep.RegionWith
import Derived.Deep.DeepCutAuto
import Derived.Deep.RegionLaw
namespace Go.Proofs.YtnhhalabmmcemaaDoor
namespace Tbl
open Go.RowKit CMath Byt Laws Irw Crw Cod Qb
set_option linter.unusedVariables false
set_option linter.unusedSimpArgs false
set_option maxRecDepth 20000

/-- What a maker may hold at most. -/
structure Bnd (S : Ts) : Prop where
  b : S.cur.b.length ≤ 4000000000
  p : S.cur.p.length ≤ 4000000000
  n : S.cur.n ≤ 1000000000000
  l : S.laid.length ≤ 100000000000
  ib : S.idx.b.length ≤ 4000000000
  ip : S.idx.p.length ≤ 10000000000
  in_ : S.idx.n ≤ 1000000000000
  hi : S.mt.hi.size ≤ 1000000
  mn : S.mt.n ≤ 1000000000
  ks : S.keys.length ≤ 1000000000
/-- An entry is laid down. -/
def midS (r bits : Int) (S : Ts) (e : En) : Ts := ⟨push (Rn r) S.cur e, S.idx, if 0 < bits then S.keys ++ [e.1] else S.keys, S.laid, S.mt.more e, S.ended⟩
def curSz (S : Ts) : Nat := S.cur.b.length + S.cur.p.length + 8
/-- What Add answers, and what it leaves. -/
def tadd (bb r bits : Int) (S : Ts) (e : En) : List Nat × Int × Ts :=
  if S.ended = true then ([], 102, S) else if layR S e ≠ 0 then ([], layR S e, S) else if (curSz (midS r bits S e) : Int) < bb then ([], 0, midS r bits S e) else (blk (midS r bits S e).cur, 0, endS r (midS r bits S e))
/-- What a call of a maker leaves that answers bytes and an error. -/
def MkIs (t : Nat) (T : Nat → Nat) (w : World) (M : Nat) (bb r bits : Int) (A : List Nat × Int × Ts) (e : Ending) (w' : World) : Prop :=
  ∃ T' v, e = .returned (.tuple #[v, .int .i64 A.2.1]) ∧ OwnB 0 T' w' v A.1 ∧ (∀ g, v.ownBlock = some g → w.heap.size ≤ g) ∧ TmAt t T' w' M bb r bits A.2.2 ∧ Goes (Tk t) T w T' w'
/-- The box with the entry. -/
structure EBox (w : World) (k : ByteArray) (s : Int) (d : Bool) (x : ByteArray) (T : Nat → Nat) (W : World) : Prop where
  lt : w.heap.size < W.heap.size
  tag : T w.heap.size = 0
  c0 : W.cell? ⟨w.heap.size, 0, none⟩ = some (.string k)
  c1 : W.cell? ⟨w.heap.size, 1, none⟩ = some (.int .u64 s)
  c2 : W.cell? ⟨w.heap.size, 2, none⟩ = some (.bool d)
  c3 : W.cell? ⟨w.heap.size, 3, none⟩ = some (.string x)
theorem EBox.goes {w W W' : World} {k : ByteArray} {s : Int} {d : Bool} {x : ByteArray} {T T' : Nat → Nat} {u : Nat → Prop} (h : EBox w k s d x T W) (hg : Goes u T W T' W') (hu : ¬ u 0) : EBox w k s d x T' W' := by
  have e : ¬ u (T w.heap.size) := by rw [h.tag]; exact hu
  exact ⟨Nat.lt_of_lt_of_le h.lt hg.size, (hg.tag _ h.lt e).trans h.tag, (hg.cell h.lt e).trans h.c0, (hg.cell h.lt e).trans h.c1, (hg.cell h.lt e).trans h.c2, (hg.cell h.lt e).trans h.c3⟩
theorem EBox.first {w : World} {k : ByteArray} {s : Int} {d : Bool} {x : ByteArray} {T : Nat → Nat} (hi : Hi T w) : EBox w k s d x T (w.alloc (.cells #[.string k, .int .u64 s, .bool d, .string x] 43)) :=
  ⟨by simp, hi _ (Nat.le_refl _), (first_keep (Below.refl _ _)).2.1 0, (first_keep (Below.refl _ _)).2.1 1, (first_keep (Below.refl _ _)).2.1 2, (first_keep (Below.refl _ _)).2.1 3⟩
theorem tk0 {t : Nat} (ht : t ≠ 0) : ¬ Tk t 0 := fun h => ht (by have := h.1; omega)
theorem infoT : (Tryd.prog.info? 9).map (fun i => (i.zero, i.size, i.bytes)) = some (some kT.zero, 1, 16) := by kernel_rfl
theorem undT : Tryd.prog.underlying 78 = some (.slice 9) := by kernel_rfl
theorem isT_new2 {w : World} {v : ByteArray} {u : TypeId} {g : Nat} (hg : w.heap.size = g) : IsK kT (w.alloc (.cells #[.string v] u)) (some ⟨g, 0, none⟩) [v] := by
  subst hg
  refine IsK.of ⟨by simp, fun i z hz j u hu => ?_⟩
  cases i with
  | zero =>
    simp at hz; subst hz
    rw [World.cell?_alloc_at _ _ _ _ rfl]
    cases j with
    | zero => exact hu
    | succ j => exact absurd hu (by rw [show (kT.cs v)[j + 1]? = none from rfl]; simp)
  | succ i => simp at hz
theorem add_ks {t : Nat} {T T2 T6 : Nat → Nat} {w w3 W w6 : World} {M : Nat} {bb r bits : Int} {S : Ts} {v : Value} {l : List ByteArray} (hp : TmAt t T2 w3 M bb r bits S) (hg : Goes (Tk t) T w T2 w3) (hb : Below w3.heap.size w3 W) (ho : OwnK kT (t + 7) T6 w6 v l) (h6 : Goes (· = t + 7) T2 W T6 w6) :
    ∃ T', TmAt t T' (w6.setCell ⟨M, 5, none⟩ v) M bb r bits ⟨S.cur, S.idx, l, S.laid, S.mt, S.ended⟩ ∧ Goes (Tk t) T w T' (w6.setCell ⟨M, 5, none⟩ v) := by
  obtain ⟨h1, h2⟩ := hp.setKeys ((Goes.below hb).trans h6) ho
  exact ⟨T6, h1, hg.trans h2⟩
theorem add_mt {t : Nat} {T T1 : Nat → Nat} {w w1 w2 : World} {M : Nat} {bb r bits : Int} {S : Ts} {k : ByteArray} {s : Int} {d : Bool} {x : ByteArray} (ht : t ≠ 0) (hp : TmAt t T1 w1 M bb r bits S) (hg : Goes (Tk t) T w T1 w1) (he : EBox w k s d x T1 w1) (hb : Below w1.heap.size w1 w2) (m : Mt) :
    ∃ T2, TmAt t T2 ((((((w2.setCell ⟨M, 7, none⟩ (.int .u64 0)).setCell ⟨M, 8, none⟩ (.int .i64 m.wt)).setCell ⟨M, 9, none⟩ (.int .i64 m.by_)).setCell ⟨M, 10, none⟩ (.int .i64 (m.n : Int))).setCell ⟨M, 11, none⟩ (.string m.lo)).setCell ⟨M, 12, none⟩ (.string m.hi)) M bb r bits ⟨S.cur, S.idx, S.keys, S.laid, m, S.ended⟩ ∧ Goes (Tk t) T w T2 ((((((w2.setCell ⟨M, 7, none⟩ (.int .u64 0)).setCell ⟨M, 8, none⟩ (.int .i64 m.wt)).setCell ⟨M, 9, none⟩ (.int .i64 m.by_)).setCell ⟨M, 10, none⟩ (.int .i64 (m.n : Int))).setCell ⟨M, 11, none⟩ (.string m.lo)).setCell ⟨M, 12, none⟩ (.string m.hi)) ∧ EBox w k s d x T2 ((((((w2.setCell ⟨M, 7, none⟩ (.int .u64 0)).setCell ⟨M, 8, none⟩ (.int .i64 m.wt)).setCell ⟨M, 9, none⟩ (.int .i64 m.by_)).setCell ⟨M, 10, none⟩ (.int .i64 (m.n : Int))).setCell ⟨M, 11, none⟩ (.string m.lo)).setCell ⟨M, 12, none⟩ (.string m.hi)) := by
  obtain ⟨h1, h2⟩ := (hp.below hb).setMt m
  have hb' : Goes (Tk t) T1 w1 T1 w2 := Goes.below hb
  exact ⟨T1, h1, (hg.trans hb').trans h2, (he.goes hb' (tk0 ht)).goes h2 (tk0 ht)⟩
theorem add_end {t : Nat} {T T7 T8 : Nat → Nat} {w W w8 : World} {q M : Nat} {bb r bits : Int} {S : Ts} {v : Value} {l : List Nat} (ht : t ≠ 0) (hg7 : Goes (Tk t) T w T7 W) (ho : OwnB 0 T8 w8 v l) (hf : ∀ g, v.ownBlock = some g → (W.drewN q).heap.size ≤ g) (hp : TmAt t T8 w8 M bb r bits S) (hg : Goes (Tk t) T7 (W.drewN q) T8 w8) : MkIs t T w M bb r bits (l, 0, S) (.returned (.tuple #[v, .int .i64 0])) w8 :=
  ⟨T8, v, rfl, ho, fun g h => Nat.le_trans hg7.size (Nat.le_trans (below_drewN (Below.refl W.heap.size W) q).size (hf g h)), hp, (hg7.trans (Goes.below (below_drewN (Below.refl _ _) q))).trans hg⟩
set_option maxHeartbeats 2000000 in
theorem tadd_any (t : Nat) (T : Nat → Nat) (w : World) (M : Nat) (bb r bits : Int) (S : Ts) (k : ByteArray) (s : Nat) (d : Bool) (x : ByteArray) (p : TmAt t T w M bb r bits S) (hi : Hi T w) (ht : t ≠ 0) (hT : Tab w) (h00 : T 0 = 0) (hk : k.size ≤ 1000000) (hx : x.size ≤ 1000000) (hb : Bnd S) (hb2 : Bnd (midS r bits S (k, (s : Int), d, x))) (hr : -9223372036854775808 ≤ r ∧ r ≤ 9223372036854775807) :
    Calls Tryd.prog 20 #[.pointer (some ⟨M, 0, none⟩), .agg #[.string k, .int .u64 (s : Int), .bool d, .string x]] w fun e w' => MkIs t T w M bb r bits (tadd bb r bits S (k, (s : Int), d, x)) e w' := by
  have hlt := p.lt
  have HP : Hid (TmAt t T w M bb r bits S) := p
  have HI : Hid (Hi T w) := hi
  obtain ⟨W0, hW0⟩ : ∃ W0, w.alloc (.cells #[.string k, .int .u64 (s : Int), .bool d, .string x] 43) = W0 := ⟨_, rfl⟩
  have HB0 : Hid (Below w.heap.size w W0) := by rw [← hW0]; exact (Below.refl _ _).alloc (Nat.le_refl _) _
  have HE0 : Hid (EBox w k (s : Int) d x T W0) := by rw [← hW0]; exact EBox.first hi
  have hfin : W0.cell? ⟨M, 13, none⟩ = some (.bool S.ended) := (HB0.out.cell (p := ⟨M, 13, none⟩) hlt).trans p.fin
  have e0 := HE0.out.c0
  have e1 := HE0.out.c1
  have e2 := HE0.out.c2
  have e3 := HE0.out.c3
  clear p hi
  by_cases hE : S.ended = true
  · rw [hE] at hfin
    have hA : tadd bb r bits S (k, (s : Int), d, x) = ([], 102, S) := by unfold tadd; rw [if_pos hE]
    rw [hA]
    go_enter Tryd.func20, Tryd.ntmps20
    go_wp2
    go_ret2
    exact ⟨T, _, rfl, OwnB.empty _ _ _, fun g hg => (by simp [Value.ownBlock] at hg), HP.out.below HB0.out, Goes.below HB0.out⟩
  · have hE' : S.ended = false := by simpa using hE
    rw [hE'] at hfin
    have HLAY : Hid (Calls Tryd.prog 34 #[.pointer (some ⟨M, 0, none⟩), .agg #[.string k, .int .u64 (s : Int), .bool d, .string x]] W0 fun e w' => LayIs t T W0 M bb r bits S (k, (s : Int), d, x) e w') := by
      exact lay_any t T W0 M bb r bits S k s d x (HP.out.below HB0.out) (HI.out.below HB0.out.size) ht hk hx hb.b (by have := hb.p; omega) hb.n hr
    by_cases hR : layR S (k, (s : Int), d, x) = 0
    · have g0 : (layR S (k, (s : Int), d, x) != 0) = false := by simp [hR]
      obtain ⟨m2, hm2⟩ : ∃ m, S.mt.more (k, (s : Int), d, x) = m := ⟨_, rfl⟩
      have HCNT : Hid (∀ W, Calls Tryd.prog 35 #[.agg #[.int .u64 0, .int .i64 S.mt.wt, .int .i64 S.mt.by_, .int .i64 (S.mt.n : Int), .string S.mt.lo, .string S.mt.hi], .agg #[.string k, .int .u64 (s : Int), .bool d, .string x]] W fun e w' => e = .returned (.agg #[.int .u64 0, .int .i64 m2.wt, .int .i64 m2.by_, .int .i64 (m2.n : Int), .string m2.lo, .string m2.hi]) ∧ Below W.heap.size W w') := fun W => by
        have h := counted_any S.mt k (s : Int) d x W (by have := hb.mn; omega)
        rw [hm2] at h
        exact h
      go_enter Tryd.func20, Tryd.ntmps20
      go_upto_region 6 with (go_at_call 34; go_loud (refine HLAY.out.mono ?_; rintro e w1 ⟨T1, rfl, hp1, hg1⟩; have HG1 := Qb.hid ((Goes.below HB0.out).trans hg1); have HP1 : Hid (TmAt t T1 w1 M bb r bits ⟨push (Rn r) S.cur (k, (s : Int), d, x), S.idx, S.keys, S.laid, S.mt, S.ended⟩) := (by unfold layS at hp1; rw [if_pos hR] at hp1; exact Qb.hid hp1); have HE1 := Qb.hid (HE0.out.goes hg1 (tk0 ht)); clear hp1 hg1))
      clear hW0 hfin e0 e1 e2 e3 HB0 HE0 HLAY
      have f0 := HE1.out.c0
      have f1 := HE1.out.c1
      have f2 := HE1.out.c2
      have f3 := HE1.out.c3
      have k7 : w1.cell? ⟨M, 7, none⟩ = some (.int .u64 0) := HP1.out.mt 0 (by omega)
      have k8 : w1.cell? ⟨M, 8, none⟩ = some (.int .i64 S.mt.wt) := HP1.out.mt 1 (by omega)
      have k9 : w1.cell? ⟨M, 9, none⟩ = some (.int .i64 S.mt.by_) := HP1.out.mt 2 (by omega)
      have k10 : w1.cell? ⟨M, 10, none⟩ = some (.int .i64 (S.mt.n : Int)) := HP1.out.mt 3 (by omega)
      have k11 : w1.cell? ⟨M, 11, none⟩ = some (.string S.mt.lo) := HP1.out.mt 4 (by omega)
      have k12 : w1.cell? ⟨M, 12, none⟩ = some (.string S.mt.hi) := HP1.out.mt 5 (by omega)
      have HFZ := Qb.hid HP1.out.fz
      have hlt1 : M < w1.heap.size := HP1.out.lt
      go_cut [0, 3] (fun v0 v3 w' => v0 = .pointer (some ⟨M, 0, none⟩) ∧ v3 = .pointer (some ⟨w.heap.size, 0, none⟩) ∧ Hid (∃ T2, TmAt t T2 w' M bb r bits ⟨push (Rn r) S.cur (k, (s : Int), d, x), S.idx, S.keys, S.laid, m2, S.ended⟩ ∧ Goes (Tk t) T w T2 w' ∧ EBox w k (s : Int) d x T2 w'))
      case first =>
        go_region_with ((go_at_call 35; go_loud (refine (HCNT.out _).mono ?_; rintro e w2 ⟨rfl, hb2'⟩; have hb2 : Below w1.heap.size w1 w2 := (by first | exact hb2' | exact ((Below.refl _ _).drew).trans hb2'); have y7 := (hb2.cell (p := ⟨M, 7, none⟩) hlt1).trans k7; have y8 := (hb2.cell (p := ⟨M, 8, none⟩) hlt1).trans k8; have y9 := (hb2.cell (p := ⟨M, 9, none⟩) hlt1).trans k9; have y10 := (hb2.cell (p := ⟨M, 10, none⟩) hlt1).trans k10; have y11 := (hb2.cell (p := ⟨M, 11, none⟩) hlt1).trans k11; have y12 := (hb2.cell (p := ⟨M, 12, none⟩) hlt1).trans k12; have z7 := (World.frozen?_of_block (a := ⟨M, 7, none⟩) (hb2.block M hlt1)).trans (HFZ.out 7); have z8 := (World.frozen?_of_block (a := ⟨M, 8, none⟩) (hb2.block M hlt1)).trans (HFZ.out 8); have z9 := (World.frozen?_of_block (a := ⟨M, 9, none⟩) (hb2.block M hlt1)).trans (HFZ.out 9); have z10 := (World.frozen?_of_block (a := ⟨M, 10, none⟩) (hb2.block M hlt1)).trans (HFZ.out 10); have z11 := (World.frozen?_of_block (a := ⟨M, 11, none⟩) (hb2.block M hlt1)).trans (HFZ.out 11); have z12 := (World.frozen?_of_block (a := ⟨M, 12, none⟩) (hb2.block M hlt1)).trans (HFZ.out 12); have HF2 := Qb.hid (add_mt ht HP1.out HG1.out HE1.out hb2 m2); clear hb2 hb2')))
        all_goals (
          go_wp2
          go_meet
          case rel => exact ⟨rfl, rfl, HF2⟩)
      case rest =>
        obtain ⟨rfl, rfl, HF2⟩ := hcut
        rename World => w3
        obtain ⟨T2, hp2, hg2, he2⟩ := HF2.out
        have HP2 := Qb.hid hp2
        have HG2 := Qb.hid hg2
        have HE2 := Qb.hid he2
        have c4 : w3.cell? ⟨M, 4, none⟩ = some (.int .i64 bits) := hp2.c4
        have b0 := he2.c0
        obtain ⟨v5, k5, o5⟩ := hp2.keys
        obtain ⟨a5, c5, rfl, _⟩ := o5.form
        have HO5 := Qb.hid o5
        have hlt3 : M < w3.heap.size := hp2.lt
        have hbox : w.heap.size < w3.heap.size := he2.lt
        have e5 : ¬ (T2 M = t + 7) := by rw [hp2.tag]; omega
        have HFZ3 := Qb.hid (hp2.fz 5)
        obtain ⟨i0, hi0, hz0, hz1, hz2⟩ := info_parts infoT
        clear hp2 hg2 he2 o5 f0 f1 f2 f3 k7 k8 k9 k10 k11 k12 HCNT HFZ
        by_cases hbits : 0 < bits
        · go_upto_region 8 with (fail)
          go_cut [0] (fun v0 w' => v0 = .pointer (some ⟨M, 0, none⟩) ∧ Hid (∃ T', TmAt t T' w' M bb r bits ⟨push (Rn r) S.cur (k, (s : Int), d, x), S.idx, S.keys ++ [k], S.laid, m2, S.ended⟩ ∧ Goes (Tk t) T w T' w'))
          case first =>
            go_region_law ((refine step_appK kT _ (by rfl) (.tmp 35) (.tmp 38) 78 (by rfl) i0 Tryd.underlying78 hi0 hz0 hz1 hz2 (t + 7) T2 (.slice a5 S.keys.length c5) S.keys (by simp [Act.eval, Act.put]) (HO5.out.below (((Below.refl _ _).drew).alloc (by simp) _)) (some ⟨w3.heap.size, 0, none⟩) 1 1 [k] (by simp [Act.eval, Act.put]) rfl (by simp) (isT_new2 rfl) (by have := hb.ks; simp; omega) ?_; intro a6 c6 T6 w6 ho6 hg6; have y5 : w6.cell? ⟨M, 5, none⟩ = some (.slice a5 S.keys.length c5) := (((Goes.below (t := (· = t + 7)) (((Below.refl _ _).drew).alloc (by simp) _)).trans hg6).cell hlt3 e5).trans k5; have z5 : w6.frozen? ⟨M, 5, none⟩ = false := (World.frozen?_of_block (a := ⟨M, 5, none⟩) (((Goes.below (t := (· = t + 7)) (((Below.refl _ _).drew).alloc (by simp) _)).trans hg6).block M hlt3 e5)).trans HFZ3.out; have HF6 := Qb.hid (add_ks HP2.out HG2.out (((Below.refl _ _).drew).alloc (by simp) _) ho6 hg6); clear ho6 hg6))
            all_goals (
              go_wp2
              go_meet
              case rel => exact ⟨rfl, HF6⟩)
          case rest =>
            obtain ⟨rfl, HF6⟩ := hcut
            rename World => w7
            obtain ⟨T7, hp7, hg7⟩ := HF6.out
            have HM7 : Hid (TmAt t T7 w7 M bb r bits (midS r bits S (k, (s : Int), d, x))) := by
              apply Qb.hid
              unfold midS
              rw [if_pos hbits, hm2]
              exact hp7
            have HG7 := Qb.hid hg7
            obtain ⟨C7, j0, hmk7⟩ := HM7.out.cur
            have j2 : w7.cell? ⟨M, 2, none⟩ = some (.int .i64 bb) := hp7.c2
            have HSZ : Hid (∀ q, Calls Tryd.prog 36 #[.pointer (some ⟨C7, 0, none⟩)] (w7.drewN q) fun e w' => e = .returned (.int .i64 ((curSz (midS r bits S (k, (s : Int), d, x)) : Nat) : Int)) ∧ ∃ n, w' = (w7.drewN q).drewN n) := fun q => size_any (t + 1) T7 _ C7 r _ (hmk7.below (below_drewN (Below.refl _ _) q)) (by have := hb2.b; omega) (by have := hb2.p; omega)
            have hlt7 : M < w7.heap.size := hp7.lt
            have HEB : Hid (∀ q, Calls Tryd.prog 37 #[.pointer (some ⟨M, 0, none⟩)] (w7.drewN q) fun e w' => EbIs t T7 (w7.drewN q) M bb r bits (midS r bits S (k, (s : Int), d, x)) e w') := fun q => endBlock_any t T7 _ M bb r bits _ (HM7.out.below (below_drewN (Below.refl _ _) q)) ((HI.out.goes HG7.out).below (below_drewN (Below.refl w7.heap.size w7) q).size) ht hE' ((hT.keep (HG7.out.block 0 hT.lt (by rw [h00]; exact tk0 ht)) HG7.out.size).below (below_drewN (Below.refl _ _) q) (Nat.lt_of_lt_of_le hT.lt HG7.out.size)) hb2.hi hb2.b hb2.p hb2.l hb2.ib hb2.ip hb2.in_ hr
            clear hp7 hg7 hmk7
            by_cases hsz : ((curSz (midS r bits S (k, (s : Int), d, x)) : Nat) : Int) < bb
            · have hA : tadd bb r bits S (k, (s : Int), d, x) = ([], 0, midS r bits S (k, (s : Int), d, x)) := by unfold tadd; rw [if_neg hE, if_neg (by simpa using hR), if_pos hsz]
              go_wp2
              go_quiet ((go_at_call 36; exact Calls.quiet_of (HSZ.out _)))
              go_wp2
              go_ret2
              rw [hA]
              exact ⟨T7, _, rfl, OwnB.empty _ _ _, fun g hg => (by simp [Value.ownBlock] at hg), HM7.out.below (below_drewN (Below.refl _ _) _), HG7.out.trans (Goes.below (below_drewN (Below.refl _ _) _))⟩
            · have hA : tadd bb r bits S (k, (s : Int), d, x) = (blk (midS r bits S (k, (s : Int), d, x)).cur, 0, endS r (midS r bits S (k, (s : Int), d, x))) := by unfold tadd; rw [if_neg hE, if_neg (by simpa using hR), if_neg hsz]
              go_wp2
              go_quiet ((go_at_call 36; exact Calls.quiet_of (HSZ.out _)))
              go_wp2_with (go_at_call 37; go_loud (refine (HEB.out _).mono ?_; rintro e w8 ⟨T8, v8, rfl, ho8, hf8, hp8, hg8⟩; have HF8 := Qb.hid (add_end ht HG7.out ho8 hf8 hp8 hg8); obtain ⟨a8, c8, rfl, _⟩ := ho8.form; clear ho8 hf8 hp8 hg8))
              go_ret2
              rw [hA]
              exact HF8.out
        · have HBT := Qb.hid hbits
          obtain ⟨T7, hp7, hg7⟩ : ∃ T', TmAt t T' w3 M bb r bits ⟨push (Rn r) S.cur (k, (s : Int), d, x), S.idx, S.keys, S.laid, m2, S.ended⟩ ∧ Goes (Tk t) T w T' w3 := ⟨T2, HP2.out, HG2.out⟩
          have HM7 : Hid (TmAt t T7 w3 M bb r bits (midS r bits S (k, (s : Int), d, x))) := by
            apply Qb.hid
            unfold midS
            rw [if_neg hbits, hm2]
            exact hp7
          have HG7 := Qb.hid hg7
          obtain ⟨C7, j0, hmk7⟩ := HM7.out.cur
          have j2 : w3.cell? ⟨M, 2, none⟩ = some (.int .i64 bb) := hp7.c2
          have HSZ : Hid (∀ q, Calls Tryd.prog 36 #[.pointer (some ⟨C7, 0, none⟩)] (w3.drewN q) fun e w' => e = .returned (.int .i64 ((curSz (midS r bits S (k, (s : Int), d, x)) : Nat) : Int)) ∧ ∃ n, w' = (w3.drewN q).drewN n) := fun q => size_any (t + 1) T7 _ C7 r _ (hmk7.below (below_drewN (Below.refl _ _) q)) (by have := hb2.b; omega) (by have := hb2.p; omega)
          have hlt7 : M < w3.heap.size := hp7.lt
          have HEB : Hid (∀ q, Calls Tryd.prog 37 #[.pointer (some ⟨M, 0, none⟩)] (w3.drewN q) fun e w' => EbIs t T7 (w3.drewN q) M bb r bits (midS r bits S (k, (s : Int), d, x)) e w') := fun q => endBlock_any t T7 _ M bb r bits _ (HM7.out.below (below_drewN (Below.refl _ _) q)) ((HI.out.goes HG7.out).below (below_drewN (Below.refl w3.heap.size w3) q).size) ht hE' ((hT.keep (HG7.out.block 0 hT.lt (by rw [h00]; exact tk0 ht)) HG7.out.size).below (below_drewN (Below.refl _ _) q) (Nat.lt_of_lt_of_le hT.lt HG7.out.size)) hb2.hi hb2.b hb2.p hb2.l hb2.ib hb2.ip hb2.in_ hr
          clear hp7 hg7 hmk7
          by_cases hsz : ((curSz (midS r bits S (k, (s : Int), d, x)) : Nat) : Int) < bb
          · have hA : tadd bb r bits S (k, (s : Int), d, x) = ([], 0, midS r bits S (k, (s : Int), d, x)) := by unfold tadd; rw [if_neg hE, if_neg (by simpa using hR), if_pos hsz]
            go_wp2
            go_quiet ((go_at_call 36; exact Calls.quiet_of (HSZ.out _)))
            go_wp2
            go_ret2
            rw [hA]
            exact ⟨T7, _, rfl, OwnB.empty _ _ _, fun g hg => (by simp [Value.ownBlock] at hg), HM7.out.below (below_drewN (Below.refl _ _) _), HG7.out.trans (Goes.below (below_drewN (Below.refl _ _) _))⟩
          · have hA : tadd bb r bits S (k, (s : Int), d, x) = (blk (midS r bits S (k, (s : Int), d, x)).cur, 0, endS r (midS r bits S (k, (s : Int), d, x))) := by unfold tadd; rw [if_neg hE, if_neg (by simpa using hR), if_neg hsz]
            go_wp2
            go_quiet ((go_at_call 36; exact Calls.quiet_of (HSZ.out _)))
            go_wp2_with (go_at_call 37; go_loud (refine (HEB.out _).mono ?_; rintro e w8 ⟨T8, v8, rfl, ho8, hf8, hp8, hg8⟩; have HF8 := Qb.hid (add_end ht HG7.out ho8 hf8 hp8 hg8); obtain ⟨a8, c8, rfl, _⟩ := ho8.form; clear ho8 hf8 hp8 hg8))
            go_ret2
            rw [hA]
            exact HF8.out
    · have g0 : (layR S (k, (s : Int), d, x) != 0) = true := by simp [hR]
      have hA : tadd bb r bits S (k, (s : Int), d, x) = ([], layR S (k, (s : Int), d, x), S) := by unfold tadd; rw [if_neg hE, if_pos hR]
      rw [hA]
      go_enter Tryd.func20, Tryd.ntmps20
      go_wp2_with (go_at_call 34; go_loud (refine HLAY.out.mono ?_; rintro e w1 ⟨T1, rfl, hp1, hg1⟩; have HG1 := Qb.hid hg1; have HP1 : Hid (TmAt t T1 w1 M bb r bits S) := (by unfold layS at hp1; rw [if_neg hR] at hp1; exact Qb.hid hp1); clear hp1 hg1))
      go_ret2
      exact ⟨T1, _, rfl, OwnB.empty _ _ _, fun g hg => (by simp [Value.ownBlock] at hg), HP1.out, (Goes.below HB0.out).trans HG1.out⟩

end Tbl
end Go.Proofs.YtnhhalabmmcemaaDoor
namespace Go.Proofs.YtnhhalabmmcemaaDoor
namespace Tbl
open Go.RowKit CMath Byt Laws Irw Crw Cod Qb
set_option linter.unusedVariables false
set_option linter.unusedSimpArgs false
set_option maxRecDepth 20000

/-- An int as an uint64. -/
def u64 (x : Int) : Nat := (x % 18446744073709551616).toNat
theorem u64_lt (x : Int) : u64 x < 18446744073709551616 := by unfold u64; omega
theorem u64_is (x : Int) : x % 18446744073709551616 = ((u64 x : Nat) : Int) := by unfold u64; omega
theorem u64_nat (n : Nat) (h : n < 18446744073709551616) : u64 (n : Int) = n := by unfold u64; omega
/-- The first numbers of a foot. -/
def pre (ys : List Int) (k : Nat) : List Nat := ((ys.take k).map fun y => num (u64 y)).flatten
theorem pre_succ {ys : List Int} {k : Nat} {y : Int} (h : ys[k]? = some y) : pre ys (k + 1) = pre ys k ++ num (u64 y) := by
  unfold pre
  rw [List.take_add_one, h]
  simp
theorem pre_len (ys : List Int) : ∀ k, (pre ys k).length ≤ 10 * k := by
  intro k
  induction k with
  | zero => simp [pre]
  | succ k ih =>
    cases h : ys[k]? with
    | some y =>
      rw [pre_succ h, List.length_append]
      have := num_le10 (u64_lt y)
      omega
    | none =>
      have : pre ys (k + 1) = pre ys k := by unfold pre; rw [List.take_add_one, h]; simp
      rw [this]; omega
theorem words_len' (s : ByteArray) : (words (strB s)).length = (num s.size).length + s.size := by unfold words; rw [List.length_append, strB_length]
/-- A foot, without the sum. -/
def footB (a b c : Nat) (m : Mt) : List Nat := pre [(a : Int), b, c, m.n, m.wt] 5 ++ words (strB m.lo) ++ words (strB m.hi)
def foot (a b c : Nat) (m : Mt) : List Nat := footB a b c m ++ [(footB a b c m).length % 256] ++ [115, 99, 114, 49]
/-- What stands while footOf's loop goes on. -/
structure Fo (w : World) (m : Mt) (ys : List Int) (l : List Nat) (a : Option Addr) (c : Nat) (W : World) : Prop where
  below : Below w.heap.size w W
  size : w.heap.size + 2 ≤ W.heap.size
  box : W.heap[w.heap.size]? = some (.cells m.cells 28)
  row : ∀ k y, ys[k]? = some y → W.cell? ⟨w.heap.size + 1, k, none⟩ = some (.int .i64 y)
  is : IsB W a l
  nn : a = none → c = 0
theorem Fo.next {w W W' : World} {m : Mt} {ys : List Int} {l l' : List Nat} {a a' : Option Addr} {c c' : Nat} (h : Fo w m ys l a c W) (hb : Below W.heap.size W W') (hi : IsB W' a' l') (hn : a' = none → c' = 0) : Fo w m ys l' a' c' W' :=
  ⟨h.below.trans (hb.mono h.below.size), Nat.le_trans h.size hb.size, (hb.block _ (by have := h.size; omega)).trans h.box, fun k y hy => (hb.cell (p := ⟨w.heap.size + 1, k, none⟩) (by show w.heap.size + 1 < _; have := h.size; omega)).trans (h.row k y hy), hi, hn⟩
set_option maxHeartbeats 2000000 in
theorem footOf_any (a b c : Nat) (m : Mt) (w : World) (ha : a < 9223372036854775808) (hb : b < 9223372036854775808) (hc : c < 9223372036854775808) (hl : m.lo.size ≤ 1000000) (hh : m.hi.size ≤ 1000000) :
    Calls Tryd.prog 40 #[.int .i64 (a : Int), .int .i64 (b : Int), .int .i64 (c : Int), .agg m.cells] w fun e w' => ∃ v, e = .returned v ∧ Byt.Own 5 w.heap.size w' v (foot a b c m) ∧ Below w.heap.size w w' := by
  show Calls Tryd.prog 40 #[.int .i64 (a : Int), .int .i64 (b : Int), .int .i64 (c : Int), .agg #[.int .u64 0, .int .i64 m.wt, .int .i64 m.by_, .int .i64 (m.n : Int), .string m.lo, .string m.hi]] w fun e w' => ∃ v, e = .returned v ∧ Byt.Own 5 w.heap.size w' v (foot a b c m) ∧ Below w.heap.size w w'
  go_enter Tryd.func40, Tryd.ntmps40
  go_wp2
  have HF0 : Hid (Fo w m [(a : Int), b, c, m.n, m.wt] (pre [(a : Int), b, c, m.n, m.wt] 0) none 0 ((w.alloc (.cells #[.int .u64 0, .int .i64 m.wt, .int .i64 m.by_, .int .i64 (m.n : Int), .string m.lo, .string m.hi] 28)).alloc (.cells #[.int .i64 (a : Int), .int .i64 (b : Int), .int .i64 (c : Int), .int .i64 (m.n : Int), .int .i64 m.wt] 3))) := by
    have h1 := World.alloc_heap_new w (.cells #[.int .u64 0, .int .i64 m.wt, .int .i64 m.by_, .int .i64 (m.n : Int), .string m.lo, .string m.hi] 28)
    have b1 : Below w.heap.size w (w.alloc (.cells #[.int .u64 0, .int .i64 m.wt, .int .i64 m.by_, .int .i64 (m.n : Int), .string m.lo, .string m.hi] 28)) := (Below.refl _ _).alloc (Nat.le_refl _) _
    have s1 : (w.alloc (.cells #[.int .u64 0, .int .i64 m.wt, .int .i64 m.by_, .int .i64 (m.n : Int), .string m.lo, .string m.hi] 28)).heap.size = w.heap.size + 1 := by simp
    generalize w.alloc (.cells #[.int .u64 0, .int .i64 m.wt, .int .i64 m.by_, .int .i64 (m.n : Int), .string m.lo, .string m.hi] 28) = W1 at *
    have b2 : Below W1.heap.size W1 (W1.alloc (.cells #[.int .i64 (a : Int), .int .i64 (b : Int), .int .i64 (c : Int), .int .i64 (m.n : Int), .int .i64 m.wt] 3)) := (Below.refl _ _).alloc (Nat.le_refl _) _
    refine ⟨b1.trans (b2.mono b1.size), by simp [s1], (b2.block _ (by omega)).trans h1, fun k y hy => ?_, IsB.nil _ _, fun _ => rfl⟩
    rw [← s1, World.cell?_alloc_at _ _ _ _ rfl]
    match k, hy with
    | 0, hy => simp at hy; subst hy; rfl
    | 1, hy => simp at hy; subst hy; rfl
    | 2, hy => simp at hy; subst hy; rfl
    | 3, hy => simp at hy; subst hy; rfl
    | 4, hy => simp at hy; subst hy; rfl
    | k + 5, hy => simp at hy
  have HYS : Hid ([(a : Int), b, c, m.n, m.wt].length = 5) := rfl
  have HFT : Hid (foot a b c m = footB a b c m ++ [(footB a b c m).length % 256] ++ [115, 99, 114, 49] ∧ footB a b c m = pre [(a : Int), b, c, m.n, m.wt] 5 ++ words (strB m.lo) ++ words (strB m.hi)) := ⟨rfl, rfl⟩
  generalize [(a : Int), b, c, m.n, m.wt] = ys at *
  go_loopw [9, 21] (fun v i wr => ∃ (k : Nat) (xa : Option Addr) (xc : Nat), k ≤ 5 ∧ i = .int .i64 (k : Int) ∧ v = .slice xa (pre ys k).length xc ∧ Hid (Fo w m ys (pre ys k) xa xc wr)) (fun _ i _ => 5 - (intOf i).toNat)
  case atStart => exact ⟨0, none, 0, by omega, rfl, rfl, HF0⟩
  case round =>
    obtain ⟨k, xa, xc, hk5, rfl, rfl, HI⟩ := hrel
    rename World => wr
    by_cases hlt : k < 5
    · have q1 : (k : Int) < 5 := by omega
      obtain ⟨y, hy⟩ : ∃ y, ys[k]? = some y := ⟨_, List.getElem?_eq_getElem (by have := HYS.out; omega)⟩
      have r1 := HI.out.row k y hy
      have hu : IntKind.u64.wrap y = ((u64 y : Nat) : Int) := by rw [IntKind.wrap_u64]; exact u64_is y
      have HPS := Qb.hid (pre_succ hy)
      have hpl := pre_len ys k
      go_wp2_with (go_at_call 64; go_loud (refine (putUint_n xa xc _ (pre ys k) (u64 y) wr HI.out.is HI.out.nn (by omega) (u64_lt y) rfl).mono ?_; rintro e w3 ⟨v3, rfl, ho3, hb3⟩; obtain ⟨g3, c3, rfl, _, _, _, hi3⟩ := ho3.isB; have HF3 := Qb.hid (HI.out.next hb3 hi3 (c' := c3) (fun h => nomatch h)); clear ho3 hb3 hi3))
      go_roundw
      case rel => exact ⟨k + 1, some ⟨g3, 0, none⟩, c3, by omega, by go_num, by rw [HPS.out, List.length_append], by rw [HPS.out]; exact HF3.out⟩
      case measure => simp [intOf]; omega
    · have hk5' : k = 5 := by omega
      subst hk5'
      have hpl := pre_len ys 5
      have m4 : wr.cell? ⟨w.heap.size, 4, none⟩ = some (.string m.lo) := cell_of HI.out.box 4
      have h256 : ∀ n : Nat, n % 256 < 256 := fun n => Nat.mod_lt _ (by omega)
      go_wp2_with (first
        | (at_builtin; go_loud (refine wpList_app8n (N5 + 1) _ (by rfl) (.tmp 38) (.tmp 42) (by rfl) 1 (upd (fun _ => 0) gq 1) _ L (by rfl) (HOW.out.below ((Below.refl _ _).alloc (Nat.le_refl _) _)) (some ⟨w5.heap.size, 0, none⟩) 1 1 [N5 % 256] (by rfl) rfl (by simp) (isB_new (by first | omega | (rw [IntKind.wrap_u8]; omega)) (h256 _)) (by rw [hN5]; simp; omega) (by rw [hN5]; rfl) ?_; intro a7 c7 T7 w7 ho7 hg7; have HO7 := Qb.hid ho7; have HG7 := Qb.hid ((Goes.below (t := (· = 1)) ((Below.refl _ _).alloc (Nat.le_refl _) _)).trans hg7); clear ho7 hg7))
        | (at_builtin; go_loud (refine wpList_appSn (N5 + 1 + 4) _ (by rfl) (.tmp 44) (.const (.string ⟨#[115, 99, 114, 49]⟩)) (by rfl) 1 T7 _ (L ++ [N5 % 256]) (by rfl) HO7.out ⟨#[115, 99, 114, 49]⟩ (by rfl) (by rw [List.length_append, hN5, show (⟨#[115, 99, 114, 49]⟩ : ByteArray).size = 4 from rfl]; simp; omega) (by rw [List.length_append, List.length_append, hN5]; rfl) ?_; intro a8 c8 T8 w8 ho8 hg8; have HO8 := Qb.hid ho8; have HG8 := Qb.hid (HG7.out.trans hg8); clear ho8 hg8))
        | (go_at_call 65; revert HT1; intro HT1; go_loud (refine (putText_any (some ⟨g4, 0, none⟩) c4 _ (pre ys 5 ++ words (strB m.lo)) m.hi w4 HT1.out.is HT1.out.nn (by rw [List.length_append, words_len']; have := num_le10 (show m.lo.size < 18446744073709551616 by omega); omega) (by rw [List.length_append])).mono ?_; rintro e w5 ⟨v5, rfl, ho5, hb5⟩; obtain ⟨gq, hq1, hq2, hq3⟩ := OwnB.of_own (t := 1) (T := fun _ => 0) ho5; have hgq : w.heap.size ≤ gq := Nat.le_trans HT1.out.below.size hq1; have HOW := Qb.hid hq3; clear hq1 hq2 hq3; obtain ⟨g5, c5, rfl, _, _, _, hi5⟩ := ho5.isB; have HB5 := Qb.hid (HT1.out.next hb5 hi5 (c' := c5) (fun h => nomatch h)).below; have hN5l : (pre ys 5 ++ words (strB m.lo) ++ words (strB m.hi)).length ≤ 10000000 := (by rw [List.length_append, List.length_append, words_len', words_len']; have h1 := num_le10 (show m.lo.size < 18446744073709551616 by omega); have h2 := num_le10 (show m.hi.size < 18446744073709551616 by omega); omega); clear ho5 hb5 hi5; generalize hN5 : (pre ys 5 ++ words (strB m.lo) ++ words (strB m.hi)).length = N5 at *; generalize hL5 : pre ys 5 ++ words (strB m.lo) ++ words (strB m.hi) = L at *))
        | (go_at_call 65; go_loud (refine (putText_any xa xc _ (pre ys 5) m.lo wr HI.out.is HI.out.nn (by omega) rfl).mono ?_; rintro e w4 ⟨v4, rfl, ho4, hb4⟩; obtain ⟨g4, c4, rfl, _, _, _, hi4⟩ := ho4.isB; have HT1 := Qb.hid (HI.out.next hb4 hi4 (c' := c4) (fun h => nomatch h)); have m5 : w4.cell? ⟨w.heap.size, 5, none⟩ = some (.string m.hi) := cell_of HT1.out.box 5; clear ho4 hb4 hi4)))
      go_ret
      have hlow : ∀ b, b < w.heap.size → upd (fun _ => 0) gq 1 b = 0 := fun b hb => upd_other _ _ (by omega)
      refine ⟨_, rfl, ?_, below_goes HB5.out HG8.out (fun b hb => by rw [hlow b hb]; omega)⟩
      rw [HFT.out.1, HFT.out.2, hN5]
      exact own_from HO8.out (by simp) (fun b hb => (HG8.out.tag b (Nat.lt_of_lt_of_le hb HB5.out.size) (by rw [hlow b hb]; omega)).trans (hlow b hb))

end Tbl
end Go.Proofs.YtnhhalabmmcemaaDoor
namespace Go.Proofs.YtnhhalabmmcemaaDoor
namespace Tbl
open Go.RowKit CMath Byt Laws Irw Crw Cod Qb
set_option linter.unusedVariables false
set_option linter.unusedSimpArgs false
set_option maxRecDepth 20000

/-- A configuration, by its fields. -/
def cfgA (f : Nat → Int) : Array Value := #[.int .i64 (f 0), .int .i64 (f 1), .int .i64 (f 2), .int .i64 (f 3), .int .i64 (f 4), .int .i64 (f 5), .int .i64 (f 6), .int .i64 (f 7), .int .i64 (f 8), .int .i64 (f 9), .int .i64 (f 10), .int .i64 (f 11), .int .i64 (f 12), .int .i64 (f 13), .int .i64 (f 14), .int .i64 (f 15), .int .i64 (f 16), .int .i64 (f 17), .int .i64 (f 18), .int .i64 (f 19), .int .i64 (f 20), .int .i64 (f 21), .int .i64 (f 22), .int .i64 (f 23), .int .i64 (f 24), .int .i64 (f 25), .int .i64 (f 26)]
/-- A new maker of a table. -/
def NmIs (t : Nat) (T : Nat → Nat) (w : World) (bb r bits : Int) (e : Ending) (w' : World) : Prop :=
  ∃ M T', e = .returned (.pointer (some ⟨M, 0, none⟩)) ∧ w.heap.size ≤ M ∧ TmAt t T' w' M bb r bits ts0 ∧ Below w.heap.size w w' ∧ Goes (fun _ => False) T w T' w'
theorem nm_fin {t : Nat} {T T1 T2 : Nat → Nat} {w X1 w1 X2 w2 : World} {n1 n2 : Nat} {bb r bits : Int} (hb1 : Below w.heap.size w X1) (hX1 : Goes (fun _ => False) T w T X1) (hm1 : MakerAt (t + 1) T1 w1 n1 r st0) (hg1 : Goes (fun _ => False) T X1 T1 w1) (hX2 : Goes (fun _ => False) T1 w1 T1 X2) (hm2 : MakerAt (t + 4) T2 w2 n2 r st0) (hg2 : Goes (fun _ => False) T1 X2 T2 w2) :
    NmIs t T w bb r bits (.returned (.pointer (some ⟨w2.heap.size, 0, none⟩))) (w2.alloc (.cells #[.pointer (some ⟨n1, 0, none⟩), .pointer (some ⟨n2, 0, none⟩), .int .i64 bb, .int .i64 r, .int .i64 bits, .slice none 0 0, .slice none 0 0, .int .u64 0, .int .i64 0, .int .i64 0, .int .i64 0, .string ⟨#[]⟩, .string ⟨#[]⟩, .bool false] 80)) := by
  have hgA : Goes (fun _ => False) T w T2 w2 := ((hX1.trans hg1).trans hX2).trans hg2
  have hm1' : MakerAt (t + 1) T2 w2 n1 r st0 := hm1.goes (hX2.trans hg2) (fun z => z) (fun z => z) (fun z => z)
  have hcell : ∀ j, (w2.alloc (.cells #[.pointer (some ⟨n1, 0, none⟩), .pointer (some ⟨n2, 0, none⟩), .int .i64 bb, .int .i64 r, .int .i64 bits, .slice none 0 0, .slice none 0 0, .int .u64 0, .int .i64 0, .int .i64 0, .int .i64 0, .string ⟨#[]⟩, .string ⟨#[]⟩, .bool false] 80)).cell? ⟨w2.heap.size, j, none⟩ = (#[Value.pointer (some ⟨n1, 0, none⟩), .pointer (some ⟨n2, 0, none⟩), .int .i64 bb, .int .i64 r, .int .i64 bits, .slice none 0 0, .slice none 0 0, .int .u64 0, .int .i64 0, .int .i64 0, .int .i64 0, .string ⟨#[]⟩, .string ⟨#[]⟩, .bool false])[j]? := fun j => by rw [World.cell?_alloc_at _ _ _ _ rfl]
  have hfz : ∀ j, (w2.alloc (.cells #[.pointer (some ⟨n1, 0, none⟩), .pointer (some ⟨n2, 0, none⟩), .int .i64 bb, .int .i64 r, .int .i64 bits, .slice none 0 0, .slice none 0 0, .int .u64 0, .int .i64 0, .int .i64 0, .int .i64 0, .string ⟨#[]⟩, .string ⟨#[]⟩, .bool false] 80)).frozen? ⟨w2.heap.size, j, none⟩ = false := fun j => by simp
  have hb3 : Below w2.heap.size w2 (w2.alloc (.cells #[.pointer (some ⟨n1, 0, none⟩), .pointer (some ⟨n2, 0, none⟩), .int .i64 bb, .int .i64 r, .int .i64 bits, .slice none 0 0, .slice none 0 0, .int .u64 0, .int .i64 0, .int .i64 0, .int .i64 0, .string ⟨#[]⟩, .string ⟨#[]⟩, .bool false] 80)) := (Below.refl _ _).alloc (Nat.le_refl _) _
  have hsz : (w2.alloc (.cells #[.pointer (some ⟨n1, 0, none⟩), .pointer (some ⟨n2, 0, none⟩), .int .i64 bb, .int .i64 r, .int .i64 bits, .slice none 0 0, .slice none 0 0, .int .u64 0, .int .i64 0, .int .i64 0, .int .i64 0, .string ⟨#[]⟩, .string ⟨#[]⟩, .bool false] 80)).heap.size = w2.heap.size + 1 := by simp
  generalize (w2.alloc (.cells #[.pointer (some ⟨n1, 0, none⟩), .pointer (some ⟨n2, 0, none⟩), .int .i64 bb, .int .i64 r, .int .i64 bits, .slice none 0 0, .slice none 0 0, .int .u64 0, .int .i64 0, .int .i64 0, .int .i64 0, .string ⟨#[]⟩, .string ⟨#[]⟩, .bool false] 80)) = W at *
  have hg3 : Goes (fun _ => False) T2 w2 (upd T2 w2.heap.size t) W := ⟨hb3.os, hb3.tape, hb3.output, hb3.size, fun b hb _ => hb3.block b hb, fun b hb _ => upd_other _ _ (by omega), fun b hb h0 => (upd_other _ _ (by omega)).trans h0⟩
  have hgo := hgA.trans hg3
  refine ⟨w2.heap.size, upd T2 w2.heap.size t, rfl, hgA.size, ⟨by omega, upd_same _ _ _, ⟨n1, hcell 0, hm1'.goes hg3 (fun z => z) (fun z => z) (fun z => z)⟩, fun _ => ⟨n2, hcell 1, hm2.goes hg3 (fun z => z) (fun z => z) (fun z => z)⟩, ⟨_, hcell 1⟩, hcell 2, hcell 3, hcell 4, ⟨_, hcell 5, OwnK.empty _ _ _⟩, ⟨_, hcell 6, OwnB.empty _ _ _⟩, fun j hj => ?_, hcell 13, hfz⟩, below_goes (Below.refl _ _) hgo (fun _ _ z => z), hgo⟩
  match j, hj with
  | 0, _ => exact hcell 7
  | 1, _ => exact hcell 8
  | 2, _ => exact hcell 9
  | 3, _ => exact hcell 10
  | 4, _ => exact hcell 11
  | 5, _ => exact hcell 12
set_option maxHeartbeats 2000000 in
theorem tnew_any (t : Nat) (T : Nat → Nat) (w : World) (f : Nat → Int) :
    Calls Tryd.prog 19 #[.agg (cfgA f)] w fun e w' => NmIs t T w (f 13) (f 14) (f 15) e w' := by
  show Calls Tryd.prog 19 #[.agg #[.int .i64 (f 0), .int .i64 (f 1), .int .i64 (f 2), .int .i64 (f 3), .int .i64 (f 4), .int .i64 (f 5), .int .i64 (f 6), .int .i64 (f 7), .int .i64 (f 8), .int .i64 (f 9), .int .i64 (f 10), .int .i64 (f 11), .int .i64 (f 12), .int .i64 (f 13), .int .i64 (f 14), .int .i64 (f 15), .int .i64 (f 16), .int .i64 (f 17), .int .i64 (f 18), .int .i64 (f 19), .int .i64 (f 20), .int .i64 (f 21), .int .i64 (f 22), .int .i64 (f 23), .int .i64 (f 24), .int .i64 (f 25), .int .i64 (f 26)]] w fun e w' => NmIs t T w (f 13) (f 14) (f 15) e w'
  have HX : Hid (∀ W, Below (w.alloc (.cells #[.int .i64 (f 0), .int .i64 (f 1), .int .i64 (f 2), .int .i64 (f 3), .int .i64 (f 4), .int .i64 (f 5), .int .i64 (f 6), .int .i64 (f 7), .int .i64 (f 8), .int .i64 (f 9), .int .i64 (f 10), .int .i64 (f 11), .int .i64 (f 12), .int .i64 (f 13), .int .i64 (f 14), .int .i64 (f 15), .int .i64 (f 16), .int .i64 (f 17), .int .i64 (f 18), .int .i64 (f 19), .int .i64 (f 20), .int .i64 (f 21), .int .i64 (f 22), .int .i64 (f 23), .int .i64 (f 24), .int .i64 (f 25), .int .i64 (f 26)] 32)).heap.size (w.alloc (.cells #[.int .i64 (f 0), .int .i64 (f 1), .int .i64 (f 2), .int .i64 (f 3), .int .i64 (f 4), .int .i64 (f 5), .int .i64 (f 6), .int .i64 (f 7), .int .i64 (f 8), .int .i64 (f 9), .int .i64 (f 10), .int .i64 (f 11), .int .i64 (f 12), .int .i64 (f 13), .int .i64 (f 14), .int .i64 (f 15), .int .i64 (f 16), .int .i64 (f 17), .int .i64 (f 18), .int .i64 (f 19), .int .i64 (f 20), .int .i64 (f 21), .int .i64 (f 22), .int .i64 (f 23), .int .i64 (f 24), .int .i64 (f 25), .int .i64 (f 26)] 32)) W → W.cell? ⟨w.heap.size, 13, none⟩ = some (.int .i64 (f 13)) ∧ W.cell? ⟨w.heap.size, 14, none⟩ = some (.int .i64 (f 14)) ∧ W.cell? ⟨w.heap.size, 15, none⟩ = some (.int .i64 (f 15))) := fun W hW => ⟨(first_keep hW).2.1 13, (first_keep hW).2.1 14, (first_keep hW).2.1 15⟩
  have hA0 := HX.out _ (Below.refl _ _)
  have HB0 : Hid (Below w.heap.size w (w.alloc (.cells #[.int .i64 (f 0), .int .i64 (f 1), .int .i64 (f 2), .int .i64 (f 3), .int .i64 (f 4), .int .i64 (f 5), .int .i64 (f 6), .int .i64 (f 7), .int .i64 (f 8), .int .i64 (f 9), .int .i64 (f 10), .int .i64 (f 11), .int .i64 (f 12), .int .i64 (f 13), .int .i64 (f 14), .int .i64 (f 15), .int .i64 (f 16), .int .i64 (f 17), .int .i64 (f 18), .int .i64 (f 19), .int .i64 (f 20), .int .i64 (f 21), .int .i64 (f 22), .int .i64 (f 23), .int .i64 (f 24), .int .i64 (f 25), .int .i64 (f 26)] 32))) := (Below.refl _ _).alloc (Nat.le_refl _) _
  go_enter Tryd.func19, Tryd.ntmps19
  go_wp2
  obtain ⟨V, hV⟩ : ∃ V, w.alloc (.cells #[.int .i64 (f 0), .int .i64 (f 1), .int .i64 (f 2), .int .i64 (f 3), .int .i64 (f 4), .int .i64 (f 5), .int .i64 (f 6), .int .i64 (f 7), .int .i64 (f 8), .int .i64 (f 9), .int .i64 (f 10), .int .i64 (f 11), .int .i64 (f 12), .int .i64 (f 13), .int .i64 (f 14), .int .i64 (f 15), .int .i64 (f 16), .int .i64 (f 17), .int .i64 (f 18), .int .i64 (f 19), .int .i64 (f 20), .int .i64 (f 21), .int .i64 (f 22), .int .i64 (f 23), .int .i64 (f 24), .int .i64 (f 25), .int .i64 (f 26)] 32) = V := ⟨_, rfl⟩
  have hVs : V.heap.size = w.heap.size + 1 := by rw [← hV]; simp
  rw [hV] at HX hA0 HB0 ⊢
  clear hV
  go_region_held3 (fun W => W.cell? ⟨w.heap.size, 13, none⟩ = some (.int .i64 (f 13)) ∧ W.cell? ⟨w.heap.size, 14, none⟩ = some (.int .i64 (f 14)) ∧ W.cell? ⟨w.heap.size, 15, none⟩ = some (.int .i64 (f 15))) (first | assumption | exact hA0 | (exact HX.out _ HBK.out))
    (first
    | (go_at_call 33; revert HM1; intro HM1; go_loud (refine Calls.mono (newMaker_at (t + 4) (upd T (w.heap.size + 1) (t + 1)) _ (f 14) w1.heap.size (by rfl)) ?_; rintro e w2 ⟨rfl, hm2, hb2, hg2⟩; have hb2' : Below V.heap.size V w2 := HB1.out.trans ((by first | exact hb2 | exact ((Below.refl _ _).drew).trans hb2 : Below w1.heap.size w1 w2).mono HB1.out.size); have hS2 := HX.out w2 hb2'; have HFI := Qb.hid (nm_fin (bb := f 13) (bits := f 15) HB0.out (Goes.below HB0.out) HM1.out HG1.out (Goes.refl _ _ _) hm2 (by first | exact hg2 | exact (Goes.below ((Below.refl _ _).drew)).trans hg2)); have HBK := Qb.hid (hb2'.trans ((Below.refl _ _).alloc hb2'.size (.cells #[.pointer (some ⟨w.heap.size + 1, 0, none⟩), .pointer (some ⟨w1.heap.size, 0, none⟩), .int .i64 (f 13), .int .i64 (f 14), .int .i64 (f 15), .slice none 0 0, .slice none 0 0, .int .u64 0, .int .i64 0, .int .i64 0, .int .i64 0, .string ⟨#[]⟩, .string ⟨#[]⟩, .bool false] 80))); clear hm2 hb2 hg2 hb2'))
    | (go_at_call 33; go_loud (refine Calls.mono (newMaker_at (t + 1) T _ (f 14) (w.heap.size + 1) (by first | exact hVs | (show V.heap.size = _; exact hVs))) ?_; rintro e w1 ⟨rfl, hm1, hb1, hg1⟩; have hb1' : Below V.heap.size V w1 := (by first | exact hb1 | exact ((Below.refl _ _).drew).trans hb1); have hS1 := HX.out w1 hb1'; have HM1 := Qb.hid hm1; have HB1 := Qb.hid hb1'; have HG1 : Hid (Goes (fun _ => False) T V (upd T (w.heap.size + 1) (t + 1)) w1) := (by first | exact Qb.hid hg1 | exact Qb.hid ((Goes.below ((Below.refl _ _).drew)).trans hg1)); clear hm1 hb1 hg1 hb1')))
  all_goals (
    go_wp2
    go_ret
    exact HFI.out)

end Tbl
end Go.Proofs.YtnhhalabmmcemaaDoor
