import Derived.Test.YtnhhalabmmcemaaDoorTaM
import Derived.Deep.RegionWith
import Derived.Deep.DeepCutAuto
import Derived.Deep.RegionLaw
namespace Go.Proofs.YtnhhalabmmcemaaDoor
namespace Tbl
open Go.RowKit CMath Byt Laws Irw Crw Cod Qb
set_option linter.unusedVariables false
set_option linter.unusedSimpArgs false
set_option maxRecDepth 20000

theorem bl_step {w1 X w2 : World} (h : Below w1.heap.size w1 X) (hb : Below X.heap.size X w2) : Below w1.heap.size w1 w2 := h.trans (hb.mono h.size)
/-- What may be in a maker that ends. -/
structure Bne (S : Ts) : Prop where
  bnd : Bnd S
  ip : S.idx.p.length ≤ 4000000000
  lo : S.mt.lo.size ≤ 1000000
  ks : ∀ s ∈ S.keys, s.size ≤ 1000000
  ld : S.laid.length ≤ 50000000000
/-- The bytes that are ready. -/
def Ea (w1 : World) (L : Ts) (bits : Int) (a5 : Option Addr) (c5 : Nat) (a6 : Option Addr) (c6 : Nat) (W : World) : Prop := IsB W a5 (blk L.idx) ∧ (a5 = none → c5 = 0) ∧ IsB W a6 (BMath.mk (L.keys.map strB) bits) ∧ (a6 = none → c6 = 0) ∧ Below w1.heap.size w1 W
def FtIs (L : Ts) (bits : Int) : List Nat := foot L.laid.length (blk L.idx).length (BMath.mk (L.keys.map strB) bits).length L.mt
def Eb (w1 : World) (L : Ts) (bits : Int) (a5 : Option Addr) (c5 : Nat) (a6 : Option Addr) (c6 : Nat) (a7 : Option Addr) (c7 : Nat) (W : World) : Prop := Ea w1 L bits a5 c5 a6 c6 W ∧ IsB W a7 (FtIs L bits) ∧ (a7 = none → c7 = 0)
theorem cat4 (a b c d : Option Addr × Nat × List Nat) : cat [a, b, c, d] = a.2.2 ++ (b.2.2 ++ (c.2.2 ++ d.2.2)) := by simp [cat]
theorem so_isB {w W : World} {x : Nat} (h : So w x 4 W) : IsB W (some ⟨w.heap.size, 0, none⟩) (four x) := by
  have hb := h.blk
  have e : (four x).take 4 ++ List.replicate (4 - 4) 0 = four x := by simp [four]
  rw [e] at hb
  refine ⟨fun _ => ⟨w.heap.size, 0, rfl, by have := h.size; omega, fun i y hy => ?_⟩, four_byte x⟩
  have := hb.cell hy
  simpa using this
/-- Five stores of a maker that has ended. -/
def fiveW (w : World) (M : Nat) (n : Int) : World := ((((w.setCell ⟨M, 9, none⟩ (.int .i64 n)).setCell ⟨M, 13, none⟩ (.bool true)).setCell ⟨M, 1, none⟩ (.pointer none)).setCell ⟨M, 5, none⟩ (.slice none 0 0)).setCell ⟨M, 6, none⟩ (.slice none 0 0)
theorem five_goes {T : Nat → Nat} {w : World} {M : Nat} {n : Int} (h : T M = 0) : Goes (· = 0) T w T (fiveW w M n) := by
  unfold fiveW
  exact ((((Goes.setCell h).trans (Goes.setCell h)).trans (Goes.setCell h)).trans (Goes.setCell h)).trans (Goes.setCell h)
theorem end_fin {t : Nat} {T T1 : Nat → Nat} {w w1 w10 w16 : World} {M k : Nat} {bb r bits : Int} {L : Ts} {X : List Nat} {v : Value} (ht : t ≠ 0) (hi : Hi T w) (hp1 : TmAt t T1 w1 M bb r bits L) (hg1 : Goes (Tk t) T w T1 w1) (hb10 : Below w1.heap.size w1 w10)
    (ho : Byt.Own 5 (fiveW w10 M (X.length : Int)).heap.size w16 v (X.drop k)) (hb : Below (fiveW w10 M (X.length : Int)).heap.size (fiveW w10 M (X.length : Int)) w16) : MkIs t T w M bb r bits (X.drop k, 0, finS L (X.length : Int)) (.returned (.tuple #[v, .int .i64 0])) w16 := by
  obtain ⟨hp, hg⟩ := (hp1.below hb10).finish (X.length : Int)
  have hg' : Goes (Tk t) T w T1 (fiveW w10 M (X.length : Int)) := (hg1.trans (Goes.below hb10)).trans hg
  have hi' : Hi T1 (fiveW w10 M (X.length : Int)) := hi.goes hg'
  have ho0 := own_zero (T := T1) ho (fun b hb => hi' b hb)
  refine ⟨T1, v, rfl, ho0, fun g hgv => ?_, hp.below hb, hg'.trans (Goes.below hb)⟩
  obtain ⟨g2, c2, rfl, hr2, _⟩ := ho
  simp [Value.ownBlock] at hgv
  subst hgv
  exact Nat.le_trans hg'.size (hr2.lt _ rfl).1
/-- What stands ahead of End's stores. -/
structure EnM (w1 : World) (M : Nat) (L : Ts) (p1 : Option Addr) (v5 v6 : Value) (a : Option Addr) (N c : Nat) (l : List Nat) (T : Nat → Nat) (W : World) : Prop where
  bl : Below w1.heap.size w1 W
  ow : OwnB 1 T W (.slice a N c) l
  tm : T M = 0
  k9 : W.cell? ⟨M, 9, none⟩ = some (.int .i64 L.mt.by_)
  k13 : W.cell? ⟨M, 13, none⟩ = some (.bool L.ended)
  k1 : W.cell? ⟨M, 1, none⟩ = some (.pointer p1)
  k5 : W.cell? ⟨M, 5, none⟩ = some v5
  k6 : W.cell? ⟨M, 6, none⟩ = some v6
  fz : ∀ j, W.frozen? ⟨M, j, none⟩ = false
theorem en_mid {w1 W7 w8 w9 w10 : World} {M : Nat} {L : Ts} {p1 : Option Addr} {v5 v6 : Value} {a : Option Addr} {N c : Nat} {l : List Nat} {T8 T10 : Nat → Nat} (hb7 : Below w1.heap.size w1 W7) (hb8 : Below W7.heap.size W7 w8) (hb9 : Below w8.heap.size w8 w9) (ht : ∀ b, b < W7.heap.size → T8 b = 0) (hg : Goes (· = 1) T8 w9 T10 w10) (ho : OwnB 1 T10 w10 (.slice a N c) l)
    (hk : w1.cell? ⟨M, 9, none⟩ = some (.int .i64 L.mt.by_) ∧ w1.cell? ⟨M, 13, none⟩ = some (.bool L.ended) ∧ w1.cell? ⟨M, 1, none⟩ = some (.pointer p1) ∧ w1.cell? ⟨M, 5, none⟩ = some v5 ∧ w1.cell? ⟨M, 6, none⟩ = some v6) (hf : ∀ j, w1.frozen? ⟨M, j, none⟩ = false) (hM : M < w1.heap.size) : EnM w1 M L p1 v5 v6 a N c l T10 w10 := by
  have h9 : Below W7.heap.size W7 w9 := bl_step hb8 hb9
  have h10 : Below W7.heap.size W7 w10 := below_goes h9 hg (fun b hb => by rw [ht b hb]; omega)
  have hb := bl_step hb7 h10
  have hM7 : M < W7.heap.size := Nat.lt_of_lt_of_le hM hb7.size
  exact ⟨hb, ho, (hg.tag M (Nat.lt_of_lt_of_le hM7 h9.size) (by rw [ht M hM7]; omega)).trans (ht M hM7), (hb.cell (p := ⟨M, 9, none⟩) hM).trans hk.1, (hb.cell (p := ⟨M, 13, none⟩) hM).trans hk.2.1, (hb.cell (p := ⟨M, 1, none⟩) hM).trans hk.2.2.1, (hb.cell (p := ⟨M, 5, none⟩) hM).trans hk.2.2.2.1, (hb.cell (p := ⟨M, 6, none⟩) hM).trans hk.2.2.2.2, fun j => (World.frozen?_of_block (a := ⟨M, j, none⟩) (hb.block M hM)).trans (hf j)⟩
theorem en_out {w1 W : World} {M : Nat} {L : Ts} {p1 : Option Addr} {v5 v6 : Value} {a : Option Addr} {N c n : Nat} {x : Nat} {l : List Nat} {T : Nat → Nat} (h : EnM w1 M L p1 v5 v6 a N c (l ++ four x) T W) (hN : N = N) : (∃ g, a = some ⟨g, 0, none⟩) ∧ N ≤ c ∧ W.cell? ⟨M, 9, none⟩ = some (.int .i64 L.mt.by_) ∧ W.cell? ⟨M, 13, none⟩ = some (.bool L.ended) ∧ W.cell? ⟨M, 1, none⟩ = some (.pointer p1) ∧ W.cell? ⟨M, 5, none⟩ = some v5 ∧ W.cell? ⟨M, 6, none⟩ = some v6 ∧ W.frozen? ⟨M, 9, none⟩ = false ∧ W.frozen? ⟨M, 13, none⟩ = false ∧ W.frozen? ⟨M, 1, none⟩ = false ∧ W.frozen? ⟨M, 5, none⟩ = false ∧ W.frozen? ⟨M, 6, none⟩ = false := by
  obtain ⟨a', c', e, hi, hc, _, _, h0⟩ := h.ow.form
  simp only [Value.slice.injEq] at e
  obtain ⟨rfl, rfl, rfl⟩ := e
  obtain ⟨b, off, rfl, _⟩ := hi.1 (by simp [four])
  obtain ⟨rfl, _⟩ := h0 b off rfl
  exact ⟨⟨b, rfl⟩, hc, h.k9, h.k13, h.k1, h.k5, h.k6, h.fz 9, h.fz 13, h.fz 1, h.fz 5, h.fz 6⟩
theorem en_clone {w1 W : World} {M : Nat} {L : Ts} {p1 : Option Addr} {v5 v6 : Value} {g N c k : Nat} {l : List Nat} {T : Nat → Nat} (h : EnM w1 M L p1 v5 v6 (some ⟨g, 0, none⟩) N c l T W) (hk : l.length ≤ 140737488355328) (hN : N = l.length) :
    Calls Tryd.prog 42 #[.slice (some ⟨g, k, none⟩) (N - k) (c - k)] (fiveW W M (l.length : Int)) fun e w' => ∃ v, e = .returned v ∧ Byt.Own 5 (fiveW W M (l.length : Int)).heap.size w' v (l.drop k) ∧ Below (fiveW W M (l.length : Int)).heap.size (fiveW W M (l.length : Int)) w' := by
  have ho := h.ow.goes (five_goes (w := W) (n := (l.length : Int)) h.tm) (by omega)
  obtain ⟨a', c', e, hi, _⟩ := ho.form
  simp only [Value.slice.injEq] at e
  obtain ⟨rfl, _, rfl⟩ := e
  have hd := isB_drop hi k
  rw [Nat.zero_add] at hd
  exact sclone_any ⟨g, k, none⟩ (c - k) (N - k) (l.drop k) _ hd (by rw [List.length_drop]; omega) (by rw [List.length_drop, hN])
set_option maxHeartbeats 4000000 in
theorem tend_any (t : Nat) (T : Nat → Nat) (w : World) (M : Nat) (bb r bits : Int) (S : Ts) (p : TmAt t T w M bb r bits S) (hi : Hi T w) (ht : t ≠ 0) (hT : Tab w) (h00 : T 0 = 0) (hb : Bnd S) (hb2 : Bne (lastS r S)) (hr : -9223372036854775808 ≤ r ∧ r ≤ 9223372036854775807) (hbt : -9223372036854775808 ≤ bits ∧ bits ≤ 9223372036854775807) :
    Calls Tryd.prog 21 #[.pointer (some ⟨M, 0, none⟩)] w fun e w' => MkIs t T w M bb r bits (tend r bits S) e w' := by
  have hlt := p.lt
  have HP : Hid (TmAt t T w M bb r bits S) := p
  have HI : Hid (Hi T w) := hi
  have hfin := p.fin
  have hn3 : w.cell? ⟨M, 10, none⟩ = some (.int .i64 (S.mt.n : Int)) := p.mt 3 (by omega)
  by_cases hE : S.ended = true
  · rw [hE] at hfin
    have hA : tend r bits S = ([], 102, S) := by unfold tend; rw [if_pos hE]
    rw [hA]
    clear p hi
    go_enter Tryd.func21, Tryd.ntmps21
    go_wp2
    go_ret2
    exact ⟨T, _, rfl, OwnB.empty _ _ _, fun g hg => (by simp [Value.ownBlock] at hg), HP.out, Goes.refl _ _ _⟩
  · have hE' : S.ended = false := by simpa using hE
    rw [hE'] at hfin
    by_cases hn0 : S.mt.n = 0
    · have hA : tend r bits S = ([], 101, S) := by unfold tend; rw [if_neg hE, if_pos hn0]
      rw [hA]
      rw [hn0] at hn3
      clear p hi
      go_enter Tryd.func21, Tryd.ntmps21
      go_wp2
      go_ret2
      exact ⟨T, _, rfl, OwnB.empty _ _ _, fun g hg => (by simp [Value.ownBlock] at hg), HP.out, Goes.refl _ _ _⟩
    · have hA : tend r bits S = ((whole bits (lastS r S)).drop S.laid.length, 0, finS (lastS r S) ((whole bits (lastS r S)).length : Int)) := by unfold tend; rw [if_neg hE, if_neg hn0]
      have HA := Qb.hid hA
      obtain ⟨C, I, al, cl, hC, hmc, hI, hmi, hl6, ol⟩ := p.form hE'
      have q0 : ¬ ((S.mt.n : Int) = 0) := by omega
      have hbl := hb.l
      have HSZ : Hid (Calls Tryd.prog 36 #[.pointer (some ⟨C, 0, none⟩)] w fun e w' => e = .returned (.int .i64 ((curSz S : Nat) : Int)) ∧ ∃ n, w' = w.drewN n) := size_any (t + 1) T w C r S.cur hmc (by have := hb.b; omega) (by have := hb.p; omega)
      have HEB : Hid (∀ q, Calls Tryd.prog 37 #[.pointer (some ⟨M, 0, none⟩)] (w.drewN q) fun e w' => EbIs t T (w.drewN q) M bb r bits S e w') := fun q => endBlock_any t T _ M bb r bits S (p.below (below_drewN (Below.refl _ _) q)) (hi.below (below_drewN (Below.refl w.heap.size w) q).size) ht hE' (hT.below (below_drewN (Below.refl _ _) q) hT.lt) hb.hi hb.b hb.p hb.l hb.ib hb.ip hb.in_ hr
      have HTB := Qb.hid hT
      have hLe : (lastS r S).ended = false := by unfold lastS; split <;> exact hE'
      have hLl : S.laid.length ≤ (lastS r S).laid.length := by
        unfold lastS
        split
        · show S.laid.length ≤ (S.laid ++ blk S.cur).length
          rw [List.length_append]; omega
        · exact Nat.le_refl _
      clear p hi hmc hmi ol hA hT
      go_enter Tryd.func21, Tryd.ntmps21
      go_upto_if 29 with (go_at_call 36; go_loud (refine HSZ.out.mono ?_; rintro e w0 ⟨rfl, n0, rfl⟩))
      go_cut [0, 4] (fun v0 v4 w' => v0 = .pointer (some ⟨M, 0, none⟩) ∧ v4 = .int .i64 (S.laid.length : Int) ∧ Hid (∃ T1, TmAt t T1 w' M bb r bits (lastS r S) ∧ Goes (Tk t) T w T1 w'))
      case first =>
        by_cases h8 : 8 < curSz S
        · have q1 : (8 : Int) < (curSz S : Int) := by omega
          go_wp2_with (go_at_call 37; go_loud (refine (HEB.out _).mono ?_; rintro e w8 ⟨T8, v8, rfl, ho8, hf8, hp8, hg8⟩; have HF8 : Hid (∃ T1, TmAt t T1 w8 M bb r bits (lastS r S) ∧ Goes (Tk t) T w T1 w8) := Qb.hid ⟨T8, (by unfold lastS; rw [if_pos h8]; exact hp8), (Goes.below (below_drewN (Below.refl _ _) _)).trans hg8⟩; obtain ⟨a8, c8, rfl, _⟩ := ho8.form; clear ho8 hf8 hp8 hg8))
          go_meet
          case rel => exact ⟨rfl, rfl, HF8⟩
        · have q1 : ¬ (8 : Int) < (curSz S : Int) := by omega
          go_wp2
          go_meet
          case rel => exact ⟨rfl, rfl, Qb.hid ⟨T, by unfold lastS; rw [if_neg h8]; exact HP.out.below (below_drewN (Below.refl _ _) _), Goes.below (below_drewN (Below.refl _ _) _)⟩⟩
      case rest =>
        obtain ⟨rfl, rfl, HF8⟩ := hcut
        rename World => w1
        obtain ⟨T1, hp1, hg1⟩ := HF8.out
        clear HF8 HSZ HEB hC hI hl6 hfin hn3 q0
        generalize lastS r S = L at *
        have HP1 := Qb.hid hp1
        have HG1 := Qb.hid hg1
        obtain ⟨C1, I1, al1, cl1, hC1, hmc1, hI1, hmi1, hl1, ol1⟩ := hp1.form hLe
        obtain ⟨a5', c5', e5', hk1, hk2, hk3, hk4, hk5⟩ := OwnB.form ol1
        cases e5'
        have HIL := Qb.hid hk1
        have HNL := Qb.hid hk3
        obtain ⟨vk, hk0, hok⟩ := hp1.keys
        obtain ⟨ak, ck, rfl, hik⟩ := hok.form
        have hbits : w1.cell? ⟨M, 4, none⟩ = some (.int .i64 bits) := hp1.c4
        have hlt1 : M < w1.heap.size := hp1.lt
        have hT1 : Tab w1 := HTB.out.keep (hg1.block 0 HTB.out.lt (by rw [h00]; exact tk0 ht)) hg1.size
        have HBY : Hid (∀ W, Below w1.heap.size w1 W → Calls Tryd.prog 38 #[.pointer (some ⟨I1, 0, none⟩)] W fun e w' => ∃ v, e = .returned v ∧ Byt.Own 5 W.heap.size w' v (blk L.idx) ∧ Below W.heap.size W w') := fun W hW => bytes_any (t + 4) T1 W I1 r L.idx (hmi1.below hW) (hT1.below hW hT1.lt) hb2.bnd.ib hb2.ip
        have HMK : Hid (∀ W, Below w1.heap.size w1 W → Calls Tryd.prog 39 #[.slice ak L.keys.length ck, .int .i64 bits] W (Blo.MakeAns W L.keys bits)) := fun W hW => Blo.make_any ak ck L.keys.length L.keys bits W (isT_of (IsK.below hik.1 hW)) (hT1.below hW hT1.lt) hbt (by have := hb2.bnd.ks; omega) (fun s hs => by have := hb2.ks s hs; omega) rfl
        have HSS : Hid (∀ W, Below w1.heap.size w1 W → W.cell? ⟨M, 1, none⟩ = some (.pointer (some ⟨I1, 0, none⟩)) ∧ W.cell? ⟨M, 5, none⟩ = some (.slice ak L.keys.length ck) ∧ W.cell? ⟨M, 4, none⟩ = some (.int .i64 bits)) := fun W hW => ⟨(hW.cell (p := ⟨M, 1, none⟩) hlt1).trans hI1, (hW.cell (p := ⟨M, 5, none⟩) hlt1).trans hk0, (hW.cell (p := ⟨M, 4, none⟩) hlt1).trans hbits⟩
        have hA0 := HSS.out w1 (Below.refl _ _)
        have HL1 := Qb.hid hl1
        clear hp1 hg1 hmc1 hmi1 ol1 hk1 hk3 hok hik hC1 hI1 hl1 hbits hk0
        go_upto_region 8 with (fail)
        go_cut [0, 4, 5, 6] (fun v0 v4 v5 v6 W => v0 = .pointer (some ⟨M, 0, none⟩) ∧ v4 = .int .i64 (S.laid.length : Int) ∧ ∃ a5 c5 a6 c6, v5 = .slice a5 (blk L.idx).length c5 ∧ v6 = .slice a6 (BMath.mk (L.keys.map strB) bits).length c6 ∧ Hid (Ea w1 L bits a5 c5 a6 c6 W))
        case first =>
          go_region_held3 (fun W => W.cell? ⟨M, 1, none⟩ = some (.pointer (some ⟨I1, 0, none⟩)) ∧ W.cell? ⟨M, 5, none⟩ = some (.slice ak L.keys.length ck) ∧ W.cell? ⟨M, 4, none⟩ = some (.int .i64 bits)) (first | assumption | exact hA0)
            (first
            | (go_at_call 38; go_loud (refine (HBY.out _ (by first | exact Below.refl _ _ | exact (Below.refl _ _).drew | exact HB3.out | exact HB3.out.drew)).mono ?_; rintro e w2 ⟨v2, rfl, ho2, hb2'⟩; have HB2 : Hid (Below w1.heap.size w1 w2) := Qb.hid (bl_step (by first | exact Below.refl _ _ | exact (Below.refl _ _).drew | exact HB3.out | exact HB3.out.drew) hb2'); have hS2 := HSS.out w2 HB2.out; obtain ⟨g5, c5, rfl, _, _, _, hi5⟩ := ho2.isB; have HI5 := Qb.hid hi5; (first | (have HQ6 := Qb.hid (HI6.out.below (bl_step (by first | exact Below.refl _ _ | exact (Below.refl _ _).drew) hb2'))) | skip); clear ho2 hb2' hi5))
            | (go_at_call 39; go_loud (refine Calls.mono (HMK.out _ (by first | exact Below.refl _ _ | exact (Below.refl _ _).drew | exact HB2.out | exact HB2.out.drew)) ?_; rintro e w3 ⟨a6, c6, rfl, hn6, hb3'⟩; have HB3 : Hid (Below w1.heap.size w1 w3) := Qb.hid (bl_step (by first | exact Below.refl _ _ | exact (Below.refl _ _).drew | exact HB2.out | exact HB2.out.drew) hb3'); have hS3 := HSS.out w3 HB3.out; have HI6 := Qb.hid hn6.isB; have HC6 := Qb.hid hn6.cap; (first | (have HQ5 := Qb.hid (HI5.out.below (bl_step (by first | exact Below.refl _ _ | exact (Below.refl _ _).drew) hb3'))) | skip); clear hn6 hb3')))
          all_goals (
            go_wp2
            go_meet
            case rel => first | exact ⟨rfl, rfl, _, _, _, _, rfl, rfl, Qb.hid ⟨HQ5.out, (fun h => nomatch h), HI6.out, HC6.out, HB3.out⟩⟩ | exact ⟨rfl, rfl, _, _, _, _, rfl, rfl, Qb.hid ⟨HI5.out, (fun h => nomatch h), HQ6.out, HC6.out, HB2.out⟩⟩)
        case rest =>
          obtain ⟨rfl, rfl, a5, c5, a6, c6, rfl, rfl, HEA⟩ := hcut
          rename World => w4
          clear HBY HMK HSS hA0
          have hb4 := HEA.out.2.2.2.2
          have HST : Hid (∀ W, Below w1.heap.size w1 W → W.cell? ⟨M, 6, none⟩ = some (.slice al1 L.laid.length cl1) ∧ W.cell? ⟨M, 7, none⟩ = some (.int .u64 0) ∧ W.cell? ⟨M, 8, none⟩ = some (.int .i64 L.mt.wt) ∧ W.cell? ⟨M, 9, none⟩ = some (.int .i64 L.mt.by_) ∧ W.cell? ⟨M, 10, none⟩ = some (.int .i64 (L.mt.n : Int)) ∧ W.cell? ⟨M, 11, none⟩ = some (.string L.mt.lo) ∧ W.cell? ⟨M, 12, none⟩ = some (.string L.mt.hi)) := fun W hW => ⟨(hW.cell (p := ⟨M, 6, none⟩) hlt1).trans HL1.out, (hW.cell (p := ⟨M, 7, none⟩) hlt1).trans (HP1.out.mt 0 (by omega)), (hW.cell (p := ⟨M, 8, none⟩) hlt1).trans (HP1.out.mt 1 (by omega)), (hW.cell (p := ⟨M, 9, none⟩) hlt1).trans (HP1.out.mt 2 (by omega)), (hW.cell (p := ⟨M, 10, none⟩) hlt1).trans (HP1.out.mt 3 (by omega)), (hW.cell (p := ⟨M, 11, none⟩) hlt1).trans (HP1.out.mt 4 (by omega)), (hW.cell (p := ⟨M, 12, none⟩) hlt1).trans (HP1.out.mt 5 (by omega))⟩
          have hS4 := HST.out w4 hb4
          have hmkl := BMath.mk_length_le (L.keys.map strB) bits
          have hblk := blk_len L.idx
          have hib := hb2.bnd.ib
          have hip := hb2.ip
          have hll := hb2.bnd.l
          have HFT : Hid (∀ W, Calls Tryd.prog 40 #[.int .i64 (L.laid.length : Int), .int .i64 ((blk L.idx).length : Int), .int .i64 ((BMath.mk (L.keys.map strB) bits).length : Int), .agg #[.int .u64 0, .int .i64 L.mt.wt, .int .i64 L.mt.by_, .int .i64 (L.mt.n : Int), .string L.mt.lo, .string L.mt.hi]] W fun e w' => ∃ v, e = .returned v ∧ Byt.Own 5 W.heap.size w' v (FtIs L bits) ∧ Below W.heap.size W w') := fun W => footOf_any L.laid.length (blk L.idx).length (BMath.mk (L.keys.map strB) bits).length L.mt W (by omega) (by omega) (by omega) hb2.lo hb2.bnd.hi
          clear hblk hmkl
          go_upto_region 9 with (fail)
          go_cut [0, 4, 5, 6, 7] (fun v0 v4 v5 v6 v7 W => v0 = .pointer (some ⟨M, 0, none⟩) ∧ v4 = .int .i64 (S.laid.length : Int) ∧ v5 = .slice a5 (blk L.idx).length c5 ∧ v6 = .slice a6 (BMath.mk (L.keys.map strB) bits).length c6 ∧ ∃ a7 c7, v7 = .slice a7 (FtIs L bits).length c7 ∧ Hid (Eb w1 L bits a5 c5 a6 c6 a7 c7 W))
          case first =>
            go_region_held3 (fun W => W.cell? ⟨M, 6, none⟩ = some (.slice al1 L.laid.length cl1) ∧ W.cell? ⟨M, 7, none⟩ = some (.int .u64 0) ∧ W.cell? ⟨M, 8, none⟩ = some (.int .i64 L.mt.wt) ∧ W.cell? ⟨M, 9, none⟩ = some (.int .i64 L.mt.by_) ∧ W.cell? ⟨M, 10, none⟩ = some (.int .i64 (L.mt.n : Int)) ∧ W.cell? ⟨M, 11, none⟩ = some (.string L.mt.lo) ∧ W.cell? ⟨M, 12, none⟩ = some (.string L.mt.hi)) (first | assumption | exact hS4)
              (first | (go_at_call 40; go_loud (refine (HFT.out _).mono ?_; rintro e w5 ⟨v5, rfl, ho5, hb5'⟩; have hb5 : Below w4.heap.size w4 w5 := (by first | exact hb5' | exact ((Below.refl _ _).drew).trans hb5'); have hS5 := HST.out w5 (bl_step hb4 hb5); obtain ⟨g7, c7, rfl, _, _, _, hi7⟩ := ho5.isB; have HEB : Hid (Eb w1 L bits a5 c5 a6 c6 (some ⟨g7, 0, none⟩) c7 w5) := Qb.hid ⟨⟨HEA.out.1.below hb5, HEA.out.2.1, HEA.out.2.2.1.below hb5, HEA.out.2.2.2.1, bl_step hb4 hb5⟩, hi7, (fun h => nomatch h)⟩; clear ho5 hb5' hb5 hi7)))
            all_goals (
              go_wp2
              go_meet
              case rel => exact ⟨rfl, rfl, rfl, rfl, _, _, rfl, HEB⟩)
          case rest =>
            obtain ⟨rfl, rfl, rfl, rfl, a7, c7, rfl, HEB⟩ := hcut
            rename World => w6
            clear HEA hb4 hS4 HFT
            have HW0 : Hid (whole0 bits L = L.laid ++ (blk L.idx ++ (BMath.mk (L.keys.map strB) bits ++ FtIs L bits)) ∧ whole bits L = whole0 bits L ++ four (crc (whole0 bits L))) := Qb.hid ⟨rfl, rfl⟩
            have hb6 := HEB.out.1.2.2.2.2
            have hlt6 : M < w6.heap.size := Nat.lt_of_lt_of_le hlt1 hb6.size
            have m6 : w6.cell? ⟨M, 6, none⟩ = some (.slice al1 L.laid.length cl1) := (HST.out w6 hb6).1
            have hflen : (FtIs L bits).length ≤ 10000000 := by
              have hlo := hb2.lo
              have hhi := hb2.bnd.hi
              have h1 := num_le10 (show L.mt.lo.size < 18446744073709551616 by omega)
              have h2 := num_le10 (show L.mt.hi.size < 18446744073709551616 by omega)
              unfold FtIs foot footB
              simp only [List.length_append, List.length_cons, List.length_nil, words_len']
              have := pre_len [(L.laid.length : Int), (blk L.idx).length, (BMath.mk (L.keys.map strB) bits).length, L.mt.n, L.mt.wt] 5
              omega
            have hlen0 : (whole0 bits L).length ≤ 90000000000 := by
              have hld := hb2.ld
              have h1 := BMath.mk_length_le (L.keys.map strB) bits
              have h2 := blk_len L.idx
              rw [HW0.out.1]
              simp only [List.length_append]
              omega
            have hlen1 : S.laid.length ≤ (whole0 bits L).length := by
              rw [HW0.out.1, List.length_append]
              omega
            obtain ⟨P, hP⟩ : ∃ P : List (Option Addr × Nat × List Nat), [(al1, cl1, L.laid), (a5, c5, blk L.idx), (a6, c6, BMath.mk (L.keys.map strB) bits), (a7, c7, FtIs L bits)] = P := ⟨_, rfl⟩
            have hPc : cat P = whole0 bits L := by rw [← hP, cat4, HW0.out.1]
            have HIS6 : Hid (∀ W, Below w6.heap.size w6 W → ∀ p ∈ P, IsB W p.1 p.2.2 ∧ (p.1 = none → p.2.1 = 0)) := by
              intro W hW p hp
              rw [← hP] at hp
              simp only [List.mem_cons, List.not_mem_nil, or_false] at hp
              rcases hp with rfl | rfl | rfl | rfl
              · exact ⟨(HIL.out.below hb6).below hW, HNL.out⟩
              · exact ⟨HEB.out.1.1.below hW, HEB.out.1.2.1⟩
              · exact ⟨HEB.out.1.2.2.1.below hW, HEB.out.1.2.2.2.1⟩
              · exact ⟨HEB.out.2.1.below hW, HEB.out.2.2⟩
            obtain ⟨W7, hW7⟩ : ∃ W7, w6.alloc (.cells #[.slice al1 L.laid.length cl1, .slice a5 (blk L.idx).length c5, .slice a6 (BMath.mk (L.keys.map strB) bits).length c6, .slice a7 (FtIs L bits).length c7] 25) = W7 := ⟨_, rfl⟩
            have hb7 : Below w6.heap.size w6 W7 := by rw [← hW7]; exact (Below.refl _ _).alloc (Nat.le_refl _) _
            have hs7 : W7.heap.size = w6.heap.size + 1 := by rw [← hW7]; simp
            have HCC : Hid (Calls Tryd.prog 41 #[.slice (some ⟨w6.heap.size, 0, none⟩) 4 4] W7 fun e w' => ∃ a c T, e = .returned (.slice a (whole0 bits L).length c) ∧ OwnB 1 T w' (.slice a (whole0 bits L).length c) (whole0 bits L) ∧ Below W7.heap.size W7 w' ∧ (∀ b, b < W7.heap.size → T b = 0)) := by
              rw [← hPc]
              refine concat_any w6.heap.size P W7 (by omega) ?_ (HIS6.out W7 hb7) (by rw [← hP]; simp) (by rw [hPc]; omega) 4 (by rw [← hP]; rfl)
              intro i p hp
              rw [← hP] at hp
              rw [← hW7, World.cell?_alloc_at _ _ _ _ rfl]
              match i, hp with
              | 0, hp => simp at hp; subst hp; rfl
              | 1, hp => simp at hp; subst hp; rfl
              | 2, hp => simp at hp; subst hp; rfl
              | 3, hp => simp at hp; subst hp; rfl
              | i + 4, hp => simp at hp
            clear hP hPc HIS6 hflen
            generalize hX0 : whole0 bits L = X0 at *
            have HFW := Qb.hid HP1.out.fz
            have HT1 := Qb.hid hT1
            have k9 : w1.cell? ⟨M, 9, none⟩ = some (.int .i64 L.mt.by_) := HP1.out.mt 2 (by omega)
            have k13 : w1.cell? ⟨M, 13, none⟩ = some (.bool L.ended) := HP1.out.fin
            obtain ⟨q1, k1⟩ := HP1.out.ix
            obtain ⟨v5, k5, _⟩ := HP1.out.keys
            have HK := Qb.hid (And.intro k9 (And.intro k13 (And.intro k1 (And.intro k5 HL1.out))))
            have HB7 := Qb.hid (bl_step hb6 hb7)
            obtain ⟨N1, hN1⟩ : ∃ N, N = X0.length + 4 := ⟨_, rfl⟩
            have HN1 := Qb.hid hN1
            have q5 : (S.laid.length : Int) ≤ (N1 : Int) := by omega
            have hN1b : N1 ≤ 90000000004 := by omega
            have HLN := Qb.hid (And.intro hlen0 hlen1)
            clear k9 k13 k1 k5 hb7 hib hip hll hk2 hk4 hk5 hT1 hN1 hlen0 hlen1 hX0
            go_wp2_with (first
              | (go_at_call 41; go_loud (refine HCC.out.mono ?_; rintro e w8 ⟨a8, c8, T8, rfl, ho8, hb8, ht8⟩; have HO8 := Qb.hid ho8; have HB8 := Qb.hid (bl_step HB7.out hb8); have HT8 := Qb.hid ht8; have HBW := Qb.hid hb8; obtain ⟨a8', c8', e8, hi8, hcl8, hnn8, hcm8, _⟩ := ho8.form; cases e8; have HI8 := Qb.hid hi8; clear ho8 hb8 ht8 hi8))
              | (go_at_call 25; go_loud (refine (sumOf_any a8 c8 X0.length X0 w8 HI8.out (HT1.out.below HB8.out HT1.out.lt) (by omega) rfl).mono ?_; rintro e w9 ⟨rfl, hso⟩; have HSO := Qb.hid hso; clear hso))
              | (at_builtin; go_loud (refine wpList_app8n N1 _ (by rfl) (.tmp 69) (.tmp 71) (by rfl) 1 T8 _ X0 (by rfl) (HO8.out.below HSO.out.below) (some ⟨w8.heap.size, 0, none⟩) 4 4 (four (crc X0)) (by rfl) rfl (by simp) (so_isB HSO.out) (by rw [Qb.four_len]; have := HLN.out.1; omega) (by rw [Qb.four_len]; exact HN1.out) ?_; intro a10 c10 T10 w10 ho10 hg10; have HE := Qb.hid (en_mid HB7.out HBW.out HSO.out.below HT8.out hg10 ho10 HK.out HFW.out hlt1); clear ho10 hg10; obtain ⟨⟨g10, rfl⟩, hc10, y9, y13, y1, y5, y6, z9, z13, z1, z5, z6⟩ := en_out (n := 0) HE.out rfl; have q6 : (N1 : Int) ≤ (c10 : Int) := (by omega); have q7 : (S.laid.length : Int) ≤ (c10 : Int) := (by omega); have q8 : ¬ c10 = S.laid.length := (by have h1 := HN1.out; have h2 := HLN.out.2; omega)))
              | (go_at_call 42; go_loud (have HCL := Qb.hid (en_clone (k := S.laid.length) HE.out (by rw [List.length_append, Qb.four_len]; have := HLN.out.1; omega) (by rw [List.length_append, Qb.four_len]; exact HN1.out)); have hl9 : (X0 ++ four (crc X0)).length = N1 := (by rw [List.length_append, Qb.four_len]; exact HN1.out.symm); rw [hl9] at HCL; refine HCL.out.mono ?_; rintro e w16 ⟨v16, rfl, ho16, hb16⟩; have HF : Hid (MkIs t T w M bb r bits ((X0 ++ four (crc X0)).drop S.laid.length, 0, finS L ((X0 ++ four (crc X0)).length : Int)) (.returned (.tuple #[v16, .int .i64 0])) w16) := Qb.hid (end_fin ht HI.out HP1.out HG1.out HE.out.bl (by rw [hl9]; exact ho16) (by rw [hl9]; exact hb16)); obtain ⟨g16, c16, rfl, _⟩ := ho16; generalize hn16 : (List.drop S.laid.length (X0 ++ four (crc X0))).length = n16 at *; clear hb16 HCL)))
            go_ret2
            rw [HA.out, HW0.out.2]
            exact HF.out

end Tbl
end Go.Proofs.YtnhhalabmmcemaaDoor
