import Derived.Test.YtecgecolghgjoaaZ3
namespace Go.Proofs.Ytecgecolghgjoaa
namespace Vr
open Go.Shelf Go.RowKit Go.Lib Go.Sort Go.Maps Go.ChangeMaps Go.MapKept Laws Irw Crw
set_option linter.unusedVariables false
set_option linter.unusedSimpArgs false
set_option maxRecDepth 20000
theorem infoU1 : (Try.prog.info? 33).map (fun i => (i.zero, i.size, i.bytes)) = some (some kU.zero, kU.size, kU.bytes) := infoU
/-- a list in a block of that tag -/
def Lt {α : Type} (K : Knd α) (t : Nat) (T : Nat → Nat) (w : World) (s : Sv) (l : List α) : Prop := Ls K w s l ∧ ∀ b off, s.1 = some ⟨b, off, none⟩ → T b = t ∧ b < w.heap.size
theorem Lt.goes {α : Type} {K : Knd α} {s : Nat} {t : Nat → Prop} {T T' : Nat → Nat} {w w' : World} {v : Sv} {l : List α} (h : Lt K s T w v l) (hg : Goes t T w T' w') (hs : ¬ t s) : Lt K s T' w' v l := by
  obtain ⟨⟨h1, h2⟩, h5⟩ := h
  refine ⟨⟨h1.keep (fun b hb ⟨off, e⟩ => hg.block b hb (by rw [(h5 b off e).1]; exact hs)) hg.size, h2⟩, fun b off e => ?_⟩
  obtain ⟨q1, q2⟩ := h5 b off e
  exact ⟨(hg.tag b q2 (by rw [q1]; exact hs)).trans q1, Nat.lt_of_lt_of_le q2 hg.size⟩
theorem Lt.own {α : Type} {K : Knd α} {t : Nat} {T : Nat → Nat} {w : World} {s : Sv} {l : List α} (h : OwnK K t T w (svV s) l) : Lt K t T w s l := ⟨Ls.own h, (OwnK.sk h).2.2.2.2.2⟩
/-- the list of pins: one's own, while more may come -/
def PB (f : Bool) (T : Nat → Nat) (w : World) (s : Sv) (B : List Nat) : Prop := Lt kV 23 T w s B ∧ (f = true → OwnK kV 23 T w (svV s) B)
theorem PB.goes {f : Bool} {t : Nat → Prop} {T T' : Nat → Nat} {w w' : World} {v : Sv} {B : List Nat} (h : PB f T w v B) (hg : Goes t T w T' w') (hs : ¬ t 23) : PB f T' w' v B := ⟨h.1.goes hg hs, fun e => (h.2 e).goes hg hs⟩
theorem PB.own {f : Bool} {T : Nat → Nat} {w : World} {v : Sv} {B : List Nat} (h : OwnK kV 23 T w (svV v) B) : PB f T w v B := ⟨Lt.own h, fun _ => h⟩
theorem PB.below {f : Bool} {T : Nat → Nat} {w w' : World} {v : Sv} {B : List Nat} (h : PB f T w v B) (hb : RowKit.Below w.heap.size w w') : PB f T w' v B := h.goes (Goes.below (t := fun _ => False) hb) (fun z => z)
/-- the statement's book: itself tag 20, its lists 21, 22, 23 -/
structure QAt (f : Bool) (T : Nat → Nat) (w : World) (bb : Nat) (I G : List Int) (B : List Nat) : Prop where
  tb : T bb = 20
  box : ∃ sI sG sB : Sv, Zb w bb [svV sI, svV sG, svV sB] ∧ OwnK kU 21 T w (svV sI) I ∧ OwnK kU 22 T w (svV sG) G ∧ PB f T w sB B
theorem QAt.goes {f : Bool} {t : Nat → Prop} {T T' : Nat → Nat} {w w' : World} {bb : Nat} {I G : List Int} {B : List Nat} (h : QAt f T w bb I G B) (hg : Goes t T w T' w') (h0 : ¬ t 20) (h1 : ¬ t 21) (h2 : ¬ t 22) (h3 : ¬ t 23) : QAt f T' w' bb I G B := by
  obtain ⟨sI, sG, sB, hz, a, b, c⟩ := h.box
  exact ⟨(hg.tag bb hz.1 (by rw [h.tb]; exact h0)).trans h.tb, sI, sG, sB, hz.goes hg (by rw [h.tb]; exact h0), a.goes hg h1, b.goes hg h2, c.goes hg h3⟩
theorem QAt.below {f : Bool} {T : Nat → Nat} {w w' : World} {bb : Nat} {I G : List Int} {B : List Nat} (h : QAt f T w bb I G B) (hb : RowKit.Below w.heap.size w w') : QAt f T w' bb I G B := h.goes (Goes.below (t := fun _ => False) hb) (fun z => z) (fun z => z) (fun z => z) (fun z => z)
set_option maxHeartbeats 2000000 in
theorem told_any {f : Bool} {T : Nat → Nat} {w : World} {bb : Nat} {I G : List Int} {B : List Nat} (h : QAt f T w bb I G B) (la : Option Addr) (lm lc : Nat) (l : List Int) (hl : Ls kU w (la, lm, lc) l) (hy : ∀ y ∈ l, y ∉ G ∧ y ∈ I) (hr : l.Pairwise (· < ·)) (hI : I.length ≤ 2000000000) (hG : G.length ≤ 2000000000) (hll : l.length ≤ 3000000) :
    Calls Try.prog 14 #[.pointer (some ⟨bb, 0, none⟩), .slice la lm lc] w fun e w' => e = .returned (.bool true) ∧ ∃ T', QAt f T' w' bb I (G ++ l) B ∧ Goes (fun t => t = 20 ∨ t = 22) T w T' w' := by
  obtain ⟨iz, hi, hz0, hz1, hz2⟩ := info_parts infoU1
  have hm := hl.2.1
  change lm = l.length at hm
  subst hm
  obtain ⟨⟨ia, im, ic⟩, ⟨ga, gm, gc⟩, ⟨pa, pm, pc⟩, hz, oI, oG, oB⟩ := h.box
  have c0 := hz.2.1 0 _ rfl
  have c1 := hz.2.1 1 _ rfl
  have c2 := hz.2.2 1
  simp only [svV] at c0 c1
  have HA : Hid (QAt f T w bb I G B ∧ Ls kU w (la, l.length, lc) l ∧ (∀ y ∈ l, y ∉ G ∧ y ∈ I) ∧ l.Pairwise (· < ·) ∧ Zb w bb [svV (ia, im, ic), svV (ga, gm, gc), svV (pa, pm, pc)] ∧ OwnK kU 21 T w (svV (ia, im, ic)) I ∧ OwnK kU 22 T w (svV (ga, gm, gc)) G ∧ PB f T w (pa, pm, pc) B) := ⟨h, hl, hy, hr, hz, oI, oG, oB⟩
  have CG : Hid (∀ x ∈ l, ∀ W, RowKit.Below w.heap.size w W → Calls Try.prog 11 #[.slice ga gm gc, .int .u64 x] W fun e w' => e = .returned (.bool false) ∧ w' = W) := fun x hx W hW => by
    have := inside_any ga gc gm G x W ((Ls.own oG).below hW) hG
    rw [decide_eq_false (hy x hx).1] at this
    exact this
  have CI : Hid (∀ x ∈ l, ∀ W, RowKit.Below w.heap.size w W → Calls Try.prog 11 #[.slice ia im ic, .int .u64 x] W fun e w' => e = .returned (.bool true) ∧ w' = W) := fun x hx W hW => by
    have := inside_any ia ic im I x W ((Ls.own oI).below hW) hI
    rw [decide_eq_true (hy x hx).2] at this
    exact this
  clear h hl hy hr hz oI oG oB
  go_enter Try.func14, Try.ntmps14
  go_wp2
  go_loopw [5] (fun i wr => ∃ k m : Nat, k ≤ l.length ∧ i = .int .i64 (k : Int) ∧ wr = w.drewN m) (fun i _ => l.length - (intOf i).toNat)
  case atStart => exact ⟨0, 0, Nat.zero_le _, rfl, rfl⟩
  case round =>
    obtain ⟨k, m, hk, rfl, rfl⟩ := hrel
    by_cases hlt : k < l.length
    · obtain ⟨x, hx⟩ : ∃ x, l[k]? = some x := ⟨_, List.getElem?_eq_getElem hlt⟩
      obtain ⟨b, off, rfl, hb, y0⟩ := HA.out.2.1.u hx
      have q1 : (k : Int) < (l.length : Int) := by omega
      have D1 := CG.out x (List.mem_of_getElem? hx)
      have D2 := CI.out x (List.mem_of_getElem? hx)
      have CG2 : Hid (∀ d, Calls Try.prog 11 #[.slice ga gm gc, .int .u64 x] (w.drewN (m + d)) fun e w' => e = .returned (.bool false) ∧ ∃ n, w' = w.drewN (m + n)) := fun d => (D1 _ (bl_dn (Below.refl _ _) (m + d))).mono fun e w' hp => ⟨hp.1, d, hp.2⟩
      have CI2 : Hid (∀ d, Calls Try.prog 11 #[.slice ia im ic, .int .u64 x] (w.drewN (m + d)) fun e w' => e = .returned (.bool true) ∧ ∃ n, w' = w.drewN (m + n)) := fun d => (D2 _ (bl_dn (Below.refl _ _) (m + d))).mono fun e w' hp => ⟨hp.1, d, hp.2⟩
      clear D1 D2
      by_cases hk0 : k = 0
      · have hk1 : decide ((0 : Int) < (k : Int)) = false := by simp; omega
        have hk4 : ¬ 0 < k := by omega
        have hk5 : decide (0 < k) = false := by simp; omega
        clear hk0 hx
        go_wp2
        go_quiet (first
          | (go_at_call_of 11 ga; exact CG2.out _)
          | (go_at_call_of 11 ia; exact CI2.out _))
        go_wp2
        go_roundw
        case rel => exact ⟨k + 1, _, by omega, by go_num, rfl⟩
        case measure => simp [intOf]; omega
      · have hk1 : (0 : Int) < (k : Int) := by omega
        have hk3 : decide ((0 : Int) < (k : Int)) = true := decide_eq_true hk1
        have hk6 : 0 < k := by omega
        have hk7 : decide (0 < k) = true := decide_eq_true hk6
        obtain ⟨x', hx'⟩ : ∃ x, l[k - 1]? = some x := ⟨_, List.getElem?_eq_getElem (by omega)⟩
        obtain ⟨b, off, e1, _, y1⟩ := HA.out.2.1.u hx'
        cases e1
        have hxx : x' < x := by
          obtain ⟨r1, r2⟩ := List.getElem?_eq_some_iff.1 hx'
          obtain ⟨s1, s2⟩ := List.getElem?_eq_some_iff.1 hx
          have := List.pairwise_iff_getElem.1 HA.out.2.2.2.1 (k - 1) k r1 s1 (by omega)
          rw [r2, s2] at this
          exact this
        have hx3 : ¬ x ≤ x' := by omega
        clear hx hx' hk0
        go_wp2
        go_quiet (first
          | (go_at_call_of 11 ga; exact CG2.out _)
          | (go_at_call_of 11 ia; exact CI2.out _))
        go_wp2
        go_roundw
        case rel => exact ⟨k + 1, _, by omega, by go_num, rfl⟩
        case measure => simp [intOf]; omega
    · have q1 : ¬ (k : Int) < (l.length : Int) := by omega
      have HT : Hid (T bb = 20) := HA.out.1.tb
      go_wp2_with (at_builtin; go_loud (refine wpList_appK kU _ (by rfl) (.tmp 53) (.tmp 54) 27 (by rfl) iz Try.underlying27 hi hz0 hz1 hz2 22 T (.slice ga gm gc) G (by rfl) (HA.out.2.2.2.2.2.2.1.below (bl_dn (Below.refl _ _) m)) la l.length lc l (by rfl) rfl HA.out.2.1.2.2.1 (HA.out.2.1.below (bl_dn (Below.refl _ _) m)).1 (by omega) ?_; intro a' cc' T' w5 ho5 hg5; have HY : Hid (OwnK kU 22 T' w5 (.slice a' (G.length + l.length) cc') (G ++ l) ∧ Goes (· = 22) T (w.drewN m) T' w5) := ⟨ho5, hg5⟩; have HZ5 := (HA.out.2.2.2.2.1.below (bl_dn (Below.refl _ _) m)).goes hg5 (by rw [HT.out]; decide); have z1 := HZ5.2.1 1 _ rfl; have z2 := HZ5.2.2 1; simp only [svV] at z1; have HZ6 : Hid (Zb w5 bb [svV (ia, im, ic), svV (ga, gm, gc), svV (pa, pm, pc)]) := HZ5; clear ho5 hg5 HZ5))
      go_ret
      have hT5 : T' bb = 20 := (HY.out.2.tag bb (HA.out.2.2.2.2.1.below (bl_dn (Below.refl _ _) m)).1 (by rw [HT.out]; decide)).trans HT.out
      have hgs : Goes (· = 20) T' w5 T' (w5.setCell ⟨bb, 1, none⟩ (.slice a' (G.length + l.length) cc')) := Goes.setCell (t := (· = 20)) hT5
      refine ⟨rfl, T', ⟨hT5, (ia, im, ic), (a', G.length + l.length, cc'), (pa, pm, pc), HZ6.out.set 1 _, ?_, ?_, ?_⟩, ?_⟩
      · exact ((HA.out.2.2.2.2.2.1.below (bl_dn (Below.refl _ _) m)).goes HY.out.2 (by decide)).goes hgs (by decide)
      · exact HY.out.1.goes hgs (by decide)
      · exact ((HA.out.2.2.2.2.2.2.2.below (bl_dn (Below.refl _ _) m)).goes HY.out.2 (by decide)).goes hgs (by decide)
      · exact ((Goes.below (t := fun t => t = 20 ∨ t = 22) (bl_dn (Below.refl _ _) m)).trans (HY.out.2.mono (fun _ => .inr))).trans (hgs.mono (fun _ => .inl))
end Vr
end Go.Proofs.Ytecgecolghgjoaa
