import Derived.Test.YtanpbknjnpmmnaaMl4
import Derived.Test.YtanpbknjnpmmnaaMta
import Derived.Test.YtanpbknjnpmmnaaRc8
import Derived.Deep.QuietTactic
import Derived.BigQuiet
import Derived.Deep.RegionHeld3
namespace Go.Proofs.Ytanpbknjnpmmnaa
namespace Mnf
open Go.RowKit CMath Byt Cod Crw Irw Laws
set_option linter.unusedVariables false
set_option linter.unusedSimpArgs false
set_option maxRecDepth 20000
theorem keepS {wq : World} {S : World → Prop} (h : ∀ W, Below wq.heap.size wq W → Below wq.heap.size wq W ∧ S W) {W W' : World} (h1 : Below wq.heap.size wq W ∧ S W) (h2 : Below W.heap.size W W') : Below wq.heap.size wq W' ∧ S W' := h W' (h1.1.trans (h2.mono h1.1.size))
/-- an edit of a list as it lies -/
theorem eds_at {w : World} {s : Sv} {es : List Ed} (h : EdsAt w s es) {k : Nat} {e : Ed} (hk : es[k]? = some e) : ∃ b off v, s.1 = some ⟨b, off, none⟩ ∧ b < w.heap.size ∧ (∀ j u, (kE.cs v)[j]? = some u → w.cell? ⟨b, off + k * 6 + j, none⟩ = some u) ∧ EdAt w v e := by
  obtain ⟨vs, h1, h2, h3, h4, h5, h6⟩ := h
  have hl : k < es.length := (List.getElem?_eq_some_iff.1 hk).1
  obtain ⟨b, off, e1, r⟩ := h5 (by rintro rfl; simp at h1; omega)
  have hv : vs[k]? = some (vs[k]'(by omega)) := List.getElem?_eq_getElem _
  exact ⟨b, off, _, e1, r.1, fun j u hu => r.2 k _ hv j u hu, h6 k _ e hv hk⟩
def LenB (e : Ed) : Prop := e.out.length ≤ 1000000000000 ∧ e.inn.length ≤ 1000000000000 ∧ e.ptr.length ≤ 1000000000000
set_option maxHeartbeats 2000000 in
/-- two lists of edits that are alike -/
theorem sameEdits_true (w : World) (a b : Option Addr) (n ca cb : Nat) (es : List Ed) (ha : EdsAt w (a, n, ca) es) (hb : EdsAt w (b, n, cb) es) (hl : ∀ e ∈ es, LenB e) (hn : n ≤ 1000000000000) :
    Calls Try.prog 8 #[.slice a n ca, .slice b n cb] w fun e w' => e = .returned (.bool true) ∧ Below w.heap.size w w' := by
  have hne : n = es.length := by obtain ⟨vs, _, h2, _⟩ := ha; exact h2
  have HE : Hid (EdsAt w (a, n, ca) es ∧ EdsAt w (b, n, cb) es ∧ (∀ e ∈ es, LenB e) ∧ n = es.length) := ⟨ha, hb, hl, hne⟩
  clear ha hb hl hne
  go_enter Try.func8, Try.ntmps8
  go_wp2
  go_loopw [5] (fun i wr => ∃ k : Nat, k ≤ n ∧ i = .int .i64 (k : Int) ∧ Hid (Below w.heap.size w wr)) (fun i _ => n - (intOf i).toNat)
  case atStart => exact ⟨0, Nat.zero_le _, rfl, Below.refl _ _⟩
  case round =>
    obtain ⟨k, hk, rfl, HBR⟩ := hrel
    rename World => wr
    by_cases hlt : k < n
    · have hkl : k < es.length := by rw [← HE.out.2.2.2]; exact hlt
      obtain ⟨ed, hed0⟩ : ∃ e, es[k]? = some e := ⟨_, List.getElem?_eq_getElem hkl⟩
      obtain ⟨b1, off1, v, hsa, hbl1, cs1, he1⟩ := eds_at (HE.out.1.below HBR.out) hed0
      dsimp only at hsa
      subst hsa
      obtain ⟨v1, v2, v3, o1, i1, p1⟩ := v
      have he1b := he1
      obtain ⟨⟨q1, q2, q3⟩, _⟩ := he1b
      obtain rfl : v1 = ed.log := q1
      obtain rfl : v2 = ed.nxt := q2
      obtain rfl : v3 = ed.seq := q3
      obtain ⟨b2, off2, v, hsa, hbl2, cs2, he2⟩ := eds_at (HE.out.2.1.below HBR.out) hed0
      dsimp only at hsa
      subst hsa
      obtain ⟨v1, v2, v3, o2, i2, p2⟩ := v
      have he2b := he2
      obtain ⟨⟨q1, q2, q3⟩, _⟩ := he2b
      obtain rfl : v1 = ed.log := q1
      obtain rfl : v2 = ed.nxt := q2
      obtain rfl : v3 = ed.seq := q3
      have HST : Hid (∀ W, Below wr.heap.size wr W → Below wr.heap.size wr W ∧ W.cell? ⟨b1, off1 + k * 6, none⟩ = some (.int .u64 (ed.log : Int)) ∧ W.cell? ⟨b1, off1 + k * 6 + 1, none⟩ = some (.int .u64 (ed.nxt : Int)) ∧ W.cell? ⟨b1, off1 + k * 6 + 2, none⟩ = some (.int .u64 (ed.seq : Int)) ∧ W.cell? ⟨b1, off1 + k * 6 + 3, none⟩ = some (.slice o1.1 o1.2.1 o1.2.2) ∧ W.cell? ⟨b1, off1 + k * 6 + 4, none⟩ = some (.slice i1.1 i1.2.1 i1.2.2) ∧ W.cell? ⟨b1, off1 + k * 6 + 5, none⟩ = some (.slice p1.1 p1.2.1 p1.2.2) ∧ W.cell? ⟨b2, off2 + k * 6, none⟩ = some (.int .u64 (ed.log : Int)) ∧ W.cell? ⟨b2, off2 + k * 6 + 1, none⟩ = some (.int .u64 (ed.nxt : Int)) ∧ W.cell? ⟨b2, off2 + k * 6 + 2, none⟩ = some (.int .u64 (ed.seq : Int)) ∧ W.cell? ⟨b2, off2 + k * 6 + 3, none⟩ = some (.slice o2.1 o2.2.1 o2.2.2) ∧ W.cell? ⟨b2, off2 + k * 6 + 4, none⟩ = some (.slice i2.1 i2.2.1 i2.2.2) ∧ W.cell? ⟨b2, off2 + k * 6 + 5, none⟩ = some (.slice p2.1 p2.2.1 p2.2.2)) := fun W hW => ⟨hW, (hW.cell (p := ⟨b1, off1 + k * 6, none⟩) hbl1).trans (cs1 0 _ rfl), (hW.cell (p := ⟨b1, off1 + k * 6 + 1, none⟩) hbl1).trans (cs1 1 _ rfl), (hW.cell (p := ⟨b1, off1 + k * 6 + 2, none⟩) hbl1).trans (cs1 2 _ rfl), (hW.cell (p := ⟨b1, off1 + k * 6 + 3, none⟩) hbl1).trans (cs1 3 _ rfl), (hW.cell (p := ⟨b1, off1 + k * 6 + 4, none⟩) hbl1).trans (cs1 4 _ rfl), (hW.cell (p := ⟨b1, off1 + k * 6 + 5, none⟩) hbl1).trans (cs1 5 _ rfl), (hW.cell (p := ⟨b2, off2 + k * 6, none⟩) hbl2).trans (cs2 0 _ rfl), (hW.cell (p := ⟨b2, off2 + k * 6 + 1, none⟩) hbl2).trans (cs2 1 _ rfl), (hW.cell (p := ⟨b2, off2 + k * 6 + 2, none⟩) hbl2).trans (cs2 2 _ rfl), (hW.cell (p := ⟨b2, off2 + k * 6 + 3, none⟩) hbl2).trans (cs2 3 _ rfl), (hW.cell (p := ⟨b2, off2 + k * 6 + 4, none⟩) hbl2).trans (cs2 4 _ rfl), (hW.cell (p := ⟨b2, off2 + k * 6 + 5, none⟩) hbl2).trans (cs2 5 _ rfl)⟩
      have hlb := HE.out.2.2.1 ed (List.mem_of_getElem? hed0)
      have HSE : Hid (∀ W, Below wr.heap.size wr W → Calls Try.prog 19 #[.agg #[.int .u64 (ed.log : Int), .int .u64 (ed.nxt : Int), .int .u64 (ed.seq : Int), .slice o1.1 o1.2.1 o1.2.2, .slice i1.1 i1.2.1 i1.2.2, .slice p1.1 p1.2.1 p1.2.2], .agg #[.int .u64 (ed.log : Int), .int .u64 (ed.nxt : Int), .int .u64 (ed.seq : Int), .slice o2.1 o2.2.1 o2.2.2, .slice i2.1 i2.2.1 i2.2.2, .slice p2.1 p2.2.1 p2.2.2]] W fun e w' => e = .returned (.bool true) ∧ Below W.heap.size W w') := fun W hW => sameEdit_true ed.log ed.nxt ed.seq o1 i1 p1 o2 i2 p2 ed W (he1.below hW).2.1 (he1.below hW).2.2.1 (he1.below hW).2.2.2.1 (he2.below hW).2.1 (he2.below hW).2.2.1 (he2.below hW).2.2.2.1 hlb.1 hlb.2.1 hlb.2.2
      have q1 : (k : Int) < (n : Int) := by omega
      clear hkl hed0 cs1 cs2 he1 he2 hlb
      go_wp2
      go_region_held3 (fun W => Below wr.heap.size wr W ∧ W.cell? ⟨b1, off1 + k * 6, none⟩ = some (.int .u64 (ed.log : Int)) ∧ W.cell? ⟨b1, off1 + k * 6 + 1, none⟩ = some (.int .u64 (ed.nxt : Int)) ∧ W.cell? ⟨b1, off1 + k * 6 + 2, none⟩ = some (.int .u64 (ed.seq : Int)) ∧ W.cell? ⟨b1, off1 + k * 6 + 3, none⟩ = some (.slice o1.1 o1.2.1 o1.2.2) ∧ W.cell? ⟨b1, off1 + k * 6 + 4, none⟩ = some (.slice i1.1 i1.2.1 i1.2.2) ∧ W.cell? ⟨b1, off1 + k * 6 + 5, none⟩ = some (.slice p1.1 p1.2.1 p1.2.2) ∧ W.cell? ⟨b2, off2 + k * 6, none⟩ = some (.int .u64 (ed.log : Int)) ∧ W.cell? ⟨b2, off2 + k * 6 + 1, none⟩ = some (.int .u64 (ed.nxt : Int)) ∧ W.cell? ⟨b2, off2 + k * 6 + 2, none⟩ = some (.int .u64 (ed.seq : Int)) ∧ W.cell? ⟨b2, off2 + k * 6 + 3, none⟩ = some (.slice o2.1 o2.2.1 o2.2.2) ∧ W.cell? ⟨b2, off2 + k * 6 + 4, none⟩ = some (.slice i2.1 i2.2.1 i2.2.2) ∧ W.cell? ⟨b2, off2 + k * 6 + 5, none⟩ = some (.slice p2.1 p2.2.1 p2.2.2)) (first | assumption | exact HST.out _ (Below.refl _ _).drew | exact HST.out _ (by assumption) | exact keepS HST.out (by assumption) (by assumption))
        (first
          | (go_at_call 19; refine (HSE.out _ (And.left (by assumption))).mono ?_; rintro e w6 ⟨rfl, hb6⟩))
      have HB8 : Hid (Below wr.heap.size wr w6) := by rename_i hz; exact hz.1
      rename_i hzz
      clear hzz HST HSE
      go_wp2
      go_roundw
      case rel => exact ⟨k + 1, by omega, by go_num, bl_go HBR.out HB8.out⟩
      case measure => simp [intOf]; omega
    · have q1 : ¬ (k : Int) < (n : Int) := by omega
      go_wp2
      go_ret
      exact ⟨rfl, HBR.out⟩
set_option maxHeartbeats 2000000 in
theorem sameChunks_true (a b : Option Addr) (ca cb n m : Nat) (rs : List (List Nat)) (w : World) (ha : IsD w a rs) (hb : IsD w b rs) (hn : n = rs.length) (hm : m = rs.length) (h40 : rs.length ≤ 1000000000000) :
    Calls Try.prog 9 #[.slice a n ca, .slice b m cb] w fun e w' => e = .returned (.bool true) ∧ ∃ k, w' = w.drewN k := by
  obtain rfl : m = n := by omega
  have HA : Hid (IsD w a rs) := ha
  have HB : Hid (IsD w b rs) := hb
  have HN : Hid (m = rs.length) := hm
  have hm40 : m ≤ 1000000000000 := by omega
  clear ha hb hn hm h40
  go_enter Try.func9, Try.ntmps9
  go_wp2
  go_loopw [5] (fun i wr => ∃ k n : Nat, k ≤ m ∧ i = .int .i64 k ∧ wr = w.drewN n) (fun i _ => m - (intOf i).toNat)
  case atStart => exact ⟨0, 0, Nat.zero_le _, rfl, rfl⟩
  case round =>
    obtain ⟨k, d, hk, rfl, rfl⟩ := hrel
    by_cases hlt : k < m
    · have hkl : k < rs.length := by rw [← HN.out]; exact hlt
      obtain ⟨b1, o1, ad1, c1, r, rfl, hr1, hs1, x1, hw1, _, hl1, hm1⟩ := HA.out.at_ hkl
      obtain ⟨b2, o2, ad2, c2, r', rfl, hr2, hs2, x2, hw2, _, hl2, hm2⟩ := HB.out.at_ hkl
      obtain rfl : r = r' := by rw [hr1] at hr2; cases hr2; rfl
      have q1 : (k : Int) < (m : Int) := by omega
      have HC : Hid (∀ z, Calls Try.prog 20 #[.slice ad1 r.length c1, .slice ad2 r.length c2] (w.drewN (d + z)) fun e' w' => e' = .returned (.bool true) ∧ ∃ q, w' = w.drewN (d + q)) := fun z =>
        (sameBytes_true ad1 ad2 c1 c2 _ _ r _ (hw1.below (below_drewN (Below.refl _ _) _)) (hw2.below (below_drewN (Below.refl _ _) _)) (by omega) rfl rfl).mono fun e' w' h => by
          obtain ⟨h1, n, h2⟩ := h
          exact ⟨h1, z + n, by rw [h2]; simp only [World.drewN_drewN, Nat.add_assoc]⟩
      clear hw1 hw2 hkl hr1 hr2 hl1 hl2 hm1 hm2
      go_wp2
      go_quiet ((go_at_call 20; exact (HC.out _)))
      go_wp2
      go_roundw
      case rel => exact ⟨k + 1, _, by omega, by go_num, rfl⟩
      case measure => simp [intOf]; omega
    · go_wp2
      go_ret
      exact ⟨rfl, _, rfl⟩
/-- a list of bytes that a copy holds -/
def Kc (T : Nat → Nat) (w : World) (v : Sv) (r : List Nat) : Prop := v.2.1 = r.length ∧ IsB w v.1 r ∧ (v.1 = none → v.2.2 = 0) ∧ r.length ≤ v.2.2 ∧ v.2.2 ≤ 9223372036854775807 ∧ ∀ b off, v.1 = some ⟨b, off, none⟩ → T b = 0 ∧ b < w.heap.size
theorem Kc.goes {t : Nat → Prop} {T T' : Nat → Nat} {w w' : World} {v : Sv} {r : List Nat} (h : Kc T w v r) (hg : Goes t T w T' w') (ht : ¬ t 0) : Kc T' w' v r := by
  obtain ⟨h1, h2, h3, h4, h5, h6⟩ := h
  refine ⟨h1, ⟨fun hne => ?_, h2.2⟩, h3, h4, h5, fun b off e => ?_⟩
  · obtain ⟨b, off, e, hr⟩ := h2.1 hne
    exact ⟨b, off, e, hr.keep (hg.block b hr.1 (by rw [(h6 b off e).1]; exact ht)) hg.size⟩
  · obtain ⟨q1, q2⟩ := h6 b off e
    exact ⟨(hg.tag b q2 (by rw [q1]; exact ht)).trans q1, Nat.lt_of_lt_of_le q2 hg.size⟩
/-- a list of copies, while it is made -/
structure Kl (w : World) (T : Nat → Nat) (wr : World) (v : Value) (rs : List (List Nat)) : Prop where
  old : Old w T wr
  own : ∃ vs, OwnK kD 1 T wr v vs ∧ vs.length = rs.length ∧ ∀ (j : Nat) x r, vs[j]? = some x → rs[j]? = some r → Kc T wr x r
theorem Kl.start (w : World) : Kl w (fun _ => 0) w (.slice none 0 0) [] := ⟨Old.first w, [], OwnK.empty _ _ _, rfl, fun j x r hx => by simp at hx⟩
theorem Kl.isD {w wr : World} {T : Nat → Nat} {s : Sv} {rs : List (List Nat)} (h : Kl w T wr (svV s) rs) : IsD wr s.1 rs ∧ s.2.1 = rs.length := by
  obtain ⟨vs, h1, h2, h3⟩ := h.own
  obtain ⟨k1, k2, k3, k4, _, k5⟩ := OwnK.sk h1
  refine ⟨⟨vs, h2, k2, fun i x r hx hr => ?_⟩, k1.trans h2⟩
  obtain ⟨q1, q2, q3, q4, q5, _⟩ := h3 i x r hx hr
  exact ⟨q1, q2, q3, q4, q5⟩
/-- one copy more -/
theorem Kl.more {w wr w1 w2 : World} {T T' : Nat → Nat} {v v' : Value} {rs : List (List Nat)} {vs : List Sv} {r : List Nat} {a1 : Option Addr} {c1 : Nat} (hold : Old w T wr) (hvs : vs.length = rs.length) (hall : ∀ (j : Nat) x r, vs[j]? = some x → rs[j]? = some r → Kc T wr x r) (hn : New 5 wr.heap.size w1 a1 c1 r) (hb1 : Below wr.heap.size wr w1) (hb2 : Below w1.heap.size w1 w2) {w3 : World} (hg : Goes (· = 1) T w2 T' w3) (ho : OwnK kD 1 T' w3 v' (vs ++ [(a1, r.length, c1)])) : Kl w T' w3 v' (rs ++ [r]) := by
  have G : Goes (· = 1) T wr T' w3 := ((Goes.below (t := (· = 1)) (T := T) hb1).trans (Goes.below hb2)).trans hg
  have hk : Kc T w1 (a1, r.length, c1) r := ⟨rfl, hn.isB, hn.cap, hn.le, hn.max, fun b off e => by
    rcases hn.row.2 with ⟨z1, _⟩ | ⟨g, cap, cur, hv, hg, hh, _⟩
    · dsimp only at e
      rw [e] at z1
      simp at z1
    · injection hv with hv1
      dsimp only at e
      rw [e] at hv1
      cases hv1
      exact ⟨hold.zero b (.inr hg), (Array.getElem?_eq_some_iff.1 hh).1⟩⟩
  refine ⟨hold.goes G (by decide), _, ho, by simp [hvs], fun j x y hx hy => ?_⟩
  rcases Nat.lt_or_ge j rs.length with hj | hj
  · rw [List.getElem?_append_left (by omega)] at hx hy
    exact (hall j x y hx hy).goes G (by decide)
  · rw [List.getElem?_append_right (by omega)] at hx hy
    have hj0 : j - rs.length = 0 := by
      have := (List.getElem?_eq_some_iff.1 hy).1
      simp at this
      omega
    rw [hvs, hj0] at hx
    rw [hj0] at hy
    cases hx
    cases hy
    exact hk.goes ((Goes.below (t := (· = 1)) (T := T) hb2).trans hg) (by decide)
end Mnf
end Go.Proofs.Ytanpbknjnpmmnaa
