import Derived.Test.YtjbnnhephagdmaaDoorMp5ss
import Derived.Test.YtjbnnhephagdmaaDoorMp5sn
import Derived.Test.YtjbnnhephagdmaaDoorMp5ns
import Derived.Test.YtjbnnhephagdmaaDoorMp5nn
import Derived.Deep.LoopGhost
namespace Go.Proofs.YtjbnnhephagdmaaDoor
namespace Mnf
open Go.RowKit CMath Byt Cod Crw Irw Laws
set_option linter.unusedVariables false
set_option linter.unusedSimpArgs false
set_option maxRecDepth 20000
theorem split_any (ed : Ed) (o i p : Sv) (w : World) (ho : Ls kPl w o ed.out) (hi : Ls kPd w i ed.inn) (hbo : o.2.2 ≤ 9223372036854775807) (hbi : i.2.2 ≤ 9223372036854775807) (hto : ed.out.length ≤ 1000000000000) (hti : ed.inn.length ≤ 1000000000000) :
    Calls Tryd.prog 21 #[.agg #[.int .u64 (ed.log : Int), .int .u64 (ed.nxt : Int), .int .u64 (ed.seq : Int), .slice o.1 o.2.1 o.2.2, .slice i.1 i.2.1 i.2.2, .slice p.1 p.2.1 p.2.2]] w fun e w' => SpIs ed.log ed.nxt ed.seq o i p ed.out ed.inn (nOut ed) (nIn ed) (lastE ed) w e w' := by
  have hol : o.2.1 = ed.out.length := ho.2.1
  have hil : i.2.1 = ed.inn.length := hi.2.1
  have e1 : nOut ed = min o.2.1 256 := by unfold nOut; rw [hol]
  have e2 : nIn ed = min i.2.1 (256 - min o.2.1 256) := by unfold nIn; rw [e1, hil]
  have e3 : decide ((o.2.1 - min o.2.1 256) + (i.2.1 - min i.2.1 (256 - min o.2.1 256)) = 0) = lastE ed := by
    unfold lastE tabs restE
    rw [← e2, ← e1, hol, hil]
    simp
  rw [e1, e2]
  obtain ⟨oa, ol, oc⟩ := o
  obtain ⟨ia, il, ic⟩ := i
  dsimp only at hol hil e3 hbo hbi ⊢
  rcases ho.2.2.2.2 with h1 | ⟨b0, off0, h1⟩
  · dsimp only at h1
    subst h1
    obtain ⟨_, rfl, rfl⟩ := ho.nilD
    rcases hi.2.2.2.2 with h2 | ⟨b1, off1, h2⟩
    · dsimp only at h2
      subst h2
      obtain ⟨_, rfl, rfl⟩ := hi.nilD
      exact split_nn ed.log ed.nxt ed.seq p.1 p.2.1 p.2.2 ed.out ed.inn w ho hi hbo hbi (by omega) (by omega) _ e3
    · dsimp only at h2
      subst h2
      exact split_ns ed.log ed.nxt ed.seq b1 off1 il ic p.1 p.2.1 p.2.2 ed.out ed.inn w ho hi hbo hbi (by omega) (by omega) _ e3
  · dsimp only at h1
    subst h1
    rcases hi.2.2.2.2 with h2 | ⟨b1, off1, h2⟩
    · dsimp only at h2
      subst h2
      obtain ⟨_, rfl, rfl⟩ := hi.nilD
      exact split_sn ed.log ed.nxt ed.seq b0 off0 ol oc p.1 p.2.1 p.2.2 ed.out ed.inn w ho hi hbo hbi (by omega) (by omega) _ e3
    · dsimp only at h2
      subst h2
      exact split_ss ed.log ed.nxt ed.seq b0 off0 ol oc b1 off1 il ic p.1 p.2.1 p.2.2 ed.out ed.inn w ho hi hbo hbi (by omega) (by omega) _ e3
theorem infoD : (Tryd.prog.info? 35).map (fun i => (i.zero, i.size, i.bytes)) = some (some kD.zero, 1, 24) := by kernel_rfl
/-- bytes of tag 0 -/
def DsT (T : Nat → Nat) (w : World) (v : Sv) (l : List Nat) : Prop := v.2.1 = l.length ∧ IsB w v.1 l ∧ (v.1 = none → v.2.2 = 0) ∧ l.length ≤ v.2.2 ∧ v.2.2 ≤ 9223372036854775807 ∧ ∀ b off, v.1 = some ⟨b, off, none⟩ → T b = 0 ∧ b < w.heap.size
theorem isB_keep' {w w' : World} {a : Option Addr} {l : List Nat} (h : IsB w a l) (hb : ∀ b off, a = some ⟨b, off, none⟩ → w'.heap[b]? = w.heap[b]?) (hs : w.heap.size ≤ w'.heap.size) : IsB w' a l := by
  refine ⟨fun hne => ?_, h.2⟩
  obtain ⟨b, off, e, hr⟩ := h.1 hne
  exact ⟨b, off, e, hr.keep (hb b off e) hs⟩
theorem DsT.goes {t : Nat → Prop} {T T' : Nat → Nat} {w w' : World} {v : Sv} {l : List Nat} (h : DsT T w v l) (hg : Goes t T w T' w') (ht : ¬ t 0) : DsT T' w' v l := by
  obtain ⟨h1, h2, h3, h4, h5, h6⟩ := h
  refine ⟨h1, isB_keep' h2 (fun b off e => hg.block b (h6 b off e).2 (by rw [(h6 b off e).1]; exact ht)) hg.size, h3, h4, h5, fun b off e => ?_⟩
  obtain ⟨q1, q2⟩ := h6 b off e
  exact ⟨(hg.tag b q2 (by rw [q1]; exact ht)).trans q1, Nat.lt_of_lt_of_le q2 hg.size⟩
/-- it lies in new memory -/
def DsN (w0 : World) (T : Nat → Nat) (w : World) (v : Sv) (l : List Nat) : Prop := DsT T w v l ∧ ∀ b off, v.1 = some ⟨b, off, none⟩ → w0.heap.size ≤ b
theorem DsN.goes {w0 : World} {t : Nat → Prop} {T T' : Nat → Nat} {w w' : World} {v : Sv} {l : List Nat} (h : DsN w0 T w v l) (hg : Goes t T w T' w') (ht : ¬ t 0) : DsN w0 T' w' v l := ⟨h.1.goes hg ht, h.2⟩
/-- records as they lie -/
def DsAt (w : World) (s : Sv) (rs : List (List Nat)) : Prop := IsD w s.1 rs ∧ s.2.1 = rs.length ∧ (s.1 = none → s.2.2 = 0) ∧ rs.length ≤ s.2.2 ∧ Fm s
theorem DsAt.below {w w' : World} {s : Sv} {rs : List (List Nat)} (h : DsAt w s rs) (hb : Below w.heap.size w w') : DsAt w' s rs := ⟨h.1.below hb, h.2⟩
/-- Put's state: what is left of the edit stands in the box -/
structure Pt (w : World) (T : Nat → Nat) (wr : World) (ed : Ed) (rs : List (List Nat)) (s o i p : Sv) : Prop where
  old : Old w T wr
  box : Zb wr w.heap.size (evC ed.log ed.nxt ed.seq o i p)
  tag : T w.heap.size = 2
  own : ∃ vs, OwnK kD 1 T wr (svV s) vs ∧ vs.length = rs.length ∧ ∀ (j : Nat) v l, vs[j]? = some v → rs[j]? = some l → DsN w T wr v l
  lo : Ls kPl w o ed.out
  li : Ls kPd w i ed.inn
  lp : Ls kT w p ed.ptr
  ok : okE ed
  bo : o.2.2 ≤ 9223372036854775807 ∧ i.2.2 ≤ 9223372036854775807
theorem Pt.below {w wr w' : World} {T : Nat → Nat} {ed : Ed} {rs : List (List Nat)} {s o i p : Sv} (h : Pt w T wr ed rs s o i p) (hb : Below wr.heap.size wr w') : Pt w T w' ed rs s o i p := by
  have hg := Goes.below (t := fun _ => False) (T := T) hb
  obtain ⟨vs, h1, h2, h3⟩ := h.own
  exact ⟨h.old.goes hg (fun z => z), h.box.below hb, h.tag, ⟨vs, h1.below hb, h2, fun j v e hv he => (h3 j v e hv he).goes hg (fun z => z)⟩, h.lo, h.li, h.lp, h.ok, h.bo⟩
theorem Pt.high {w wr : World} {T : Nat → Nat} {ed : Ed} {rs : List (List Nat)} {s o i p : Sv} (h : Pt w T wr ed rs s o i p) : ∀ x, wr.heap.size ≤ x → T x = 0 := fun x hx => h.old.zero x (.inr hx)
/-- one more record -/
theorem Pt.app {w wr w' : World} {T T' : Nat → Nat} {ed : Ed} {rs : List (List Nat)} {s s' o i p : Sv} (h : Pt w T wr ed rs s o i p) (hg : Goes (· = 1) T wr T' w') (vs : List Sv) (hvs : vs.length = rs.length) (hds : ∀ (j : Nat) v l, vs[j]? = some v → rs[j]? = some l → DsN w T wr v l) (v : Sv) (l : List Nat) (hv : DsN w T wr v l) (hown : OwnK kD 1 T' w' (svV s') (vs ++ [v])) : Pt w T' w' ed (rs ++ [l]) s' o i p := by
  refine ⟨h.old.goes hg (by decide), h.box.goes hg (by rw [h.tag]; decide), (hg.tag _ h.box.1 (by rw [h.tag]; decide)).trans h.tag, ⟨_, hown, by simp [hvs], fun j u e hu he => ?_⟩, h.lo, h.li, h.lp, h.ok, h.bo⟩
  refine DsN.goes ?_ hg (by decide)
  rcases Nat.lt_or_ge j rs.length with hj | hj
  · rw [List.getElem?_append_left (by omega)] at hu he
    exact hds j u e hu he
  · rw [List.getElem?_append_right (by omega)] at hu he
    have hj0 : j - rs.length = 0 := by
      have := (List.getElem?_eq_some_iff.1 he).1
      simp at this
      omega
    rw [hvs, hj0] at hu
    rw [hj0] at he
    cases hu
    cases he
    exact hv
theorem Pt.ds {w wr : World} {T : Nat → Nat} {ed : Ed} {rs : List (List Nat)} {s o i p : Sv} (h : Pt w T wr ed rs s o i p) : DsAt wr s rs := by
  obtain ⟨vs, h1, h2, h3⟩ := h.own
  obtain ⟨k1, k2, k3, k4, kf, k5⟩ := OwnK.sk h1
  refine ⟨⟨vs, h2, k2, fun j v l hv hl => ?_⟩, k1.trans h2, k4, by omega, kf⟩
  obtain ⟨⟨q1, q2, q3, q4, q5, q6⟩, _⟩ := h3 j v l hv hl
  exact ⟨q1, q2, q3, q4, q5⟩
/-- records in new memory -/
def DsNew (w w' : World) (s : Sv) (rs : List (List Nat)) : Prop := (∃ vs : List Sv, vs.length = rs.length ∧ IsK kD w' s.1 vs ∧ ∀ (j : Nat) v l, vs[j]? = some v → rs[j]? = some l → DsN w (fun _ => 0) w' v l) ∧ s.2.1 = rs.length ∧ (s.1 = none → s.2.2 = 0) ∧ rs.length ≤ s.2.2 ∧ Fm s
theorem Pt.dsn {w wr : World} {T : Nat → Nat} {ed : Ed} {rs : List (List Nat)} {s o i p : Sv} (h : Pt w T wr ed rs s o i p) : DsNew w wr s rs := by
  obtain ⟨vs, h1, h2, h3⟩ := h.own
  obtain ⟨k1, k2, k3, k4, kf, k5⟩ := OwnK.sk h1
  refine ⟨⟨vs, h2, k2, fun j v l hv hl => ?_⟩, k1.trans h2, k4, by omega, kf⟩
  obtain ⟨⟨q1, q2, q3, q4, q5, q6⟩, q7⟩ := h3 j v l hv hl
  exact ⟨⟨q1, q2, q3, q4, q5, fun b off e => ⟨rfl, (q6 b off e).2⟩⟩, q7⟩
theorem DsNew.ds {w w' : World} {s : Sv} {rs : List (List Nat)} (h : DsNew w w' s rs) : DsAt w' s rs := by
  obtain ⟨⟨vs, h1, h2, h3⟩, h4⟩ := h
  exact ⟨⟨vs, h1, h2, fun j v l hv hl => by obtain ⟨⟨q1, q2, q3, q4, q5, _⟩, _⟩ := h3 j v l hv hl; exact ⟨q1, q2, q3, q4, q5⟩⟩, h4⟩
/-- the rest stands in the box -/
theorem Pt.rest {w wr : World} {T : Nat → Nat} {ed : Ed} {rs : List (List Nat)} {s o i p o2 i2 : Sv} (h : Pt w T wr ed rs s o i p) (ho : Ls kPl w o2 (ed.out.drop (nOut ed))) (hi : Ls kPd w i2 (ed.inn.drop (nIn ed))) (hb : o2.2.2 ≤ 9223372036854775807 ∧ i2.2.2 ≤ 9223372036854775807) : Pt w T (sets wr w.heap.size 0 (evC ed.log ed.nxt ed.seq o2 i2 p)) (restE ed) rs s o2 i2 p := by
  have g2 := Goes.sets (t := (· = 2)) (T := T) (B := w.heap.size) h.tag (evC ed.log ed.nxt ed.seq o2 i2 p) wr 0
  obtain ⟨vs, h1, h2, h3⟩ := h.own
  exact ⟨h.old.goes g2 (by decide), h.box.sets (by simp [evC]), h.tag, ⟨vs, h1.goes g2 (by decide), h2, fun j v l hv hl => (h3 j v l hv hl).goes g2 (by decide)⟩, ho, hi, h.lp, okE_rest h.ok, hb⟩
theorem Pt.start (w : World) (ed : Ed) (o i p : Sv) (arr : Array Value) (harr : arr = (evC ed.log ed.nxt ed.seq o i p).toArray) (lo : Ls kPl w o ed.out) (li : Ls kPd w i ed.inn) (lp : Ls kT w p ed.ptr) (ok : okE ed) (bo : o.2.2 ≤ 9223372036854775807 ∧ i.2.2 ≤ 9223372036854775807) : Pt w (upd (fun _ => 0) w.heap.size 2) (w.alloc (.cells arr 34)) ed [] nS o i p where
  old := ⟨(Below.refl _ _).alloc (Nat.le_refl _) _, fun b hb => by
    rw [upd_other]
    simp at hb
    omega⟩
  box := by subst harr; exact Zb.new w _ _
  tag := upd_same _ _ _
  own := ⟨[], OwnK.empty _ _ _, rfl, fun j v e hv => by simp at hv⟩
  lo := lo
  li := li
  lp := lp
  ok := ok
  bo := bo
end Mnf
end Go.Proofs.YtjbnnhephagdmaaDoor
