import Derived.Test.YtanpbknjnpmmnaaMt8
namespace Go.Proofs.Ytanpbknjnpmmnaa
namespace Mnf
open Go.RowKit CMath Byt Cod Crw Irw Laws
set_option linter.unusedVariables false
set_option linter.unusedSimpArgs false
set_option maxRecDepth 20000
theorem rdRec_A (l : List Nat) : rdRec l = (recA l).bind fun x => if fitR x.1 x.2 = true then some x else none := by
  unfold rdRec recA
  cases l with
  | nil => rfl
  | cons c r =>
    dsimp only
    by_cases h0 : c = 0
    · subst h0
      simp only [if_true, Nat.zero_le]
      rw [rdBody_R]
      cases recR r with
      | none => rfl
      | some e =>
        simp only [Option.bind_some, Option.map_some]
        by_cases hf : fitR false e = true
        · simp [hf]
        · simp [hf]
    · by_cases h1 : c = 1
      · subst h1
        simp only [Nat.le_refl, if_true, Nat.one_ne_zero, if_false]
        rw [rdBody_R]
        cases recR r with
        | none => rfl
        | some e =>
          simp only [Option.bind_some, Option.map_some]
          by_cases hf : fitR true e = true
          · simp [hf]
          · simp [hf]
      · rw [if_neg h0, if_neg h1, if_neg (by omega)]
        rfl
theorem lst_le {α : Type} {o : List Nat → Option (α × List Nat)} {m : Nat} {r : List Nat} {y : List α × List Nat} (h : rdLst o m r = some y) : y.1.length ≤ m := by
  unfold rdLst at h
  cases a : rdN m r with
  | none => rw [a] at h; cases h
  | some x =>
    rw [a, Option.bind_some] at h
    rw [rdL_len _ _ _ h]
    unfold rdN at a
    split at a
    · rename_i hc; cases a; exact hc.2
    · cases a
theorem recA_le {l : List Nat} {last : Bool} {ed : Ed} (h : recA l = some (last, ed)) : ed.out.length ≤ 256 ∧ ed.inn.length ≤ 256 ∧ ed.ptr.length ≤ 5 := by
  unfold recA at h
  cases l with
  | nil => cases h
  | cons c r =>
    dsimp only at h
    split at h
    · cases hr : recR r with
      | none => rw [hr] at h; cases h
      | some e =>
        rw [hr] at h
        simp only [Option.map_some, Option.some.injEq, Prod.mk.injEq] at h
        obtain ⟨_, rfl⟩ := h
        unfold recR e0 e1 e2 e3 at hr
        cases h1 : rdRo r with
        | none => rw [h1] at hr; cases hr
        | some x =>
          rw [h1, Option.bind_some] at hr
          cases h2 : rdLst rdPl 256 x.2 with
          | none => rw [h2] at hr; cases hr
          | some o =>
            rw [h2, Option.bind_some] at hr
            cases h3 : rdLst rdPd 256 o.2 with
            | none => rw [h3] at hr; cases hr
            | some i =>
              rw [h3, Option.bind_some] at hr
              cases h4 : rdLst rdK 5 i.2 with
              | none => rw [h4] at hr; cases hr
              | some p =>
                rw [h4, Option.bind_some] at hr
                split at hr
                · cases hr
                  exact ⟨lst_le h2, lst_le h3, lst_le h4⟩
                · cases hr
    · cases h
/-- nothing is begun: what lies in the box counts for nothing -/
structure Gf (w : World) (T : Nat → Nat) (wr : World) (es : List Ed) (s : Sv) : Prop where
  old : Old w T wr
  box : ∃ x y z o i p, Zb wr w.heap.size (evC x y z o i p)
  tag : T w.heap.size = 2
  own : ∃ vs, OwnK kE 1 T wr (svV s) vs ∧ vs.length = es.length ∧ ∀ (j : Nat) v e, vs[j]? = some v → es[j]? = some e → EdT T wr v e
theorem Gs.gf {w wr : World} {T : Nat → Nat} {b : Ed} {es : List Ed} {s o i p : Sv} (h : Gs w T wr b es s o i p) : Gf w T wr es s := ⟨h.old, ⟨_, _, _, _, _, _, h.box⟩, h.tag, h.own⟩
theorem Gf.below {w wr w' : World} {T : Nat → Nat} {es : List Ed} {s : Sv} (h : Gf w T wr es s) (hb : Below wr.heap.size wr w') : Gf w T w' es s := by
  have hg := Goes.below (t := fun _ => False) (T := T) hb
  obtain ⟨vs, h1, h2, h3⟩ := h.own
  obtain ⟨x, y, z, o, i, p, hz⟩ := h.box
  exact ⟨h.old.goes hg id, ⟨x, y, z, o, i, p, hz.below hb⟩, h.tag, ⟨vs, h1.below hb, h2, fun j v e hv he => (h3 j v e hv he).goes hg id⟩⟩
theorem Gf.eds {w wr : World} {T : Nat → Nat} {es : List Ed} {s : Sv} (h : Gf w T wr es s) : EdsAt wr s es := by
  obtain ⟨vs, h1, h2, h3⟩ := h.own
  obtain ⟨k1, k2, k3, k4, _, k5⟩ := OwnK.sk h1
  refine ⟨vs, h2, k1.trans h2, k4, by omega, k2, fun j v e hv he => ?_⟩
  obtain ⟨q1, q2, q3, q4, q5⟩ := h3 j v e hv he
  exact ⟨q1, ⟨q2.1, q2.2.1, q2.2.2.1, q2.2.2.2.1, q2.2.2.2.2.1⟩, ⟨q3.1, q3.2.1, q3.2.2.1, q3.2.2.2.1, q3.2.2.2.2.1⟩, ⟨q4.1, q4.2.1, q4.2.2.1, q4.2.2.2.1, q4.2.2.2.2.1⟩, q5⟩
theorem Gf.slen {w wr : World} {T : Nat → Nat} {es : List Ed} {s : Sv} (h : Gf w T wr es s) : s.2.1 = es.length := by
  obtain ⟨vs, h1, h2, h3⟩ := h.own
  rw [(OwnK.sk h1).1, h2]
/-- an edit is begun anew -/
theorem Gf.init {w wr : World} {T : Nat → Nat} {es : List Ed} {s : Sv} (h : Gf w T wr es s) (x y z : Nat) : Gs w T (sets wr w.heap.size 0 (evC x y z nS nS nS)) ⟨x, y, z, [], [], []⟩ es s nS nS nS := by
  have g2 := Goes.sets (t := (· = 2)) (T := T) (B := w.heap.size) h.tag (evC x y z nS nS nS) wr 0
  obtain ⟨vs, h1, h2, h3⟩ := h.own
  obtain ⟨x', y', z', o, i, p, hz⟩ := h.box
  exact ⟨h.old.goes g2 (by decide), hz.sets (by simp [evC]), h.tag, ⟨vs, h1.goes g2 (by decide), h2, fun j v e hv he => (h3 j v e hv he).goes g2 (by decide)⟩, OwnK.empty _ _ _, OwnK.empty _ _ _, ⟨IsK.nil _ _, rfl, fun _ => rfl, Nat.le_refl _, .inl rfl, fun b off e => by cases e⟩⟩
/-- a record is joined, cell by cell -/
theorem Gs.joinR {w wr w1 w2 : World} {T T1 T2 : Nat → Nat} {b r : Ed} {es : List Ed} {s o i p o2 i2 p2 : Sv} (h : Gs w T wr b es s o i p) (hs : b.log = r.log ∧ b.nxt = r.nxt ∧ b.seq = r.seq) (g1 : Goes (· = 4) T wr T1 w1) (ho : OwnK kPl 4 T1 w1 (svV o2) (b.out ++ r.out)) (g2 : Goes (· = 5) T1 (w1.setCell ⟨w.heap.size, 3, none⟩ (svV o2)) T2 w2) (hi : OwnK kPd 5 T2 w2 (svV i2) (b.inn ++ r.inn)) (hp : Isk kT T wr p2 r.ptr) :
    Gs w T2 ((w2.setCell ⟨w.heap.size, 4, none⟩ (svV i2)).setCell ⟨w.heap.size, 5, none⟩ (svV p2)) (joinE b r) es s o2 i2 p2 := by
  have t1 : T1 w.heap.size = 2 := (g1.tag _ h.box.1 (by rw [h.tag]; decide)).trans h.tag
  have s1 : Goes (· = 2) T1 w1 T1 (w1.setCell ⟨w.heap.size, 3, none⟩ (svV o2)) := Goes.setCell t1
  have z1 := (h.box.goes g1 (by rw [h.tag]; decide)).set 3 (svV o2)
  have t2 : T2 w.heap.size = 2 := (g2.tag _ z1.1 (by rw [t1]; decide)).trans t1
  have s2 : Goes (· = 2) T2 w2 T2 (w2.setCell ⟨w.heap.size, 4, none⟩ (svV i2)) := Goes.setCell t2
  have s3 : Goes (· = 2) T2 (w2.setCell ⟨w.heap.size, 4, none⟩ (svV i2)) T2 ((w2.setCell ⟨w.heap.size, 4, none⟩ (svV i2)).setCell ⟨w.heap.size, 5, none⟩ (svV p2)) := Goes.setCell t2
  have z2 := ((z1.goes g2 (by rw [t1]; decide)).set 4 (svV i2)).set 5 (svV p2)
  obtain ⟨vs, h1, h2, h3⟩ := h.own
  refine ⟨((((h.old.goes g1 (by decide)).goes s1 (by decide)).goes g2 (by decide)).goes s2 (by decide)).goes s3 (by decide), ?_, t2, ⟨vs, ((((h1.goes g1 (by decide)).goes s1 (by decide)).goes g2 (by decide)).goes s2 (by decide)).goes s3 (by decide), h2, fun j v e hv he => (((((h3 j v e hv he).goes g1 (by decide)).goes s1 (by decide)).goes g2 (by decide)).goes s2 (by decide)).goes s3 (by decide)⟩, (((ho.goes s1 (by decide)).goes g2 (by decide)).goes s2 (by decide)).goes s3 (by decide), (hi.goes s2 (by decide)).goes s3 (by decide), ((((hp.goes g1 (by decide)).goes s1 (by decide)).goes g2 (by decide)).goes s2 (by decide)).goes s3 (by decide)⟩
  show Zb _ _ (evC r.log r.nxt r.seq o2 i2 p2)
  rw [← hs.1, ← hs.2.1, ← hs.2.2]
  exact z2
/-- the edit is told -/
theorem Gs.lastR {w wr w2 : World} {T T2 : Nat → Nat} {b : Ed} {es : List Ed} {s s2 o i p : Sv} (h : Gs w T wr b es s o i p) (hg : Goes (· = 1) (fin T) wr T2 w2) (vs : List Ev) (hvs : vs.length = es.length) (hes : ∀ (j : Nat) v e, vs[j]? = some v → es[j]? = some e → EdT T wr v e) (hown : OwnK kE 1 T2 w2 (svV s2) (vs ++ [(b.log, b.nxt, b.seq, o, i, p)])) :
    Gf w T2 w2 (es ++ [b]) s2 := by
  have hB : w.heap.size < wr.heap.size := h.box.1
  have hft : fin T w.heap.size = 2 := by rw [fin_of (by rw [h.tag]; decide) (by rw [h.tag]; decide)]; exact h.tag
  have hT2 : T2 w.heap.size = 2 := (hg.tag _ hB (by rw [hft]; decide)).trans hft
  have hbox := h.box.goes hg (by rw [hft]; decide)
  have hold : Old w (fin T) wr := ⟨h.old.below, fun x hx => by
    have := h.old.zero x hx
    rw [fin_of (by rw [this]; decide) (by rw [this]; decide)]; exact this⟩
  have hnew : EdT (fin T) wr (b.log, b.nxt, b.seq, o, i, p) b := ⟨⟨rfl, rfl, rfl⟩, own_done h.out (.inl rfl), own_done h.inn (.inr rfl), h.ptr.fin, own_cap h.out, own_cap h.inn⟩
  refine ⟨hold.goes hg (by decide), ⟨_, _, _, _, _, _, hbox⟩, hT2, ⟨_, hown, by simp [hvs], fun j v e hv he => ?_⟩⟩
  refine EdT.goes ?_ hg (by decide)
  rcases Nat.lt_or_ge j es.length with hj | hj
  · rw [List.getElem?_append_left (by omega)] at hv he
    have h0 := hes j v e hv he
    exact ⟨h0.1, h0.2.1.fin, h0.2.2.1.fin, h0.2.2.2.1.fin, h0.2.2.2.2⟩
  · rw [List.getElem?_append_right (by omega)] at hv he
    have hj0 : j - es.length = 0 := by
      have := (List.getElem?_eq_some_iff.1 he).1
      simp at this
      omega
    rw [hvs, hj0] at hv
    rw [hj0] at he
    cases hv
    cases he
    exact hnew
theorem Gf.start (w : World) : Gf w (upd (fun _ => 0) w.heap.size 2) (w.alloc (.cells #[.int .u64 0, .int .u64 0, .int .u64 0, .slice none 0 0, .slice none 0 0, .slice none 0 0] 61)) [] nS := (Gs.start w).gf
/-- a list that Record made, under tags -/
theorem Nl.isk {α : Type} {K : Knd α} {w w' : World} {s : Sv} {l : List α} {T : Nat → Nat} (h : Nl K w w' s l) (hT : ∀ b, w.heap.size ≤ b → T b = 0) : Isk K T w' s l :=
  ⟨h.1, h.2.1, h.2.2.1, h.2.2.2.1, h.2.2.2.2.1, fun b off e => ⟨hT b (h.2.2.2.2.2.1 b off e).1, (h.2.2.2.2.2.1 b off e).2⟩⟩
theorem Gf.high {w wr : World} {T : Nat → Nat} {es : List Ed} {s : Sv} (h : Gf w T wr es s) : ∀ x, wr.heap.size ≤ x → T x = 0 := fun x hx => h.old.zero x (.inr hx)
end Mnf
end Go.Proofs.Ytanpbknjnpmmnaa
