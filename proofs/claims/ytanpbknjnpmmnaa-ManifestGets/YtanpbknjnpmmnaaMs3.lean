import Derived.Test.YtanpbknjnpmmnaaMs2
namespace Go.Proofs.Ytanpbknjnpmmnaa
namespace Mnf
open Go.RowKit CMath Byt Cod Crw Irw Laws
set_option linter.unusedVariables false
set_option linter.unusedSimpArgs false
set_option maxRecDepth 20000
/-! lists of bytes -/
def kD : Knd Sv := ⟨24, 1, 24, .slice none 0 0, fun x => [.slice x.1 x.2.1 x.2.2], fun _ => rfl, fun x u hu => by simp at hu; subst hu; rfl, by omega, rfl, by omega⟩
def IsD (w : World) (a : Option Addr) (rs : List (List Nat)) : Prop :=
  ∃ vs : List Sv, vs.length = rs.length ∧ IsK kD w a vs ∧ ∀ (i : Nat) v r, vs[i]? = some v → rs[i]? = some r → v.2.1 = r.length ∧ IsB w v.1 r ∧ (v.1 = none → v.2.2 = 0) ∧ r.length ≤ v.2.2 ∧ v.2.2 ≤ 9223372036854775807
theorem IsD.below {w w' : World} {a : Option Addr} {rs : List (List Nat)} (h : IsD w a rs) (hb : Below w.heap.size w w') : IsD w' a rs := by
  obtain ⟨vs, h1, h2, h3⟩ := h
  refine ⟨vs, h1, h2.below hb, fun i v r hv hw => ?_⟩
  obtain ⟨a1, a2, a3⟩ := h3 i v r hv hw
  exact ⟨a1, a2.below hb, a3⟩
theorem IsD.at_ {w : World} {a : Option Addr} {rs : List (List Nat)} (h : IsD w a rs) {k : Nat} (hk : k < rs.length) : ∃ b off a1 c1 r, a = some ⟨b, off, none⟩ ∧ rs[k]? = some r ∧ b < w.heap.size ∧ w.cell? ⟨b, off + k, none⟩ = some (.slice a1 r.length c1) ∧ IsB w a1 r ∧ (a1 = none → c1 = 0) ∧ r.length ≤ c1 ∧ c1 ≤ 9223372036854775807 := by
  obtain ⟨vs, h1, h2, h3⟩ := h
  obtain ⟨b, off, e, hr⟩ := h2.at_ (by omega)
  have hv : vs[k]? = some (vs[k]'(by omega)) := List.getElem?_eq_getElem (by omega)
  have hw : rs[k]? = some rs[k] := List.getElem?_eq_getElem hk
  obtain ⟨a1, a2, a3, a4, a5⟩ := h3 k _ _ hv hw
  have hc := hr.2 k _ hv 0 _ rfl
  have he : off + k * kD.size + 0 = off + k := by show off + k * 1 + 0 = _; omega
  rw [he, a1] at hc
  exact ⟨b, off, _, _, _, e, hw, hr.1, hc, a2, a3, a4, a5⟩
theorem IsD.byte {w : World} {a : Option Addr} {rs : List (List Nat)} (h : IsD w a rs) : ∀ l ∈ rs, ∀ c ∈ l, c < 256 := by
  intro l hl
  obtain ⟨i, hi, rfl⟩ := List.getElem_of_mem hl
  obtain ⟨b, off, a1, c1, r, _, h2, _, _, h5, _⟩ := h.at_ hi
  rw [List.getElem?_eq_getElem hi] at h2
  cases h2
  exact h5.2
/-! edits as they lie -/
abbrev Ev := Nat × Nat × Nat × Sv × Sv × Sv
def kE : Knd Ev := ⟨61, 6, 96, .agg #[.int .u64 0, .int .u64 0, .int .u64 0, .slice none 0 0, .slice none 0 0, .slice none 0 0], fun v => evC v.1 v.2.1 v.2.2.1 v.2.2.2.1 v.2.2.2.2.1 v.2.2.2.2.2, fun _ => rfl, fun x u hu => by simp [evC] at hu; rcases hu with rfl | rfl | rfl | rfl | rfl | rfl <;> rfl, by omega, rfl, by omega⟩
theorem infoE : (Try.prog.info? 61).map (fun i => (i.zero, i.size, i.bytes)) = some (some kE.zero, 6, 96) := by kernel_rfl
/-- an edit of finished lists (tag 0) -/
def CapB (v : Ev) : Prop := v.2.2.2.1.2.2 ≤ 9223372036854775807 ∧ v.2.2.2.2.1.2.2 ≤ 9223372036854775807
theorem own_cap {α : Type} {K : Knd α} {t : Nat} {T : Nat → Nat} {w : World} {s : Sv} {l : List α} (h : OwnK K t T w (svV s) l) : s.2.2 ≤ 9223372036854775807 := by
  obtain ⟨a, n, c⟩ := s
  rcases h.1.2 with ⟨h1, h2⟩ | ⟨g, cap, cur, hv, hb, hh, hc, hm, hr⟩
  · unfold svV at h1
    cases h1
    exact Nat.zero_le _
  · unfold svV at hv
    cases hv
    unfold maxLen at hm
    show c ≤ _
    omega
def EdT (T : Nat → Nat) (w : World) (v : Ev) (e : Ed) : Prop := (v.1 = e.log ∧ v.2.1 = e.nxt ∧ v.2.2.1 = e.seq) ∧ Isk kPl T w v.2.2.2.1 e.out ∧ Isk kPd T w v.2.2.2.2.1 e.inn ∧ Isk kT T w v.2.2.2.2.2 e.ptr ∧ CapB v
theorem EdT.goes {t : Nat → Prop} {T T' : Nat → Nat} {w w' : World} {v : Ev} {e : Ed} (h : EdT T w v e) (hg : Goes t T w T' w') (ht : ¬ t 0) : EdT T' w' v e := ⟨h.1, h.2.1.goes hg ht, h.2.2.1.goes hg ht, h.2.2.2.1.goes hg ht, h.2.2.2.2⟩
/-- the state of Get: b is begun, es are the edits so far -/
structure Gs (w : World) (T : Nat → Nat) (wr : World) (b : Ed) (es : List Ed) (s : Sv) (o i p : Sv) : Prop where
  old : Old w T wr
  box : Zb wr w.heap.size (evC b.log b.nxt b.seq o i p)
  tag : T w.heap.size = 2
  own : ∃ vs, OwnK kE 1 T wr (svV s) vs ∧ vs.length = es.length ∧ ∀ (j : Nat) v e, vs[j]? = some v → es[j]? = some e → EdT T wr v e
  out : OwnK kPl 4 T wr (svV o) b.out
  inn : OwnK kPd 5 T wr (svV i) b.inn
  ptr : Isk kT T wr p b.ptr
theorem Gs.below {w wr w' : World} {T : Nat → Nat} {b : Ed} {es : List Ed} {s o i p : Sv} (h : Gs w T wr b es s o i p) (hb : Below wr.heap.size wr w') : Gs w T w' b es s o i p := by
  have hg := Goes.below (t := fun _ => False) (T := T) hb
  obtain ⟨vs, h1, h2, h3⟩ := h.own
  refine ⟨?_, h.box.below hb, h.tag, ⟨vs, h1.below hb, h2, fun j v e hv he => (h3 j v e hv he).goes hg (fun z => z)⟩, h.out.below hb, h.inn.below hb, h.ptr.below hb⟩
  exact h.old.goes hg (fun z => z)
theorem Gs.high {w wr : World} {T : Nat → Nat} {b : Ed} {es : List Ed} {s o i p : Sv} (h : Gs w T wr b es s o i p) : ∀ x, wr.heap.size ≤ x → T x = 0 := fun x hx => h.old.zero x (.inr hx)
theorem Gs.slen {w wr : World} {T : Nat → Nat} {b : Ed} {es : List Ed} {s o i p : Sv} (h : Gs w T wr b es s o i p) : s.2.1 = es.length := by
  obtain ⟨vs, h1, h2, h3⟩ := h.own
  rw [(OwnK.sk h1).1, h2]
/-- begun at first -/
theorem Gs.start (w : World) : Gs w (upd (fun _ => 0) w.heap.size 2) (w.alloc (.cells #[.int .u64 0, .int .u64 0, .int .u64 0, .slice none 0 0, .slice none 0 0, .slice none 0 0] 61)) noE [] nS nS nS nS where
  old := ⟨(Below.refl _ _).alloc (Nat.le_refl _) _, fun b hb => by
    rw [upd_other]
    simp at hb
    omega⟩
  box := Zb.new w #[.int .u64 0, .int .u64 0, .int .u64 0, .slice none 0 0, .slice none 0 0, .slice none 0 0] 61
  tag := upd_same _ _ _
  own := ⟨[], OwnK.empty _ _ _, rfl, fun j v e hv => by simp at hv⟩
  out := OwnK.empty _ _ _
  inn := OwnK.empty _ _ _
  ptr := ⟨IsK.nil _ _, rfl, fun _ => rfl, Nat.le_refl _, .inl rfl, fun b off e => by cases e⟩
/-- a record is joined, begun's box laid anew -/
theorem Gs.join {w wr w' : World} {T T' : Nat → Nat} {b r : Ed} {es : List Ed} {s o i p o2 i2 p2 : Sv} (h : Gs w T wr b es s o i p) (hg : Goes (fun t => t = 4 ∨ t = 5) T wr T' w') (ho : OwnK kPl 4 T' w' (svV o2) (b.out ++ r.out)) (hi : OwnK kPd 5 T' w' (svV i2) (b.inn ++ r.inn)) (hp : Isk kT T wr p2 r.ptr) :
    Gs w T' (sets w' w.heap.size 0 (evC r.log r.nxt r.seq o2 i2 p2)) (joinE b r) es s o2 i2 p2 := by
  have hB : w.heap.size < wr.heap.size := h.box.1
  have hT' : T' w.heap.size = 2 := (hg.tag _ hB (by rw [h.tag]; decide)).trans h.tag
  have hbox := h.box.goes hg (by rw [h.tag]; decide)
  have g2 := Goes.sets (t := (· = 2)) (T := T') (B := w.heap.size) hT' (evC r.log r.nxt r.seq o2 i2 p2) w' 0
  obtain ⟨vs, h1, h2, h3⟩ := h.own
  refine ⟨(h.old.goes hg (by decide)).goes g2 (by decide), hbox.sets (by simp [evC]), hT', ⟨vs, (h1.goes hg (by decide)).goes g2 (by decide), h2, fun j v e hv he => ((h3 j v e hv he).goes hg (by decide)).goes g2 (by decide)⟩, ho.goes g2 (by decide), hi.goes g2 (by decide), (hp.goes hg (by decide)).goes g2 (by decide)⟩
def fin (T : Nat → Nat) : Nat → Nat := fun b => if T b = 4 ∨ T b = 5 then 0 else T b
theorem fin_of {T : Nat → Nat} {b : Nat} (h4 : T b ≠ 4) (h5 : T b ≠ 5) : fin T b = T b := by unfold fin; rw [if_neg (by rintro (h | h); exact h4 h; exact h5 h)]
theorem own_fin {α : Type} {K : Knd α} {T : Nat → Nat} {w : World} {v : Value} {l : List α} (h : OwnK K 1 T w v l) : OwnK K 1 (fin T) w v l := ⟨h.1, fun g e => by rw [fin_of (by rw [h.2 g e]; decide) (by rw [h.2 g e]; decide)]; exact h.2 g e⟩
theorem Isk.fin {α : Type} {K : Knd α} {T : Nat → Nat} {w : World} {s : Sv} {l : List α} (h : Isk K T w s l) : Isk K (fin T) w s l := by
  obtain ⟨h1, h2, h3, h4, hf, h5⟩ := h
  refine ⟨h1, h2, h3, h4, hf, fun b off e => ?_⟩
  obtain ⟨q1, q2⟩ := h5 b off e
  exact ⟨by rw [fin_of (by rw [q1]; decide) (by rw [q1]; decide)]; exact q1, q2⟩
theorem own_done {α : Type} {K : Knd α} {t : Nat} {T : Nat → Nat} {w : World} {s : Sv} {l : List α} (h : OwnK K t T w (svV s) l) (ht : t = 4 ∨ t = 5) : Isk K (fin T) w s l := by
  obtain ⟨h1, h2, h3, h4, hf, h5⟩ := OwnK.sk h
  refine ⟨h2, h1, h4, h3, hf, fun b off e => ?_⟩
  obtain ⟨q1, q2⟩ := h5 b off e
  exact ⟨by unfold Mnf.fin; rw [if_pos (by rw [q1]; exact ht)], q2⟩
/-- the edit is told, nothing is begun -/
theorem Gs.last {w wr w2 : World} {T T2 : Nat → Nat} {b : Ed} {es : List Ed} {s s2 o i p : Sv} (h : Gs w T wr b es s o i p) (hg : Goes (· = 1) (fin T) wr T2 w2) (vs : List Ev) (hvs : vs.length = es.length) (hes : ∀ (j : Nat) v e, vs[j]? = some v → es[j]? = some e → EdT T wr v e) (hown : OwnK kE 1 T2 w2 (svV s2) (vs ++ [(b.log, b.nxt, b.seq, o, i, p)])) :
    Gs w T2 (sets w2 w.heap.size 0 (evC 0 0 0 nS nS nS)) noE (es ++ [b]) s2 nS nS nS := by
  have hB : w.heap.size < wr.heap.size := h.box.1
  have hft : fin T w.heap.size = 2 := by rw [fin_of (by rw [h.tag]; decide) (by rw [h.tag]; decide)]; exact h.tag
  have hT2 : T2 w.heap.size = 2 := (hg.tag _ hB (by rw [hft]; decide)).trans hft
  have hbox := h.box.goes hg (by rw [hft]; decide)
  have g2 := Goes.sets (t := (· = 2)) (T := T2) (B := w.heap.size) hT2 (evC 0 0 0 nS nS nS) w2 0
  have hold : Old w (fin T) wr := ⟨h.old.below, fun x hx => by
    have := h.old.zero x hx
    rw [fin_of (by rw [this]; decide) (by rw [this]; decide)]; exact this⟩
  have hnew : EdT (fin T) wr (b.log, b.nxt, b.seq, o, i, p) b := ⟨⟨rfl, rfl, rfl⟩, own_done h.out (.inl rfl), own_done h.inn (.inr rfl), h.ptr.fin, own_cap h.out, own_cap h.inn⟩
  refine ⟨(hold.goes hg (by decide)).goes g2 (by decide), hbox.sets (by simp [evC]), hT2, ⟨_, hown.goes g2 (by decide), by simp [hvs], fun j v e hv he => ?_⟩, OwnK.empty _ _ _, OwnK.empty _ _ _, ⟨IsK.nil _ _, rfl, fun _ => rfl, Nat.le_refl _, .inl rfl, fun b off e => by cases e⟩⟩
  refine (EdT.goes ?_ hg (by decide)).goes g2 (by decide)
  rcases Nat.lt_or_ge j es.length with hj | hj
  · rw [List.getElem?_append_left (by omega)] at hv he
    have h0 := hes j v e hv he
    exact ⟨h0.1, h0.2.1.fin, h0.2.2.1.fin, h0.2.2.2.1.fin, h0.2.2.2.2⟩
  · rw [List.getElem?_append_right (by omega)] at hv he
    have hj0 : j - es.length = 0 := by
      have := (List.getElem?_eq_some_iff.1 he).1
      simp at this
      omega
    rw [hvs, hj0] at hv
    rw [hj0] at he
    cases hv
    cases he
    exact hnew
/-! a list that is read, without tags -/
def Ls {α : Type} (K : Knd α) (w : World) (s : Sv) (l : List α) : Prop := IsK K w s.1 l ∧ s.2.1 = l.length ∧ (s.1 = none → s.2.2 = 0) ∧ l.length ≤ s.2.2 ∧ Fm s
theorem Ls.below {α : Type} {K : Knd α} {w w' : World} {s : Sv} {l : List α} (h : Ls K w s l) (hb : Below w.heap.size w w') : Ls K w' s l := ⟨h.1.below hb, h.2⟩
def EdAt (w : World) (v : Ev) (e : Ed) : Prop := (v.1 = e.log ∧ v.2.1 = e.nxt ∧ v.2.2.1 = e.seq) ∧ Ls kPl w v.2.2.2.1 e.out ∧ Ls kPd w v.2.2.2.2.1 e.inn ∧ Ls kT w v.2.2.2.2.2 e.ptr ∧ CapB v
theorem EdAt.below {w w' : World} {v : Ev} {e : Ed} (h : EdAt w v e) (hb : Below w.heap.size w w') : EdAt w' v e := ⟨h.1, h.2.1.below hb, h.2.2.1.below hb, h.2.2.2.1.below hb, h.2.2.2.2⟩
/-- a list of edits as it lies -/
def EdsAt (w : World) (s : Sv) (es : List Ed) : Prop := ∃ vs : List Ev, vs.length = es.length ∧ s.2.1 = es.length ∧ (s.1 = none → s.2.2 = 0) ∧ es.length ≤ s.2.2 ∧ IsK kE w s.1 vs ∧ ∀ (j : Nat) v e, vs[j]? = some v → es[j]? = some e → EdAt w v e
theorem EdsAt.below {w w' : World} {s : Sv} {es : List Ed} (h : EdsAt w s es) (hb : Below w.heap.size w w') : EdsAt w' s es := by
  obtain ⟨vs, h1, h2, h2b, h2c, h3, h4⟩ := h
  exact ⟨vs, h1, h2, h2b, h2c, h3.below hb, fun j v e hv he => (h4 j v e hv he).below hb⟩
theorem Gs.eds {w wr : World} {T : Nat → Nat} {b : Ed} {es : List Ed} {s o i p : Sv} (h : Gs w T wr b es s o i p) : EdsAt wr s es := by
  obtain ⟨vs, h1, h2, h3⟩ := h.own
  obtain ⟨k1, k2, k3, k4, _, k5⟩ := OwnK.sk h1
  refine ⟨vs, h2, k1.trans h2, k4, by omega, k2, fun j v e hv he => ?_⟩
  obtain ⟨q1, q2, q3, q4, q5⟩ := h3 j v e hv he
  exact ⟨q1, ⟨q2.1, q2.2.1, q2.2.2.1, q2.2.2.2.1, q2.2.2.2.2.1⟩, ⟨q3.1, q3.2.1, q3.2.2.1, q3.2.2.2.1, q3.2.2.2.2.1⟩, ⟨q4.1, q4.2.1, q4.2.2.1, q4.2.2.2.1, q4.2.2.2.2.1⟩, q5⟩
/-- what Get answers -/
def GtIs (o : Option (List Ed)) (w : World) (e : Ending) (w' : World) : Prop := (∃ es s, o = some es ∧ e = .returned (.tuple #[svV s, .int .i64 0]) ∧ EdsAt w' s es ∧ Below w.heap.size w w') ∨ (o = none ∧ e = .returned (.tuple #[.slice none 0 0, .int .i64 140]) ∧ Below w.heap.size w w')
/-- how far Get is -/
def Gk (recs : List (List Nat)) (k : Nat) (b : Ed) (es : List Ed) : Prop := gets recs noE = (gets (recs.drop k) b).map (es ++ ·)
theorem Gk.start (recs : List (List Nat)) : Gk recs 0 noE [] := by unfold Gk; simp
theorem Gk.step {recs : List (List Nat)} {k : Nat} {b r : Ed} {es : List Ed} {l : List Nat} (h : Gk recs k b es) (hl : recs[k]? = some l) (hr : rdRec l = some (false, r)) (hf : follows b r = true) : Gk recs (k + 1) (joinE b r) es := by
  have hk : k < recs.length := (List.getElem?_eq_some_iff.1 hl).1
  unfold Gk at *
  rw [h, List.drop_eq_getElem_cons hk, (List.getElem?_eq_some_iff.1 hl).2, gets_cons, hr]
  simp [hf]
theorem Gk.last {recs : List (List Nat)} {k : Nat} {b r : Ed} {es : List Ed} {l : List Nat} (h : Gk recs k b es) (hl : recs[k]? = some l) (hr : rdRec l = some (true, r)) (hf : follows b r = true) : Gk recs (k + 1) noE (es ++ [joinE b r]) := by
  have hk : k < recs.length := (List.getElem?_eq_some_iff.1 hl).1
  unfold Gk at *
  rw [h, List.drop_eq_getElem_cons hk, (List.getElem?_eq_some_iff.1 hl).2, gets_cons, hr]
  simp [hf, Option.map_map, Function.comp_def]
theorem Gk.no {recs : List (List Nat)} {k : Nat} {b : Ed} {es : List Ed} {l : List Nat} (h : Gk recs k b es) (hl : recs[k]? = some l) (hr : rdRec l = none ∨ ∃ last r, rdRec l = some (last, r) ∧ follows b r = false) : gets recs noE = none := by
  have hk : k < recs.length := (List.getElem?_eq_some_iff.1 hl).1
  unfold Gk at *
  rw [h, List.drop_eq_getElem_cons hk, (List.getElem?_eq_some_iff.1 hl).2, gets_cons]
  rcases hr with hr | ⟨last, r, hr, hf⟩
  · rw [hr]; rfl
  · rw [hr]; simp [hf]
theorem Gk.done {recs : List (List Nat)} {b : Ed} {es : List Ed} (h : Gk recs recs.length b es) : gets recs noE = some es := by
  unfold Gk at h
  rw [h]
  simp [gets]
end Mnf
end Go.Proofs.Ytanpbknjnpmmnaa
