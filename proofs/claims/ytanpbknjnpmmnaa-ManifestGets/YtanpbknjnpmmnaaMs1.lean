import Derived.Test.YtanpbknjnpmmnaaMrd
namespace Go.Proofs.Ytanpbknjnpmmnaa
namespace Mnf
open Go.RowKit CMath Byt Cod Crw Irw Laws
set_option linter.unusedVariables false
set_option linter.unusedSimpArgs false
set_option maxRecDepth 20000
theorem Goes.setNew {t : Nat → Prop} {T T' : Nat → Nat} {w w' : World} (h : Goes t T w T' w') {B : Nat} (hB : w.heap.size ≤ B) (k : Nat) (v : Value) : Goes t T w T' (w'.setCell ⟨B, k, none⟩ v) :=
  ⟨h.os, h.tape, h.output, by simpa using h.size, fun b hb ht => (Below.heap_setCell w' _ v b (fun e => by have e' : b = B := e; omega)).trans (h.block b hb ht), h.tag, fun b hb h0 => h.high b (by simpa using hb) h0⟩
theorem Goes.allocNew {t : Nat → Prop} {T T' : Nat → Nat} {w w' : World} (h : Goes t T w T' w') (o : Obj) : Goes t T w T' (w'.alloc o) :=
  h.trans (Goes.below ((Below.refl _ _).alloc (Nat.le_refl _) o))
theorem Goes.sets {t : Nat → Prop} {T : Nat → Nat} {B : Nat} (h : t (T B)) (vs : List Value) : ∀ (w : World) (k : Nat), Goes t T w T (Mnf.sets w B k vs) := by
  induction vs with
  | nil => intro w k; exact Goes.refl _ _ _
  | cons v vs ih => intro w k; exact (Goes.setCell (t := t) (T := T) (w := w) (p := B) (j := k) (v := v) h).trans (ih _ _)
theorem Goes.setsNew {t : Nat → Prop} {T T' : Nat → Nat} {w : World} {B : Nat} (hB : w.heap.size ≤ B) (vs : List Value) : ∀ (w' : World) (k : Nat), Goes t T w T' w' → Goes t T w T' (Mnf.sets w' B k vs) := by
  induction vs with
  | nil => intro w' k h; exact h
  | cons v vs ih => intro w' k h; exact ih _ _ (Goes.setNew h hB k v)
theorem Zb.goes {t : Nat → Prop} {T T' : Nat → Nat} {w w' : World} {B : Nat} {vs : List Value} (h : Zb w B vs) (hg : Goes t T w T' w') (ht : ¬ t (T B)) : Zb w' B vs := h.keep (hg.block B h.1 ht) hg.size
/-- nil, or a plain place -/
def Fm (s : Sv) : Prop := s.1 = none ∨ ∃ b off, s.1 = some ⟨b, off, none⟩
/-- a list that is read: where it lies, tags t -/
def Isk {α : Type} (K : Knd α) (T : Nat → Nat) (w : World) (s : Sv) (l : List α) : Prop := IsK K w s.1 l ∧ s.2.1 = l.length ∧ (s.1 = none → s.2.2 = 0) ∧ l.length ≤ s.2.2 ∧ Fm s ∧ ∀ b off, s.1 = some ⟨b, off, none⟩ → T b = 0 ∧ b < w.heap.size
theorem Isk.goes {α : Type} {K : Knd α} {t : Nat → Prop} {T T' : Nat → Nat} {w w' : World} {s : Sv} {l : List α} (h : Isk K T w s l) (hg : Goes t T w T' w') (ht : ¬ t 0) : Isk K T' w' s l := by
  obtain ⟨h1, h2, h3, h4, hf, h5⟩ := h
  refine ⟨h1.keep (fun b hb ⟨off, e⟩ => hg.block b hb (by rw [(h5 b off e).1]; exact ht)) hg.size, h2, h3, h4, hf, fun b off e => ?_⟩
  obtain ⟨q1, q2⟩ := h5 b off e
  exact ⟨(hg.tag b q2 (by rw [q1]; exact ht)).trans q1, Nat.lt_of_lt_of_le q2 hg.size⟩
theorem Isk.below {α : Type} {K : Knd α} {T : Nat → Nat} {w w' : World} {s : Sv} {l : List α} (h : Isk K T w s l) (hb : Below w.heap.size w w') : Isk K T w' s l := h.goes (Goes.below (t := fun _ => False) hb) (fun z => z)
/-- a list of one's own, just made, with tag 0 -/
theorem Isk.own {α : Type} {K : Knd α} {T : Nat → Nat} {w : World} {G n : Nat} {l : List α} (h : w.ownsRow 0 K.ty K.size (.slice (some ⟨G, 0, none⟩) l.length l.length) l.length (K.cells l)) (hT : T G = 0) (hn : l.length = n) : Isk K T w (sv G n) l := by
  subst hn
  have ho : OwnK K 0 T w (.slice (some ⟨G, 0, none⟩) l.length l.length) l := ⟨h, fun g e => by cases e; exact hT⟩
  obtain ⟨a, c, e, h1, h2, h3, h4⟩ := ho.form
  cases e
  exact ⟨h1, rfl, h3, h2, .inr ⟨_, _, rfl⟩, fun b off e => by cases e; exact ⟨hT, (h.lt _ rfl).2⟩⟩
theorem OwnK.sk {α : Type} {K : Knd α} {t : Nat} {T : Nat → Nat} {w : World} {s : Sv} {l : List α} (h : OwnK K t T w (svV s) l) : s.2.1 = l.length ∧ IsK K w s.1 l ∧ l.length ≤ s.2.2 ∧ (s.1 = none → s.2.2 = 0) ∧ Fm s ∧ ∀ b off, s.1 = some ⟨b, off, none⟩ → T b = t ∧ b < w.heap.size := by
  have hfm : Fm s := by
    obtain ⟨sa, sn, sc⟩ := s
    rcases h.1.2 with ⟨q1, _⟩ | ⟨g, cap, cur, q1, _⟩
    · unfold svV at q1
      cases q1
      exact .inl rfl
    · unfold svV at q1
      cases q1
      exact .inr ⟨_, _, rfl⟩
  obtain ⟨a, c, e, h1, h2, h3, h4⟩ := h.form
  obtain ⟨sa, sn, sc⟩ := s
  unfold svV at e
  cases e
  exact ⟨rfl, h1, h2, h3, hfm, h4⟩
/-- what joined answers -/
def JoIs (T : Nat → Nat) (w : World) (x y z : Nat) (p : Sv) (os : List Pl) (is : List Pd) (e : Ending) (w' : World) : Prop := ∃ o2 i2 T', e = .returned (evV x y z o2 i2 p) ∧ OwnK kPl 4 T' w' (svV o2) os ∧ OwnK kPd 5 T' w' (svV i2) is ∧ Goes (fun t => t = 4 ∨ t = 5) T w T' w'
theorem res_ed {fn : Func} {p : Tmp} (h : fn.results = #[.cell p 61]) (tmps : Array Value) (w : World) (B : Nat) (x y z : Nat) (o i q : Sv) (hp : tmps.getD p undef = .pointer (some ⟨B, 0, none⟩)) (hz : Zb w B (evC x y z o i q)) :
    (results fn tmps).run Try.prog w = .ok (evV x y z o i q) w := by
  have c0 := hz.2.1 0 _ rfl
  have c1 := hz.2.1 1 _ rfl
  have c2 := hz.2.1 2 _ rfl
  have c3 := hz.2.1 3 _ rfl
  have c4 := hz.2.1 4 _ rfl
  have c5 := hz.2.1 5 _ rfl
  simp only [results, h]
  have hp' : tmps[p]?.getD undef = .pointer (some ⟨B, 0, none⟩) := by simpa using hp
  simp [Sem.run_bind, Result.andThen, hp', go_sem, c0, c1, c2, c3, c4, c5, evV]
set_option maxHeartbeats 2000000 in
theorem joined_any (T : Nat → Nat) (w : World) (x y z x' y' z' : Nat) (o i p o' i' p' : Sv) (last : Bool) (bo ro : List Pl) (bi ri : List Pd) (hT : ∀ b, w.heap.size ≤ b → T b = 0)
    (ho : OwnK kPl 4 T w (svV o) bo) (hi : OwnK kPd 5 T w (svV i) bi) (hro : Isk kPl T w o' ro) (hri : Isk kPd T w i' ri) (hb1 : bo.length + ro.length ≤ 1000000000000) (hb2 : bi.length + ri.length ≤ 1000000000000) :
    Calls Try.prog 18 #[evV x y z o i p, recV last x' y' z' o' i' p'] w fun e w' => JoIs T w x' y' z' p' (bo ++ ro) (bi ++ ri) e w' := by
  obtain ⟨iz, hiz, hz0, hz1, hz2⟩ := info_parts infoPl
  obtain ⟨jz, hjz, jz0, jz1, jz2⟩ := info_parts infoPd
  obtain ⟨oa, ol, oc⟩ := o
  obtain ⟨ia, il, ic⟩ := i
  obtain ⟨pa, pl, pc⟩ := p
  obtain ⟨oa', ol', oc'⟩ := o'
  obtain ⟨ia', il', ic'⟩ := i'
  obtain ⟨pa', pl', pc'⟩ := p'
  have HO : Hid (OwnK kPl 4 T w (svV (oa, ol, oc)) bo) := ho
  have HI : Hid (OwnK kPd 5 T w (svV (ia, il, ic)) bi) := hi
  have HRO : Hid (Isk kPl T w (oa', ol', oc') ro) := hro
  have HRI : Hid (Isk kPd T w (ia', il', ic') ri) := hri
  have HT : Hid (∀ b, w.heap.size ≤ b → T b = 0) := hT
  clear ho hi hro hri hT
  unfold evV recV
  dsimp only
  have HW : Hid (∀ W, W = (((w.alloc (.cells #[.int .u64 (x : Int), .int .u64 (y : Int), .int .u64 (z : Int), .slice oa ol oc, .slice ia il ic, .slice pa pl pc] 61)).alloc (.cells #[.bool last, .int .u64 (x' : Int), .int .u64 (y' : Int), .int .u64 (z' : Int), .slice oa' ol' oc', .slice ia' il' ic', .slice pa' pl' pc'] 65)).alloc (.cells #[.int .u64 0, .int .u64 0, .int .u64 0, .slice none 0 0, .slice none 0 0, .slice none 0 0] 61)).alloc (.cells #[.int .u64 (x' : Int), .int .u64 (y' : Int), .int .u64 (z' : Int), .slice oa' ol' oc', .slice ia' il' ic', .slice pa' pl' pc'] 61) →
      Below w.heap.size w W ∧ Zb W w.heap.size [.int .u64 (x : Int), .int .u64 (y : Int), .int .u64 (z : Int), .slice oa ol oc, .slice ia il ic, .slice pa pl pc] ∧ Zb W (w.heap.size + 1) [.bool last, .int .u64 (x' : Int), .int .u64 (y' : Int), .int .u64 (z' : Int), .slice oa' ol' oc', .slice ia' il' ic', .slice pa' pl' pc'] ∧ Zb W (w.heap.size + 2) zE ∧ Zb W (w.heap.size + 3) [.int .u64 (x' : Int), .int .u64 (y' : Int), .int .u64 (z' : Int), .slice oa' ol' oc', .slice ia' il' ic', .slice pa' pl' pc']) := by
    intro W hW
    subst hW
    have b1 := (Below.refl w.heap.size w).alloc (Nat.le_refl _) (.cells #[.int .u64 (x : Int), .int .u64 (y : Int), .int .u64 (z : Int), .slice oa ol oc, .slice ia il ic, .slice pa pl pc] 61)
    have z1 := Zb.new w #[.int .u64 (x : Int), .int .u64 (y : Int), .int .u64 (z : Int), .slice oa ol oc, .slice ia il ic, .slice pa pl pc] 61
    have z2 := Zb.new (w.alloc (.cells #[.int .u64 (x : Int), .int .u64 (y : Int), .int .u64 (z : Int), .slice oa ol oc, .slice ia il ic, .slice pa pl pc] 61)) #[.bool last, .int .u64 (x' : Int), .int .u64 (y' : Int), .int .u64 (z' : Int), .slice oa' ol' oc', .slice ia' il' ic', .slice pa' pl' pc'] 65
    generalize hw1 : w.alloc (.cells #[.int .u64 (x : Int), .int .u64 (y : Int), .int .u64 (z : Int), .slice oa ol oc, .slice ia il ic, .slice pa pl pc] 61) = w1 at *
    have s1 : w1.heap.size = w.heap.size + 1 := by rw [← hw1]; simp
    rw [s1] at z2
    clear hw1
    have b2 := (Below.refl w1.heap.size w1).alloc (Nat.le_refl _) (.cells #[.bool last, .int .u64 (x' : Int), .int .u64 (y' : Int), .int .u64 (z' : Int), .slice oa' ol' oc', .slice ia' il' ic', .slice pa' pl' pc'] 65)
    have z3 := Zb.new (w1.alloc (.cells #[.bool last, .int .u64 (x' : Int), .int .u64 (y' : Int), .int .u64 (z' : Int), .slice oa' ol' oc', .slice ia' il' ic', .slice pa' pl' pc'] 65)) #[.int .u64 0, .int .u64 0, .int .u64 0, .slice none 0 0, .slice none 0 0, .slice none 0 0] 61
    generalize hw2 : w1.alloc (.cells #[.bool last, .int .u64 (x' : Int), .int .u64 (y' : Int), .int .u64 (z' : Int), .slice oa' ol' oc', .slice ia' il' ic', .slice pa' pl' pc'] 65) = w2 at *
    have s2 : w2.heap.size = w.heap.size + 2 := by rw [← hw2]; simp; omega
    rw [s2] at z3
    clear hw2
    have b3 := (Below.refl w2.heap.size w2).alloc (Nat.le_refl _) (.cells #[.int .u64 0, .int .u64 0, .int .u64 0, .slice none 0 0, .slice none 0 0, .slice none 0 0] 61)
    have z4 := Zb.new (w2.alloc (.cells #[.int .u64 0, .int .u64 0, .int .u64 0, .slice none 0 0, .slice none 0 0, .slice none 0 0] 61)) #[.int .u64 (x' : Int), .int .u64 (y' : Int), .int .u64 (z' : Int), .slice oa' ol' oc', .slice ia' il' ic', .slice pa' pl' pc'] 61
    generalize hw3 : w2.alloc (.cells #[.int .u64 0, .int .u64 0, .int .u64 0, .slice none 0 0, .slice none 0 0, .slice none 0 0] 61) = w3 at *
    have s3 : w3.heap.size = w.heap.size + 3 := by rw [← hw3]; simp; omega
    rw [s3] at z4
    clear hw3
    have b4 := (Below.refl w3.heap.size w3).alloc (Nat.le_refl _) (.cells #[.int .u64 (x' : Int), .int .u64 (y' : Int), .int .u64 (z' : Int), .slice oa' ol' oc', .slice ia' il' ic', .slice pa' pl' pc'] 61)
    exact ⟨((b1.trans (b2.mono (by omega))).trans (b3.mono (by omega))).trans (b4.mono (by omega)), ((z1.below b2).below b3).below b4, (z2.below b3).below b4, z3.below b4, z4⟩
  go_enter Try.func18, Try.ntmps18
  go_wp2_with (first
    | (at_builtin; (revert HX; intro HX); go_loud (refine wpList_appK kPd _ (by rfl) (.tmp 16) (.tmp 19) 58 (by rfl) jz Try.underlying58 hjz jz0 jz1 jz2 5 T1 (.slice ia il ic) bi (by rfl) (HX.out.2.1.goes (Goes.setCell (t := (· = 0)) (w := w1) (p := w.heap.size + 3) (j := 3) (v := .slice a1 (bo.length + ro.length) c1) (HX.out.2.2.2.2 _ (by omega) (by omega))) (by decide)) ia' il' ic' ri (by rfl) HRI.out.2.1 HRI.out.2.2.1 (HRI.out.goes (Goes.setNew HX.out.2.2.2.1 (B := w.heap.size + 3) (by omega) 3 (.slice a1 (bo.length + ro.length) c1)) (by decide)).1 hb2 ?_; intro a2 c2 T2 w2 hown2 hg2; have HY : Hid (OwnK kPl 4 T2 w2 (.slice a1 (bo.length + ro.length) c1) (bo ++ ro) ∧ OwnK kPd 5 T2 w2 (.slice a2 (bi.length + ri.length) c2) (bi ++ ri) ∧ Goes (fun t => t = 4 ∨ t = 5) T w T2 w2 ∧ (T2 (w.heap.size + 2) = 0 ∧ T2 (w.heap.size + 3) = 0)) := ⟨((HX.out.1.goes (Goes.setCell (t := (· = 0)) (w := w1) (p := w.heap.size + 3) (j := 3) (v := .slice a1 (bo.length + ro.length) c1) (HX.out.2.2.2.2 _ (by omega) (by omega))) (by decide))).goes hg2 (by decide), hown2, (Goes.setNew HX.out.2.2.2.1 (B := w.heap.size + 3) (by omega) 3 (.slice a1 (bo.length + ro.length) c1)).trans (hg2.mono (fun _ h => .inr h)), (hg2.tag _ (by simpa using HZ.out.1.1) (by rw [HX.out.2.2.2.2 _ (by omega) (by omega)]; decide)).trans (HX.out.2.2.2.2 _ (by omega) (by omega)), (hg2.tag _ (by simpa using HZ.out.2.1.1) (by rw [HX.out.2.2.2.2 _ (by omega) (by omega)]; decide)).trans (HX.out.2.2.2.2 _ (by omega) (by omega))⟩; have y5 := (HZ.out.2.1.set 3 (.slice a1 (bo.length + ro.length) c1)).goes hg2 (by rw [HX.out.2.2.2.2 _ (by omega) (by omega)]; decide); have y4 := (HZ.out.1.other (w' := w1) (g := w.heap.size + 3) 3 (.slice a1 (bo.length + ro.length) c1) (by omega)).goes hg2 (by rw [HX.out.2.2.2.2 _ (by omega) (by omega)]; decide); have HV : Hid (Zb w2 (w.heap.size + 2) zE ∧ Zb w2 (w.heap.size + 3) [.int .u64 (x' : Int), .int .u64 (y' : Int), .int .u64 (z' : Int), .slice a1 (bo.length + ro.length) c1, .slice ia' il' ic', .slice pa' pl' pc']) := ⟨y4, y5⟩; have h0 := HV.out.2.2.1 0 _ rfl; have h1 := HV.out.2.2.1 1 _ rfl; have h2 := HV.out.2.2.1 2 _ rfl; have h3 := HV.out.2.2.1 3 _ rfl; have h4 := HV.out.2.2.1 4 _ rfl; have h5 := HV.out.2.2.1 5 _ rfl; have hf4 := HV.out.2.2.2 4; have k0 := HV.out.1.2.1 0 _ rfl; have k1 := HV.out.1.2.1 1 _ rfl; have k2 := HV.out.1.2.1 2 _ rfl; have k3 := HV.out.1.2.1 3 _ rfl; have k4 := HV.out.1.2.1 4 _ rfl; have k5 := HV.out.1.2.1 5 _ rfl; have kf0 := HV.out.1.2.2 0; have kf1 := HV.out.1.2.2 1; have kf2 := HV.out.1.2.2 2; have kf3 := HV.out.1.2.2 3; have kf4 := HV.out.1.2.2 4; have kf5 := HV.out.1.2.2 5; clear hown2 hg2 y4 y5))
    | (at_builtin; go_loud (refine wpList_appK kPl _ (by rfl) (.tmp 9) (.tmp 12) 57 (by rfl) iz Try.underlying57 hiz hz0 hz1 hz2 4 T (.slice oa ol oc) bo (by rfl) (HO.out.below (HW.out _ rfl).1) oa' ol' oc' ro (by rfl) HRO.out.2.1 HRO.out.2.2.1 (HRO.out.1.below (HW.out _ rfl).1) hb1 ?_; intro a1 c1 T1 w1 hown1 hg1; obtain ⟨e1, e2, e3, e4, e5⟩ := HW.out _ rfl; have HX : Hid (OwnK kPl 4 T1 w1 (.slice a1 (bo.length + ro.length) c1) (bo ++ ro) ∧ OwnK kPd 5 T1 w1 (svV (ia, il, ic)) bi ∧ Isk kPd T1 w1 (ia', il', ic') ri ∧ Goes (fun t => t = 4 ∨ t = 5) T w T1 w1 ∧ (∀ b, w.heap.size ≤ b → b < w.heap.size + 4 → T1 b = 0)) := ⟨hown1, (HI.out.below e1).goes hg1 (by decide), (HRI.out.below e1).goes hg1 (by decide), (Goes.below e1).trans (hg1.mono (fun _ h => .inl h)), fun b hb hb2 => (hg1.tag b (by have := e5.1; omega) (by rw [HT.out b hb]; decide)).trans (HT.out b hb)⟩; have y2 := e2.goes hg1 (by rw [HT.out _ (Nat.le_refl _)]; decide); have y3 := e3.goes hg1 (by rw [HT.out _ (by omega)]; decide); have y4 := e4.goes hg1 (by rw [HT.out _ (by omega)]; decide); have y5 := e5.goes hg1 (by rw [HT.out _ (by omega)]; decide); have HZ : Hid (Zb w1 (w.heap.size + 2) zE ∧ Zb w1 (w.heap.size + 3) [.int .u64 (x' : Int), .int .u64 (y' : Int), .int .u64 (z' : Int), .slice oa' ol' oc', .slice ia' il' ic', .slice pa' pl' pc'] ∧ Zb w1 (w.heap.size + 1) [.bool last, .int .u64 (x' : Int), .int .u64 (y' : Int), .int .u64 (z' : Int), .slice oa' ol' oc', .slice ia' il' ic', .slice pa' pl' pc'] ∧ Zb w1 w.heap.size [.int .u64 (x : Int), .int .u64 (y : Int), .int .u64 (z : Int), .slice oa ol oc, .slice ia il ic, .slice pa pl pc]) := ⟨y4, y5, y3, y2⟩; have d3 := y5.2.1 3 _ rfl; have f3 := y5.2.2 3; have g4 := y2.2.1 4 _ rfl; have g5 := y3.2.1 5 _ rfl; clear hown1 hg1 e1 e2 e3 e4 e5 y2 y3 y4 y5)))
  have hz5 := HV.out.2.set 4 (.slice a2 (bi.length + ri.length) c2)
  have hz4 := (HV.out.1.other (w' := w2) (g := w.heap.size + 3) 4 (.slice a2 (bi.length + ri.length) c2) (by omega)).sets (vs := evC x' y' z' (a1, bo.length + ro.length, c1) (a2, bi.length + ri.length, c2) (pa', pl', pc')) (by simp [evC, zE])
  refine bodyPost_ret (res_ed rfl _ _ (w.heap.size + 2) x' y' z' (a1, bo.length + ro.length, c1) (a2, bi.length + ri.length, c2) (pa', pl', pc') (by rfl) hz4) rfl ?_
  have g1 := Goes.setCell (t := (· = 0)) (w := w2) (p := w.heap.size + 3) (j := 4) (v := .slice a2 (bi.length + ri.length) c2) HY.out.2.2.2.2
  have g2 := Goes.sets (t := (· = 0)) (T := T2) (B := w.heap.size + 2) HY.out.2.2.2.1 (evC x' y' z' (a1, bo.length + ro.length, c1) (a2, bi.length + ri.length, c2) (pa', pl', pc')) (w2.setCell ⟨w.heap.size + 3, 4, none⟩ (.slice a2 (bi.length + ri.length) c2)) 0
  have g3 := Goes.setsNew (B := w.heap.size + 2) (by omega) (evC x' y' z' (a1, bo.length + ro.length, c1) (a2, bi.length + ri.length, c2) (pa', pl', pc')) _ 0 (Goes.setNew HY.out.2.2.1 (B := w.heap.size + 3) (by omega) 4 (.slice a2 (bi.length + ri.length) c2))
  have r1 := (HY.out.1.goes g1 (by decide)).goes g2 (by decide)
  have r2 := (HY.out.2.1.goes g1 (by decide)).goes g2 (by decide)
  exact ⟨_, _, T2, rfl, r1, r2, g3⟩
end Mnf
end Go.Proofs.Ytanpbknjnpmmnaa
