import Derived.Test.YtkjddbplaicmjaaRq2
namespace Go.Proofs.Ytkjddbplaicmjaa
namespace Rq
open Go.RowKit Laws Irw Crw Grp
set_option linter.unusedVariables false
set_option linter.unusedSimpArgs false
set_option maxRecDepth 100000
/-- Lists of writes, none of which is nil and has room. -/
def GZ (w : World) (a : Option Addr) (gs : List (List Wr)) : Prop := ∃ vs : List Sv, vs.length = gs.length ∧ IsK kS w a vs ∧ ∀ (i : Nat) v ws, vs[i]? = some v → gs[i]? = some ws → v.2.1 = ws.length ∧ Chk.IsWr w v.1 ws ∧ (v.1 = none → v.2.2 = 0)
theorem GZ.below {w w' : World} {a : Option Addr} {gs : List (List Wr)} (h : GZ w a gs) (hb : Below w.heap.size w w') : GZ w' a gs := by
  obtain ⟨vs, h1, h2, h3⟩ := h
  exact ⟨vs, h1, h2.below hb, fun i v ws hv hw => ⟨(h3 i v ws hv hw).1, (h3 i v ws hv hw).2.1.below hb, (h3 i v ws hv hw).2.2⟩⟩
theorem GZ.rd {w : World} {a : Option Addr} {gs : List (List Wr)} (h : GZ w a gs) {k : Nat} (hk : k < gs.length) : ∃ b off ad c ws, a = some ⟨b, off, none⟩ ∧ gs[k]? = some ws ∧ b < w.heap.size ∧ w.cell? ⟨b, off + k, none⟩ = some (.slice ad ws.length c) ∧ Chk.IsWr w ad ws ∧ (ad = none → c = 0) := by
  obtain ⟨vs, h1, h2, h3⟩ := h
  obtain ⟨b, off, e, hr⟩ := h2.at_ (by omega)
  have hv : vs[k]? = some (vs[k]'(by omega)) := List.getElem?_eq_getElem (by omega)
  have hg : gs[k]? = some gs[k] := List.getElem?_eq_getElem hk
  obtain ⟨q1, q2, q3⟩ := h3 k _ _ hv hg
  have hc := hr.2 k _ hv 0 _ rfl
  rw [show off + k * kS.size + 0 = off + k by show off + k * 1 + 0 = _; omega, q1] at hc
  exact ⟨b, off, _, _, _, e, hg, hr.1, hc, q2, q3⟩
/-- What was lent of one list. -/
def Fs (T : Nat → Nat) (w : World) (v : Sv) (ws : List Wr) : Prop := v.2.1 = ws.length ∧ ∃ b, v.1 = some ⟨b, 0, none⟩ ∧ T b = 0 ∧ KRow kW w b 0 ws
theorem Fs.goes {u : Nat → Prop} {T T' : Nat → Nat} {w w' : World} {v : Sv} {ws : List Wr} (h : Fs T w v ws) (hg : Goes u T w T' w') (h0 : ¬ u 0) : Fs T' w' v ws := by
  obtain ⟨h1, b, e, ht, hr⟩ := h
  exact ⟨h1, b, e, (hg.tag b hr.1 (by rw [ht]; exact h0)).trans ht, hr.keep (hg.block b hr.1 (by rw [ht]; exact h0)) hg.size⟩
theorem row_pre {w : World} {b off : Nat} {l r : List Wr} (h : KRow kW w b off (l ++ r)) : KRow kW w b off l :=
  ⟨h.1, fun i e he j u hu => h.2 i e (by rw [List.getElem?_append_left (List.getElem?_eq_some_iff.1 he).1]; exact he) j u hu⟩
/-- one mark, as a list of its own -/
def mk1 (i : Nat) : List Wr := [(wordB i, false, ⟨#[]⟩)]
/-- The lists of a room of groups, as far as they are laid: those lent, then marks. -/
structure Fl (T : Nat → Nat) (w : World) (fs : List Sv) (gs : List (List Wr)) (k : Nat) : Prop where
  ln : fs.length = gs.length + k
  ok : ∀ (i : Nat) v ws, fs[i]? = some v → (gs ++ (List.range k).map mk1)[i]? = some ws → Fs T w v ws
theorem Fl.goes {u : Nat → Prop} {T T' : Nat → Nat} {w w' : World} {fs : List Sv} {gs : List (List Wr)} {k : Nat} (h : Fl T w fs gs k) (hg : Goes u T w T' w') (h0 : ¬ u 0) : Fl T' w' fs gs k := ⟨h.ln, fun i v ws hv hw => (h.ok i v ws hv hw).goes hg h0⟩
theorem snoc_at {α β : Type} {P : α → β → Prop} {xs : List α} {ys : List β} {x : α} {y : β} (hl : xs.length = ys.length) (h : ∀ (i : Nat) a b, xs[i]? = some a → ys[i]? = some b → P a b) (hx : P x y) : ∀ (i : Nat) a b, (xs ++ [x])[i]? = some a → (ys ++ [y])[i]? = some b → P a b := by
  intro i a b ha hb
  by_cases hi : i < xs.length
  · rw [List.getElem?_append_left hi] at ha
    rw [List.getElem?_append_left (by omega)] at hb
    exact h i a b ha hb
  · have hi2 : i = xs.length := by
      have := (List.getElem?_eq_some_iff.1 ha).1
      simp at this
      omega
    subst hi2
    rw [List.getElem?_concat_length] at ha
    rw [hl, List.getElem?_concat_length] at hb
    cases ha
    cases hb
    exact hx
/-- Where layGroups stands. -/
structure Lg (w0 : World) (R : Nat) (vs fs : List Sv) (gs : List (List Wr)) (k : Nat) (v : Value) (T : Nat → Nat) (w : World) : Prop where
  rm : Rm T w R vs gs
  ow : OwnK kS 4 T w v fs
  fl : Fl T w fs gs k
  bl : Below w0.heap.size w0 w
  fr : ∀ b, b < w0.heap.size → T b = 0
  hi : ∀ b, w.heap.size ≤ b → T b = 0
theorem bel_goes {u : Nat → Prop} {w W W' : World} {T T' : Nat → Nat} (hb : Below w.heap.size w W) (hf : ∀ b, b < w.heap.size → T b = 0) (hg : Goes u T W T' W') (h0 : ¬ u 0) : Below w.heap.size w W' ∧ ∀ b, b < w.heap.size → T' b = 0 :=
  ⟨hb.trans ⟨hg.os, hg.tape, hg.output, hg.size, fun b hl => hg.block b (Nat.lt_of_lt_of_le hl hb.size) (by rw [hf b hl]; exact h0)⟩, fun b hl => (hg.tag b (Nat.lt_of_lt_of_le hl hb.size) (by rw [hf b hl]; exact h0)).trans (hf b hl)⟩
theorem Lg.below {w0 w w' : World} {R : Nat} {vs fs : List Sv} {gs : List (List Wr)} {k : Nat} {v : Value} {T : Nat → Nat} (h : Lg w0 R vs fs gs k v T w) (hb : Below w.heap.size w w') : Lg w0 R vs fs gs k v T w' :=
  ⟨h.rm.below hb, h.ow.below hb, h.fl.goes (Goes.below (t := fun _ => False) hb) (fun z => z), h.bl.trans (hb.mono h.bl.size), h.fr, fun b hb' => h.hi b (Nat.le_trans hb.size hb')⟩
/-- One list was laid and put behind. -/
theorem Lg.lay {w0 w w2 w3 : World} {R : Nat} {vs fs : List Sv} {gs : List (List Wr)} {v v3 : Value} {T T2 T3 : Nat → Nat} {b c n : Nat} {ws : List Wr} (h : Lg w0 R vs fs gs 0 v T w) (hn : n = ws.length) (hr : Rm T2 w2 R (vs ++ [(some ⟨b, 0, none⟩, n + 4, c)]) (gs ++ [ws])) (g2 : Goes u3 T w T2 w2) (g3 : Goes (· = 4) T2 w2 T3 w3) (o3 : OwnK kS 4 T3 w3 v3 (fs ++ [(some ⟨b, 0, none⟩, n, n + 4)])) :
    Lg w0 R (vs ++ [(some ⟨b, 0, none⟩, n + 4, c)]) (fs ++ [(some ⟨b, 0, none⟩, n, n + 4)]) (gs ++ [ws]) 0 v3 T3 w3 := by
  have n0 : ¬ u3 0 := by unfold u3; omega
  have a1 := bel_goes h.bl h.fr g2 n0
  have a2 := bel_goes a1.1 a1.2 g3 (by omega)
  have hlv : vs.length = gs.length := h.rm.ln
  have hlast : Lw T2 w2 (some ⟨b, 0, none⟩, n + 4, c) ws := hr.ok vs.length _ _ (by rw [List.getElem?_concat_length]) (by rw [hlv, List.getElem?_concat_length])
  have hfs : Fs T2 w2 (some ⟨b, 0, none⟩, n, n + 4) ws := by
    obtain ⟨_, b', e, ht, hrow⟩ := hlast
    exact ⟨hn, b', e, ht, row_pre hrow⟩
  have hln := h.fl.ln
  have hfl2 := h.fl.goes g2 n0
  refine ⟨hr.goes g3 (by omega) (by omega) (by omega) (by omega), o3, ⟨by simp at hln ⊢; exact hln, ?_⟩, a2.1, a2.2, fun x hx => g3.high x hx (g2.high x (Nat.le_trans g3.size hx) (h.hi x (Nat.le_trans g2.size (Nat.le_trans g3.size hx))))⟩
  have e0 : ∀ l : List (List Wr), l ++ (List.range 0).map mk1 = l := fun l => by simp
  rw [e0]
  have hok : ∀ (i : Nat) v ws, fs[i]? = some v → gs[i]? = some ws → Fs T2 w2 v ws := by
    have := hfl2.ok
    rw [e0] at this
    exact this
  exact fun i y z hy hz => (snoc_at (P := fun y z => Fs T2 w2 y z) (by simpa using hln) hok hfs i y z hy hz).goes g3 (by omega)
/-- One mark was put behind. -/
theorem Lg.mark {w0 w w2 w3 : World} {R : Nat} {vs fs : List Sv} {gs : List (List Wr)} {k b : Nat} {v v3 : Value} {T T3 : Nat → Nat} (h : Lg w0 R vs fs gs k v T w) (hb : Below w.heap.size w w2) (hw : w.heap.size ≤ b) (hrow : KRow kW w2 b 0 (mk1 k)) (g3 : Goes (· = 4) T w2 T3 w3) (o3 : OwnK kS 4 T3 w3 v3 (fs ++ [(some ⟨b, 0, none⟩, 1, 1)])) :
    Lg w0 R vs (fs ++ [(some ⟨b, 0, none⟩, 1, 1)]) gs (k + 1) v3 T3 w3 := by
  have h2 := h.below hb
  have a2 := bel_goes h2.bl h2.fr g3 (by omega)
  have hln := h2.fl.ln
  have hfs : Fs T w2 (some ⟨b, 0, none⟩, 1, 1) (mk1 k) := ⟨rfl, b, rfl, h.hi b hw, hrow⟩
  refine ⟨h2.rm.goes g3 (by omega) (by omega) (by omega) (by omega), o3, ⟨by simp at hln ⊢; omega, ?_⟩, a2.1, a2.2, fun x hx => g3.high x hx (h2.hi x (Nat.le_trans g3.size hx))⟩
  have e1 : gs ++ (List.range (k + 1)).map mk1 = (gs ++ (List.range k).map mk1) ++ [mk1 k] := by rw [List.range_succ, List.map_append, List.append_assoc]; rfl
  rw [e1]
  exact fun i y z hy hz => (snoc_at (P := fun y z => Fs T w2 y z) (by simp at hln ⊢; exact hln) h2.fl.ok hfs i y z hy hz).goes g3 (by omega)
end Rq
end Go.Proofs.Ytkjddbplaicmjaa
