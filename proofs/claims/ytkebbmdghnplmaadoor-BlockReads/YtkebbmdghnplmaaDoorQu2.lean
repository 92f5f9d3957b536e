import Derived.Test.YtkebbmdghnplmaaDoorQu1
import Derived.Test.YtkebbmdghnplmaaDoorQg2
import Derived.Sort.QuietIn
namespace Go.Proofs.YtkebbmdghnplmaaDoor
namespace Qe
open Go.RowKit Go.Shelf Laws Irw
set_option linter.unusedVariables false
set_option maxRecDepth 100000
set_option linter.unusedSimpArgs false
variable {α : Type}
/-- a loop variable that is boxed -/
def AsB (ps : Array Tmp) (enc : α → Array Value) (q : Tmp) (cl : α → Array Value) (ty : TypeId) (a : Act) (e : α) (a' : Act) (W W' : World) : Prop :=
  W' = W.alloc (.cells (cl e) ty) ∧ a' = { tmps := ((ps.zip (enc e)).foldl (fun t (p, v) => t.setIfInBounds p v) a.tmps).setIfInBounds q (.pointer (some ⟨W.heap.size, 0, none⟩)), defers := [] }
theorem range_eB {F : Fence} {n : Nat} {P : Program} {g : Operand} {ps : Array Tmp} {assign body : Code} {Q : Exit → Act → World → Prop} {a : Act} {w : World}
    (hro : F.round = none) (h1 : 1 ≤ n) {gf : Nat} {lb : Array Value} (hg : a.eval g = .func (.func gf) #[] lb) (hFg : F.fn gf) (eg : ∀ args w, (callFunc gf args).run P w = .ok (.enter gf args) w)
    (u : Nat → Prop) (hu0 : ¬ u 0) (T0 : Nat → Nat) (hz0 : ∀ b, w.heap.size ≤ b → T0 b = 0)
    {enc : α → Array Value} {post : List α} {m : Nat} (hseq : SeqE u F (n - 1) m P gf lb enc post w T0) (hps : ∀ x, (enc x).size = ps.size)
    (I : List α → (Nat → Nat) → World → Prop) (Ix : Code → List α → (Nat → Nat) → World → Prop) (hI : Lasts w.heap.size I) (hIx : ∀ c, Lasts w.heap.size (Ix c)) (h0 : I [] T0 w)
    (q : Tmp) (cl : α → Array Value) (ty : TypeId)
    (hassign : ∀ (l : Nat) (e : α) (es : List α) T (W : World) (K : Act → World → Prop), I es T W → (∀ a' W', AsB ps enc q cl ty a e a' W W' → K a' W') →
      assign.wpIn (F.inRound l) m P (Exit.then K (fun _ _ _ => False)) { tmps := (ps.zip (enc e)).foldl (fun t (p, v) => t.setIfInBounds p v) a.tmps, defers := [] } W)
    (hbody : ∀ (l : Nat) (e : α) (es : List α) T (a' : Act) (W W' W'' : World), w.heap.size ≤ l → l < W.heap.size → (∃ o : Obj, W'.heap[l]? = some o ∧ o.isCells = false) → I es T W → I es T W'' → (∀ b, W.heap.size ≤ b → T b = 0) → es ++ [e] <+: post → AsB ps enc q cl ty a e a' W W' → W'.grownBy W'' (some l) → (∃ r, W''.heap[l]? = some (.loop r)) → body.wpIn (F.inRound l) m P (eachPostE u w.heap.size I Ix (es ++ [e]) T W'') a' W'')
    (hdone : ∀ (D : Nat) T (W : World), w.heap.size ≤ D → I post T W → W.heap[D]? = some (.deferred (some [])) → Q .normal { a with defers := { target := .collected D, args := #[] } :: a.defers } W)
    (hstop : ∀ (D : Nat) (c : Code) (es : List α) T (W : World), w.heap.size ≤ D → es <+: post → Ix c es T W → W.heap[D]? = some (.deferred (some [])) → c.wpIn F n P Q { a with defers := { target := .collected D, args := #[] } :: a.defers } W) :
    (Code.rangeFunc g ps assign body).wpIn F n P Q a w :=
  range_eH hro h1 hg hFg eg u hu0 T0 hz0 hseq hps I Ix hI hIx h0 (AsB ps enc q cl ty a) (fun e a' W W' h => by rw [h.1]; exact (Below.refl _ _).alloc (Nat.le_refl _) _) hassign hbody hdone hstop
theorem range_nB {F : Fence} {n : Nat} {P : Program} {g : Operand} {ps : Array Tmp} {assign body : Code} {Q : Exit → Act → World → Prop} {a : Act} {w : World}
    {l₀ : Nat} {r₀ : Loop} (hro : F.round = some l₀) (hl₀ : w.heap[l₀]? = some (.loop r₀)) (h1 : 1 ≤ n) {gf : Nat} {lb : Array Value} (hg : a.eval g = .func (.func gf) #[] lb) (hFg : F.fn gf) (eg : ∀ args w, (callFunc gf args).run P w = .ok (.enter gf args) w)
    (u : Nat → Prop) (hu0 : ¬ u 0) (T0 : Nat → Nat) (hz0 : ∀ b, w.heap.size ≤ b → T0 b = 0)
    {enc : α → Array Value} {post : List α} {m : Nat} (hseq : SeqE u F (n - 1) m P gf lb enc post w T0) (hps : ∀ x, (enc x).size = ps.size)
    (I : List α → (Nat → Nat) → World → Prop) (Ix : Code → List α → (Nat → Nat) → World → Prop) (hI : Lasts w.heap.size I) (hIx : ∀ c, Lasts w.heap.size (Ix c)) (h0 : I [] T0 w)
    (q : Tmp) (cl : α → Array Value) (ty : TypeId)
    (hassign : ∀ (l : Nat) (e : α) (es : List α) T (W : World) (K : Act → World → Prop), I es T W → (∀ a' W', AsB ps enc q cl ty a e a' W W' → K a' W') →
      assign.wpIn (F.inRound l) m P (Exit.then K (fun _ _ _ => False)) { tmps := (ps.zip (enc e)).foldl (fun t (p, v) => t.setIfInBounds p v) a.tmps, defers := [] } W)
    (hbody : ∀ (l : Nat) (e : α) (es : List α) T (a' : Act) (W W' W'' : World), w.heap.size ≤ l → l < W.heap.size → (∃ o : Obj, W'.heap[l]? = some o ∧ o.isCells = false) → I es T W → I es T W'' → (∀ b, W.heap.size ≤ b → T b = 0) → es ++ [e] <+: post → AsB ps enc q cl ty a e a' W W' → W'.grownBy W'' (some l) → body.wpIn (F.inRound l) m P (eachPostE u w.heap.size I Ix (es ++ [e]) T W'') a' W'')
    (hdone : ∀ T (W : World), I post T W → Q .normal a W)
    (hstop : ∀ (c : Code) (es : List α) T (W : World), es <+: post → Ix c es T W → c.wpIn F n P Q a W) :
    (Code.rangeFunc g ps assign body).wpIn F n P Q a w :=
  range_n hro hl₀ h1 hg hFg eg u hu0 T0 hz0 hseq hps I Ix hI hIx h0 (AsB ps enc q cl ty a) (fun e a' W W' h => by rw [h.1]; exact (Below.refl _ _).alloc (Nat.le_refl _) _) hassign hbody hdone hstop
theorem inBlock_of {id : Nat} {ex : Exit} {Q : Exit → Act → World → Prop} {a : Act} {W : World} (hex : ex = .normal ∨ ex = .exit id) (h : Q .normal a W) : Exit.inBlock id Q ex a W := by
  rcases hex with rfl | rfl
  · exact h
  · simpa [Exit.inBlock] using h
/-- the same, with one way on behind it -/
theorem range_eR {F : Fence} {n : Nat} {P : Program} {g : Operand} {ps : Array Tmp} {assign body : Code} {Q : Exit → Act → World → Prop} {a : Act} {w : World}
    (hro : F.round = none) (h1 : 1 ≤ n) {gf : Nat} {lb : Array Value} (hg : a.eval g = .func (.func gf) #[] lb) (hFg : F.fn gf) (eg : ∀ args w, (callFunc gf args).run P w = .ok (.enter gf args) w)
    (u : Nat → Prop) (hu0 : ¬ u 0) (T0 : Nat → Nat) (hz0 : ∀ b, w.heap.size ≤ b → T0 b = 0)
    {enc : α → Array Value} {post : List α} {m : Nat} (hseq : SeqE u F (n - 1) m P gf lb enc post w T0) (hps : ∀ x, (enc x).size = ps.size)
    (I : List α → (Nat → Nat) → World → Prop) (Ix : Code → List α → (Nat → Nat) → World → Prop) (hI : Lasts w.heap.size I) (hIx : ∀ c, Lasts w.heap.size (Ix c)) (h0 : I [] T0 w)
    (q : Tmp) (cl : α → Array Value) (ty : TypeId)
    (hassign : ∀ (l : Nat) (e : α) (es : List α) T (W : World) (K : Act → World → Prop), I es T W → (∀ a' W', AsB ps enc q cl ty a e a' W W' → K a' W') →
      assign.wpIn (F.inRound l) m P (Exit.then K (fun _ _ _ => False)) { tmps := (ps.zip (enc e)).foldl (fun t (p, v) => t.setIfInBounds p v) a.tmps, defers := [] } W)
    (hbody : ∀ (l : Nat) (e : α) (es : List α) T (a' : Act) (W W' W'' : World), w.heap.size ≤ l → l < W.heap.size → (∃ o : Obj, W'.heap[l]? = some o ∧ o.isCells = false) → I es T W → I es T W'' → (∀ b, W.heap.size ≤ b → T b = 0) → es ++ [e] <+: post → AsB ps enc q cl ty a e a' W W' → W'.grownBy W'' (some l) → (∃ r, W''.heap[l]? = some (.loop r)) → body.wpIn (F.inRound l) m P (eachPostE u w.heap.size I Ix (es ++ [e]) T W'') a' W'')
    (id : Nat) (J : World → Prop) (hdone : ∀ T (W : World), I post T W → J W) (hstop : ∀ (c : Code) (es : List α) T (W : World), es <+: post → Ix c es T W → c = .exit id ∧ J W)
    (hgo : ∀ (ex : Exit) (D : Nat) (W : World), (ex = .normal ∨ ex = .exit id) → w.heap.size ≤ D → W.heap[D]? = some (.deferred (some [])) → J W → Q ex { a with defers := { target := .collected D, args := #[] } :: a.defers } W) :
    (Code.rangeFunc g ps assign body).wpIn F n P Q a w :=
  range_eB hro h1 hg hFg eg u hu0 T0 hz0 hseq hps I Ix hI hIx h0 q cl ty hassign hbody (fun D T W h1 h2 h3 => hgo _ D W (.inl rfl) h1 h3 (hdone T W h2)) (fun D c es T W h1 h2 h3 h4 => by
    obtain ⟨rfl, hj⟩ := hstop c es T W h2 h3
    have := hgo (.exit id) D W (.inr rfl) h1 h4 hj
    exact wpIn_exit this)
end Qe
namespace Qb
open Go.RowKit Go.Shelf CMath Byt Laws Irw Crw Cod Qe
set_option linter.unusedVariables false
set_option linter.unusedSimpArgs false
set_option maxRecDepth 100000
theorem sameEntries_drew (a b : Option Addr) (ca cb n m : Nat) (l : List En) (w : World) (ha : Erw.IsE w a l) (hb : Erw.IsE w b l) (hn : n = l.length) (hm : m = l.length) (hl : n ≤ 1000000000000) :
    Calls Tryd.prog 17 #[.slice a n ca, .slice b m cb] w fun e w' => e = .returned (.bool true) ∧ ∃ q, w' = w.drewN q := by
  obtain rfl : m = n := by omega
  clear hm
  have HA : Hid (Erw.IsE w a l) := ha
  have HB : Hid (Erw.IsE w b l) := hb
  have HNN : Hid (m = l.length) := hn
  clear ha hb hn
  go_enter Tryd.func17, Tryd.ntmps17
  go_wp2
  go_loopw [5] (fun i wr => ∃ k q : Nat, k ≤ m ∧ i = .int .i64 k ∧ wr = w.drewN q) (fun i _ => m - (intOf i).toNat)
  case atStart => exact ⟨0, 0, Nat.zero_le _, rfl, rfl⟩
  case round =>
    obtain ⟨k, q, hk, rfl, rfl⟩ := hrel
    by_cases hlt : k < m
    · have hlt' : k < l.length := by rw [← HNN.out]; exact hlt
      obtain ⟨b1, o1, ⟨yk, ys, yd, yv⟩, rfl, hy, _, x0, x1, x2, x3⟩ := Qg.isE_at HA.out hlt'
      obtain ⟨b2, o2, y', rfl, hy', _, y0, y1, y2, y3⟩ := Qg.isE_at HB.out hlt'
      rw [hy] at hy'
      cases hy'
      have q1 : (k : Int) < (m : Int) := by omega
      dsimp only at x0 x1 x2 x3 y0 y1 y2 y3
      clear hlt' hy
      go_wp2
      go_quiet (fail)
      go_wp2
      go_roundw
      case rel => exact ⟨k + 1, _, by omega, by go_num, rfl⟩
      case measure => simp [intOf]; omega
    · go_wp2
      go_ret
      exact ⟨rfl, _, rfl⟩
theorem Col.below {s t : Nat} {w W W' : World} {X : Nat} {es : List En} {T : Nat → Nat} (h : Col s t w X es T W) (hb : Below W.heap.size W W') : Col s t w X es T W' := by
  obtain ⟨v, h1, h2⟩ := h.l
  have hlt := World.block_lt_of_cell? W _ h1
  exact ⟨⟨v, (hb.cell (p := ⟨X, 0, none⟩) hlt).trans h1, Erw.OwnE.below h2 hb⟩, (hb.frozen (p := ⟨X, 0, none⟩) hlt).trans h.fl, h.tl, h.xx, h.bl.trans (hb.mono h.bl.size), fun b hb' => h.hi b (Nat.le_trans hb.size hb'), h.fr, h.nc.below h.hi hb⟩
/-- another box beside it -/
structure Okb (t : Nat) (Y : Nat) (T : Nat → Nat) (W : World) : Prop where
  c : W.cell? ⟨Y, 0, none⟩ = some (.bool true)
  f : W.frozen? ⟨Y, 0, none⟩ = false
  tg : T Y = t
theorem Okb.grown {t Y : Nat} {T : Nat → Nat} {A C : World} {row : Option Nat} (h : Okb t Y T A) (hg : A.grownBy C row) (hr : ∀ x, row = some x → ∃ o : Obj, A.heap[x]? = some o ∧ o.isCells = false) : Okb t Y T C := by
  have k1 := cell_grown' hg hr h.c
  exact ⟨(World.cell?_of_block (a := ⟨Y, 0, none⟩) k1).trans h.c, (World.frozen?_of_block (a := ⟨Y, 0, none⟩) k1).trans h.f, h.tg⟩
theorem Okb.below {t Y : Nat} {T : Nat → Nat} {W W' : World} (h : Okb t Y T W) (hb : Below W.heap.size W W') : Okb t Y T W' := by
  have hlt := World.block_lt_of_cell? W _ h.c
  exact ⟨(hb.cell (p := ⟨Y, 0, none⟩) hlt).trans h.c, (hb.frozen (p := ⟨Y, 0, none⟩) hlt).trans h.f, h.tg⟩
theorem Okb.set {t Y : Nat} {T : Nat → Nat} {W : World} (h : Okb t Y T W) : Okb t Y T (W.setCell ⟨Y, 0, none⟩ (.bool true)) :=
  ⟨World.cell?_setCell_same _ _ _ h.c, by rw [World.frozen?_setCell]; exact h.f, h.tg⟩
theorem NC.set {T : Nat → Nat} {W : World} {b j : Nat} {v u : Value} (h : NC T W) (hc : W.cell? ⟨b, j, none⟩ = some u) : NC T (W.setCell ⟨b, j, none⟩ v) := fun k o hk ho => by
  by_cases hb : k = b
  · subst hb
    obtain ⟨o2, h1, h2⟩ := cells_of (World.cell?_setCell_same W ⟨k, j, none⟩ v hc)
    rw [hk] at h1
    cases h1
    rw [h2] at ho
    cases ho
  · rw [Below.heap_setCell W _ _ k hb] at hk
    exact h k o hk ho
theorem Col.set2 {s t : Nat} {w W : World} {X Y : Nat} {es : List En} {T : Nat → Nat} {v u : Value} (h : Col s t w X es T W) (hc : W.cell? ⟨Y, 0, none⟩ = some u) (hst : s ≠ t) (hT : T Y = t) (hne : Y ≠ X) (hY : w.heap.size ≤ Y) : Col s t w X es T (W.setCell ⟨Y, 0, none⟩ v) := by
  obtain ⟨x, h1, h2⟩ := h.l
  refine ⟨⟨x, (World.cell?_setCell_other _ _ _ _ (by intro e; exact hne (congrArg Addr.block e))).trans h1, Erw.OwnE.goes (t := (· = t)) (T := T) (w := W) h2 (Goes.setCell hT) hst⟩, by rw [World.frozen?_setCell]; exact h.fl, h.tl, h.xx, h.bl.setCell (p := ⟨Y, 0, none⟩) hY _, fun b hb => h.hi b (by simpa using hb), h.fr, h.nc.set hc⟩
end Qb
end Go.Proofs.YtkebbmdghnplmaaDoor
