import Derived.Test.YtkjddbplaicmjaaRw1
namespace Go.Proofs.Ytkjddbplaicmjaa
namespace Rfg
open Go.RowKit CMath Byt Cod Lg Laws Grp Lgg Crw Rfw
set_option linter.unusedVariables false
set_option linter.unusedSimpArgs false
set_option maxRecDepth 20000

def kW : Knd W3 := ⟨65, 3, 40, .agg #[.string ⟨#[]⟩, .bool false, .string ⟨#[]⟩], fun x => [.string x.1, .bool x.2.1, .string x.2.2], fun _ => rfl, fun x u hu => by simp at hu; rcases hu with rfl | rfl | rfl <;> rfl, by omega, rfl, by omega⟩
theorem infoW' : (Try.prog.info? 65).map (fun i => (i.zero, i.size, i.bytes)) = some (some kW.zero, 3, 40) := by kernel_rfl
theorem undW' : Try.prog.underlying 63 = some (.slice 65) := by kernel_rfl
/-- the batches laid so far; an empty one is nil -/
structure Gn (w0 : Nat) (W : World) (v : Value) (svs : List Sv) (gs : List (List W3)) : Prop where
  len : svs.length = gs.length
  own : W.ownsRow w0 63 1 v gs.length (kS.cells svs)
  bat : ∀ (i : Nat) sv ws, svs[i]? = some sv → gs[i]? = some ws → sv.2.1 = ws.length ∧ ((sv.1 = none ∧ ws = []) ∨ ∃ b, sv.1 = some ⟨b, 0, none⟩ ∧ w0 ≤ b ∧ b < W.heap.size ∧ v.ownBlock ≠ some b ∧ Chk.IsWr W (some ⟨b, 0, none⟩) ws)
theorem own_below'' {w w' : World} {base n sz : Nat} {e : TypeId} {v : Value} {xs : List Value} (h : w.ownsRow base e sz v n xs) (hb : Below w.heap.size w w') : w'.ownsRow base e sz v n xs := (Keep.below (bs := []) hb).own h (by simp)
theorem Gn.below {w0 : Nat} {W W' : World} {v : Value} {svs : List Sv} {gs : List (List W3)} (h : Gn w0 W v svs gs) (hb : Below W.heap.size W W') : Gn w0 W' v svs gs := by
  refine ⟨h.len, own_below'' h.own hb, fun i sv ws h1 h2 => ?_⟩
  obtain ⟨a1, a2⟩ := h.bat i sv ws h1 h2
  refine ⟨a1, ?_⟩
  rcases a2 with h | ⟨b, b1, b2, b3, b4, b5⟩
  · exact .inl h
  · exact .inr ⟨b, b1, b2, Nat.lt_of_lt_of_le b3 hb.size, b4, b5.below hb⟩
theorem Gn.isG {w0 : Nat} {W : World} {v : Value} {svs : List Sv} {gs : List (List W3)} (h : Gn w0 W v svs gs) : ∃ a c, v = .slice a gs.length c ∧ IsG W a gs := by
  have ho : OwnK kS 0 (fun _ => 0) W v svs := by
    refine ⟨?_, fun _ _ => rfl⟩
    have h1 := h.own
    rw [← h.len] at h1
    refine ⟨h1.1, ?_⟩
    rcases h1.2 with h2 | ⟨g, cap, cur, hv, hb, hr⟩
    · exact .inl h2
    · exact .inr ⟨g, cap, cur, hv, Nat.zero_le _, hr⟩
  obtain ⟨a, c, e, hk, _⟩ := ho.form
  refine ⟨a, c, by rw [e, h.len], svs, h.len, hk, fun i sv ws h1 h2 => ?_⟩
  obtain ⟨a1, a2⟩ := h.bat i sv ws h1 h2
  refine ⟨a1, ?_⟩
  rcases a2 with ⟨b1, rfl⟩ | ⟨b, b1, b2, b3, b4, b5⟩
  · exact ⟨fun h => absurd rfl h, by simp, by simp⟩
  · rw [b1]; exact b5
theorem Gn.add {w0 : Nat} {W W' : World} {v : Value} {svs : List Sv} {gs : List (List W3)} {o : Obj} (h : Gn w0 W v svs gs) {ad : Option Addr} {n c g cap : Nat} {ws : List W3} (hn : n = ws.length) (hr : (ad = none ∧ ws = []) ∨ ∃ b, ad = some ⟨b, 0, none⟩ ∧ w0 ≤ b ∧ b < W.heap.size ∧ v.ownBlock ≠ some b ∧ Chk.IsWr W (some ⟨b, 0, none⟩) ws)
    (hown : W'.ownsRow w0 63 1 (.slice (some ⟨g, 0, none⟩) (gs.length + 1) cap) (gs.length + 1) (kS.cells svs ++ [.slice ad n c])) (hgr : (W.alloc o).grownBy W' v.ownBlock) (hat : v.ownBlock = some g ∨ g = W.heap.size + 1) :
    Gn w0 W' (.slice (some ⟨g, 0, none⟩) (gs.length + 1) cap) (svs ++ [(ad, n, c)]) (gs ++ [ws]) := by
  have hsz := hgr.size
  simp at hsz
  have hblk : ∀ b, b < W.heap.size → v.ownBlock ≠ some b → W'.heap[b]? = W.heap[b]? := fun b hb hv => by
    rw [hgr.block b (by simp; omega) (fun e => hv e.symm)]
    exact Below.heap_alloc W o b hb
  have hne : ∀ b, b < W.heap.size → v.ownBlock ≠ some b → (Value.slice (some ⟨g, 0, none⟩) (gs.length + 1) cap).ownBlock ≠ some b := fun b hb hv e => by
    simp [Value.ownBlock] at e
    subst e
    rcases hat with h1 | h1
    · exact hv h1
    · omega
  have hk : ∀ b ws, b < W.heap.size → v.ownBlock ≠ some b → Chk.IsWr W (some ⟨b, 0, none⟩) ws → Chk.IsWr W' (some ⟨b, 0, none⟩) ws := fun b ws hb hv hw => IsWr.keepB hw (fun b' off' e' hb' => by cases e'; exact hblk b hb hv) (by omega)
  refine ⟨by simp [h.len], ?_, fun i sv x h1 h2 => ?_⟩
  · rw [Knd.cells_append]
    simpa [Knd.cells, kS] using hown
  · rcases Nat.lt_trichotomy i gs.length with hi | rfl | hi
    · rw [List.getElem?_append_left (by rw [h.len]; exact hi)] at h1
      rw [List.getElem?_append_left hi] at h2
      obtain ⟨a1, a2⟩ := h.bat i sv x h1 h2
      refine ⟨a1, ?_⟩
      rcases a2 with h | ⟨b', b1, b2, b3, b4, b5⟩
      · exact .inl h
      · exact .inr ⟨b', b1, b2, by omega, hne b' b3 b4, hk b' x b3 b4 b5⟩
    · rw [← h.len, List.getElem?_append_right (Nat.le_refl _)] at h1
      rw [List.getElem?_append_right (Nat.le_refl _)] at h2
      simp at h1 h2
      subst h1 h2
      refine ⟨hn, ?_⟩
      rcases hr with h | ⟨b', b1, b2, b3, b4, b5⟩
      · exact .inl h
      · exact .inr ⟨b', b1, b2, by omega, hne b' b3 b4, hk b' ws b3 b4 b5⟩
    · rw [List.getElem?_append_right (by omega)] at h2
      cases hd : i - gs.length with
      | zero => omega
      | succ d => rw [hd] at h2; simp at h2
/-- a list of writes of one's own as a batch -/
theorem own_wr {base : Nat} {W : World} {v : Value} {ws : List W3} (h : W.ownsRow base 65 3 v ws.length (kW.cells ws)) (hs : ∀ x ∈ ws, x.1.size ≤ 1000 ∧ x.2.2.size ≤ 1000) (hl : ws.length ≤ 16) : ∃ ad c, v = .slice ad ws.length c ∧ ((ad = none ∧ ws = []) ∨ ∃ g, ad = some ⟨g, 0, none⟩ ∧ base ≤ g ∧ g < W.heap.size ∧ Chk.IsWr W (some ⟨g, 0, none⟩) ws) := by
  have ho : OwnK kW 0 (fun _ => 0) W v ws := by
    refine ⟨⟨h.1, ?_⟩, fun _ _ => rfl⟩
    rcases h.2 with h2 | ⟨g, cap, cur, hv, hb, hr⟩
    · exact .inl h2
    · exact .inr ⟨g, cap, cur, hv, Nat.zero_le _, hr⟩
  obtain ⟨a, c, e, hk, _⟩ := ho.form
  refine ⟨a, c, e, ?_⟩
  rcases h.2 with ⟨h1, h0⟩ | ⟨g, cap, cur, hv, hb, hh, _⟩
  · rw [e] at h1; injection h1 with e1 _ _
    exact .inl ⟨e1, List.eq_nil_of_length_eq_zero h0⟩
  · have hlt := (h.lt g (by rw [hv]; rfl)).2
    rw [e] at hv; injection hv with e1 _ _
    refine .inr ⟨g, e1, hb, hlt, fun hne => ?_, by unfold maxLen; omega, fun x hx => by have := hs x hx; unfold maxLen; omega⟩
    obtain ⟨b, off, e2, hr⟩ := hk hne
    rw [e1] at e2; cases e2
    exact ⟨g, 0, rfl, hr.1, fun i x hx => ⟨hr.2 i x hx 0 _ rfl, hr.2 i x hx 1 _ rfl, hr.2 i x hx 2 _ rfl⟩⟩
theorem cells_one (x : W3) (l : List W3) : kW.cells (l ++ [x]) = kW.cells l ++ [.string x.1, .bool x.2.1, .string x.2.2] := by rw [Knd.cells_append]; simp [Knd.cells, kW]

def GxAns (w : World) (l : List Nat) (e : Ending) (w' : World) : Prop := ∃ v, e = .returned (.tuple #[.int .u64 ((getN l : Nat) : Int), v, .int .i64 ((getErr l : Nat) : Int)]) ∧ GtIs w w' (getGs l) v
theorem GxAns.err {w w' : World} {l : List Nat} {e : Nat} (h : getErr l = e) (he : e ≠ 0) (hb : Below w.heap.size w w') : GxAns w l (.returned (.tuple #[.int .u64 0, .slice none 0 0, .int .i64 (e : Int)])) w' := by
  have h1 : getN l = 0 := by unfold getN; rw [h, if_pos he]
  have h2 : getGs l = [] := by unfold getGs; rw [h, if_pos he]
  refine ⟨.slice none 0 0, by rw [h1, h]; rfl, ?_⟩
  rw [h2]
  exact GtIs.nil hb
theorem rd_nil : rd [] 0 0 = (0, 0, 20) := by simp [rd]
theorem getErr1 {l : List Nat} {n k f : Nat} (h : rd l 0 0 = (n, k, f)) (hf : f ≠ 0) : getErr l = f := by rw [getErr_eq, h, if_pos hf]
theorem getErr2 {l : List Nat} {n k x : Nat} (h : rd l 0 0 = (n, k, 0)) (hx : (grp (l.drop k) 0).2.2 = x) (h0 : x ≠ 0) : getErr l = x := by rw [getErr_eq, h, if_neg (by simp), if_pos (by rw [hx]; exact h0)]; exact hx
theorem grp1 {l : List Nat} {n k f : Nat} (h : rd l 0 0 = (n, k, f)) (hf : f ≠ 0) : (grp l 0).2.2 = f := by unfold grp; rw [if_neg (by simp), h, if_pos hf]
theorem grp2 {l : List Nat} {n k : Nat} (h : rd l 0 0 = (n, k, 0)) : grp l 0 = rdGs n (l.drop k) := by unfold grp; rw [if_neg (by simp), h, if_neg (by simp)]
end Rfg
end Go.Proofs.Ytkjddbplaicmjaa
