import Derived.Test.YtakgakjkemphlabDoorLw2
namespace Go.Proofs.YtakgakjkemphlabDoor
namespace Lgw
open Go.RowKit CMath Byt Cod Lg Lga Lgp Lgg Laws Grp Crw Kwn Lgf
set_option linter.unusedVariables false
set_option maxRecDepth 20000
set_option linter.unusedSimpArgs false

def kW : Knd W3 := ⟨49, 3, 40, .agg #[.string ⟨#[]⟩, .bool false, .string ⟨#[]⟩], fun x => [.string x.1, .bool x.2.1, .string x.2.2], fun _ => rfl, fun x u hu => by simp at hu; rcases hu with rfl | rfl | rfl <;> rfl, by omega, rfl, by omega⟩
theorem infoW' : (Tryd.prog.info? 49).map (fun i => (i.zero, i.size, i.bytes)) = some (some kW.zero, 3, 40) := by kernel_rfl
theorem undW' : Tryd.prog.underlying 43 = some (.slice 49) := by kernel_rfl
theorem isK_of {w : World} {a : Option Addr} {ws : List W3} (h : Chk.IsWr w a ws) : IsK kW w a ws := fun hne => by
  obtain ⟨b, off, e, hr⟩ := h.1 hne
  refine ⟨b, off, e, hr.1, fun i x hx j u hu => ?_⟩
  obtain ⟨h0, h1, h2⟩ := hr.2 i x hx
  match j, hu with
  | 0, hu => cases hu; exact h0
  | 1, hu => cases hu; exact h1
  | 2, hu => cases hu; exact h2
  | j + 3, hu => simp [kW] at hu
/-- the first k of the writes cut -/
def cutK (ws : List W3) (k : Nat) : List W3 := (ws.take k).map cutW ++ ws.drop k
theorem cutK_zero (ws : List W3) : cutK ws 0 = ws := by simp [cutK]
theorem cutK_all (ws : List W3) : cutK ws ws.length = ws.map cutW := by simp [cutK]
theorem cutK_length (ws : List W3) (k : Nat) : (cutK ws k).length = ws.length := by simp [cutK]; omega
theorem cutK_get (ws : List W3) (k i : Nat) : (cutK ws k)[i]? = (ws[i]?).map fun x => if i < k then cutW x else x := by
  unfold cutK
  by_cases hi : i < k
  · by_cases hl : i < ws.length
    · rw [List.getElem?_append_left (by simp; omega), List.getElem?_map, List.getElem?_take_of_lt hi]
      simp [hi]
    · rw [List.getElem?_eq_none (by simp; omega), List.getElem?_eq_none (by omega)]
      rfl
  · by_cases hl : k ≤ ws.length
    · rw [List.getElem?_append_right (by simp; omega)]
      simp [hi, Nat.min_eq_left hl]
      rw [show k + (i - k) = i by omega]
    · rw [List.getElem?_eq_none (by simp; omega), List.getElem?_eq_none (by omega)]
      rfl
/-- a copy of a batch of the law's own, at G (nil where it is empty) -/
structure Cp (w0 : Nat) (W : World) (ad : Option Addr) (c : Nat) (xs : List W3) : Prop where
  form : (ad = none ∧ xs = [] ∧ c = 0) ∨ ∃ g, ad = some ⟨g, 0, none⟩ ∧ w0 ≤ g ∧ g < W.heap.size ∧ (∀ j, W.frozen? ⟨g, j, none⟩ = false) ∧ ∀ (i : Nat) x, xs[i]? = some x → W.cell? ⟨g, i * 3, none⟩ = some (.string x.1) ∧ W.cell? ⟨g, i * 3 + 1, none⟩ = some (.bool x.2.1) ∧ W.cell? ⟨g, i * 3 + 2, none⟩ = some (.string x.2.2)
/-- the batches laid so far; an empty one is nil -/
structure Gn (w0 : Nat) (W : World) (v : Value) (svs : List Sv) (gs : List (List W3)) : Prop where
  len : svs.length = gs.length
  own : W.ownsRow w0 43 1 v gs.length (kS.cells svs)
  bat : ∀ (i : Nat) sv ws, svs[i]? = some sv → gs[i]? = some ws → sv.2.1 = ws.length ∧ ((sv.1 = none ∧ ws = []) ∨ ∃ b, sv.1 = some ⟨b, 0, none⟩ ∧ w0 ≤ b ∧ b < W.heap.size ∧ v.ownBlock ≠ some b ∧ Chk.IsWr W (some ⟨b, 0, none⟩) ws)
theorem own_below'' {w w' : World} {base n sz : Nat} {e : TypeId} {v : Value} {xs : List Value} (h : w.ownsRow base e sz v n xs) (hb : Below w.heap.size w w') : w'.ownsRow base e sz v n xs := (Keep.below (bs := []) hb).own h (by simp)
theorem Gn.below {w0 : Nat} {W W' : World} {v : Value} {svs : List Sv} {gs : List (List W3)} (h : Gn w0 W v svs gs) (hb : Below W.heap.size W W') : Gn w0 W' v svs gs := by
  refine ⟨h.len, own_below'' h.own hb, fun i sv ws h1 h2 => ?_⟩
  obtain ⟨a1, a2⟩ := h.bat i sv ws h1 h2
  refine ⟨a1, ?_⟩
  rcases a2 with h | ⟨b, b1, b2, b3, b4, b5⟩
  · exact .inl h
  · exact .inr ⟨b, b1, b2, Nat.lt_of_lt_of_le b3 hb.size, b4, b5.below hb⟩
theorem Gn.isG {w0 : Nat} {W : World} {v : Value} {svs : List Sv} {gs : List (List W3)} (h : Gn w0 W v svs gs) : ∃ a c, v = .slice a gs.length c ∧ IsG W a gs := by
  have ho : OwnK kS 0 (fun _ => 0) W v svs := by
    refine ⟨?_, fun _ _ => rfl⟩
    have h1 := h.own
    rw [← h.len] at h1
    refine ⟨h1.1, ?_⟩
    rcases h1.2 with h2 | ⟨g, cap, cur, hv, hb, hr⟩
    · exact .inl h2
    · exact .inr ⟨g, cap, cur, hv, Nat.zero_le _, hr⟩
  obtain ⟨a, c, e, hk, _⟩ := ho.form
  refine ⟨a, c, by rw [e, h.len], svs, h.len, hk, fun i sv ws h1 h2 => ?_⟩
  obtain ⟨a1, a2⟩ := h.bat i sv ws h1 h2
  refine ⟨a1, ?_⟩
  rcases a2 with ⟨b1, rfl⟩ | ⟨b, b1, b2, b3, b4, b5⟩
  · exact ⟨fun h => absurd rfl h, by simp, by simp⟩
  · rw [b1]; exact b5
theorem Gn.add {w0 : Nat} {W W' : World} {v : Value} {svs : List Sv} {gs : List (List W3)} {o : Obj} (h : Gn w0 W v svs gs) {ad : Option Addr} {n c g cap : Nat} {ws : List W3} (hn : n = ws.length) (hr : (ad = none ∧ ws = []) ∨ ∃ b, ad = some ⟨b, 0, none⟩ ∧ w0 ≤ b ∧ b < W.heap.size ∧ v.ownBlock ≠ some b ∧ Chk.IsWr W (some ⟨b, 0, none⟩) ws)
    (hown : W'.ownsRow w0 43 1 (.slice (some ⟨g, 0, none⟩) (gs.length + 1) cap) (gs.length + 1) (kS.cells svs ++ [.slice ad n c])) (hgr : (W.alloc o).grownBy W' v.ownBlock) (hat : v.ownBlock = some g ∨ g = W.heap.size + 1) :
    Gn w0 W' (.slice (some ⟨g, 0, none⟩) (gs.length + 1) cap) (svs ++ [(ad, n, c)]) (gs ++ [ws]) := by
  have hsz := hgr.size
  simp at hsz
  have hblk : ∀ b, b < W.heap.size → v.ownBlock ≠ some b → W'.heap[b]? = W.heap[b]? := fun b hb hv => by
    rw [hgr.block b (by simp; omega) (fun e => hv e.symm)]
    exact Below.heap_alloc W o b hb
  have hne : ∀ b, b < W.heap.size → v.ownBlock ≠ some b → (Value.slice (some ⟨g, 0, none⟩) (gs.length + 1) cap).ownBlock ≠ some b := fun b hb hv e => by
    simp [Value.ownBlock] at e
    subst e
    rcases hat with h1 | h1
    · exact hv h1
    · omega
  have hk : ∀ b ws, b < W.heap.size → v.ownBlock ≠ some b → Chk.IsWr W (some ⟨b, 0, none⟩) ws → Chk.IsWr W' (some ⟨b, 0, none⟩) ws := fun b ws hb hv hw => IsWr.keepB hw (fun b' off' e' hb' => by cases e'; exact hblk b hb hv) (by omega)
  refine ⟨by simp [h.len], ?_, fun i sv x h1 h2 => ?_⟩
  · rw [Knd.cells_append]
    simpa [Knd.cells, kS] using hown
  · rcases Nat.lt_trichotomy i gs.length with hi | rfl | hi
    · rw [List.getElem?_append_left (by rw [h.len]; exact hi)] at h1
      rw [List.getElem?_append_left hi] at h2
      obtain ⟨a1, a2⟩ := h.bat i sv x h1 h2
      refine ⟨a1, ?_⟩
      rcases a2 with h | ⟨b', b1, b2, b3, b4, b5⟩
      · exact .inl h
      · exact .inr ⟨b', b1, b2, by omega, hne b' b3 b4, hk b' x b3 b4 b5⟩
    · rw [← h.len, List.getElem?_append_right (Nat.le_refl _)] at h1
      rw [List.getElem?_append_right (Nat.le_refl _)] at h2
      simp at h1 h2
      subst h1 h2
      refine ⟨hn, ?_⟩
      rcases hr with h | ⟨b', b1, b2, b3, b4, b5⟩
      · exact .inl h
      · exact .inr ⟨b', b1, b2, by omega, hne b' b3 b4, hk b' ws b3 b4 b5⟩
    · rw [List.getElem?_append_right (by omega)] at h2
      cases hd : i - gs.length with
      | zero => omega
      | succ d => rw [hd] at h2; simp at h2

theorem cutW_false {x : W3} (h : x.2.1 = false) : cutW x = x := by obtain ⟨a, b, c⟩ := x; dsimp only at h; subst h; rfl
theorem cutK_same {ws : List W3} {k : Nat} {x : W3} (hx : ws[k]? = some x) (h : x.2.1 = false) : cutK ws (k + 1) = cutK ws k := by
  refine List.ext_getElem? fun i => ?_
  rw [cutK_get, cutK_get]
  by_cases hi : i = k
  · subst hi; rw [hx]; simp [cutW_false h]
  · cases ws[i]? with
    | none => rfl
    | some y =>
      simp only [Option.map_some]
      by_cases h1 : i < k
      · rw [if_pos (by omega), if_pos h1]
      · rw [if_neg (by omega), if_neg h1]
theorem Cp.below {w0 : Nat} {W W' : World} {ad : Option Addr} {c : Nat} {xs : List W3} (h : Cp w0 W ad c xs) (hb : Below W.heap.size W W') : Cp w0 W' ad c xs := by
  refine ⟨?_⟩
  rcases h.form with h | ⟨g, h1, h2, h3, h4, h5⟩
  · exact .inl h
  · refine .inr ⟨g, h1, h2, Nat.lt_of_lt_of_le h3 hb.size, fun j => (hb.frozen (p := ⟨g, j, none⟩) h3).trans (h4 j), fun i x hx => ?_⟩
    obtain ⟨a0, a1, a2⟩ := h5 i x hx
    exact ⟨(hb.cell (p := ⟨g, _, none⟩) h3).trans a0, (hb.cell (p := ⟨g, _, none⟩) h3).trans a1, (hb.cell (p := ⟨g, _, none⟩) h3).trans a2⟩
theorem Cp.cut {w0 : Nat} {W : World} {g c : Nat} {ws : List W3} {k : Nat} (h : Cp w0 W (some ⟨g, 0, none⟩) c (cutK ws k)) {x : W3} (hx : ws[k]? = some x) (hd : x.2.1 = true) :
    Cp w0 (W.setCell ⟨g, k * 3 + 2, none⟩ (.string ⟨#[]⟩)) (some ⟨g, 0, none⟩) c (cutK ws (k + 1)) := by
  refine ⟨?_⟩
  rcases h.form with ⟨e, _⟩ | ⟨g', h1, h2, h3, h4, h5⟩
  · cases e
  · cases h1
    refine .inr ⟨g, rfl, h2, by simpa using h3, fun j => by rw [World.frozen?_setCell]; exact h4 j, fun i y hy => ?_⟩
    rw [cutK_get] at hy
    by_cases hi : i = k
    · subst hi
      rw [hx] at hy
      simp at hy
      subst hy
      obtain ⟨a0, a1, a2⟩ := h5 i x (by rw [cutK_get, hx]; simp)
      refine ⟨?_, ?_, ?_⟩
      · rw [cell_set_ne (by omega)]; exact a0
      · rw [cell_set_ne (by omega)]; exact a1
      · have : (cutW x).2.2 = ⟨#[]⟩ := by simp [cutW, hd]
        rw [this]
        exact World.cell?_setCell_same _ _ _ a2
    · have hy' : (cutK ws k)[i]? = some y := by
        rw [cutK_get, ← hy]
        cases ws[i]? with
        | none => rfl
        | some z =>
          simp only [Option.map_some]
          by_cases h1 : i < k
          · rw [if_pos h1, if_pos (by omega)]
          · rw [if_neg h1, if_neg (by omega)]
      obtain ⟨a0, a1, a2⟩ := h5 i y hy'
      refine ⟨?_, ?_, ?_⟩
      · rw [cell_set_ne (by omega)]; exact a0
      · rw [cell_set_ne (by omega)]; exact a1
      · rw [cell_set_ne (by omega)]; exact a2
theorem copy_of {W w' : World} {T' : Nat → Nat} {ad : Option Addr} {n c : Nat} {ws : List W3} (h : OwnK kW 1 T' w' (.slice ad n c) ws) (hg : Irw.Goes (· = 1) (fun _ => 0) W T' w') : Below W.heap.size W w' ∧ Cp W.heap.size w' ad c ws := by
  refine ⟨⟨hg.os, hg.tape, hg.output, hg.size, fun b hb => hg.block b hb (by simp)⟩, ⟨?_⟩⟩
  have h1 := h.1
  rcases h1.2 with ⟨e, hl⟩ | ⟨g, cap, cur, hv, hb, hh, hc⟩
  · injection e with e1 e2 e3
    exact .inl ⟨e1, List.eq_nil_of_length_eq_zero hl, e3⟩
  · injection hv with e1 e2 e3
    subst e1 e2 e3
    have ht : T' g = 1 := h.2 g rfl
    have hlt := (h1.lt g rfl).2
    refine .inr ⟨g, rfl, ?_, hlt, fun j => h1.frozenAt j, fun i x hx => ?_⟩
    · rcases Nat.lt_or_ge g W.heap.size with hlt' | hge
      · have := hg.tag g hlt' (by simp)
        rw [ht] at this
        cases this
      · exact hge
    · have hi : i < ws.length := (List.getElem?_eq_some_iff.1 hx).1
      have hz : kW.size = 3 := rfl
      have g0 := kW.cells_get ws i x hx 0 (by rw [hz]; omega)
      have g1 := kW.cells_get ws i x hx 1 (by rw [hz]; omega)
      have g2 := kW.cells_get ws i x hx 2 (by rw [hz]; omega)
      rw [hz] at g0 g1 g2
      refine ⟨?_, ?_, ?_⟩
      · have := h1.cellAt (i * 3 + 0) (by show _ < ws.length * 3; omega); rw [g0] at this; exact this
      · have := h1.cellAt (i * 3 + 1) (by show _ < ws.length * 3; omega); rw [g1] at this; exact this
      · have := h1.cellAt (i * 3 + 2) (by show _ < ws.length * 3; omega); rw [g2] at this; exact this
theorem Cp.isWr {w0 : Nat} {W : World} {ad : Option Addr} {c : Nat} {xs : List W3} (h : Cp w0 W ad c xs) (hl : xs.length ≤ 16) (hs : ∀ x ∈ xs, x.1.size ≤ 1000 ∧ x.2.2.size ≤ 1000) : (ad = none ∧ xs = []) ∨ ∃ g, ad = some ⟨g, 0, none⟩ ∧ w0 ≤ g ∧ g < W.heap.size ∧ Chk.IsWr W (some ⟨g, 0, none⟩) xs := by
  rcases h.form with ⟨h1, h2, _⟩ | ⟨g, h1, h2, h3, h4, h5⟩
  · exact .inl ⟨h1, h2⟩
  · refine .inr ⟨g, h1, h2, h3, fun _ => ⟨g, 0, rfl, h3, fun i x hx => ?_⟩, by unfold maxLen; omega, fun x hx => by have := hs x hx; unfold maxLen; omega⟩
    rw [Nat.zero_add]
    exact h5 i x hx
/-- a batch that is nil has no capacity -/
def Nz (w : World) (a : Option Addr) (n : Nat) : Prop := ∀ b off k m c, a = some ⟨b, off, none⟩ → k < n → w.cell? ⟨b, off + k, none⟩ = some (.slice none m c) → c = 0
theorem cut_sz {ws : List W3} (h : ∀ x ∈ ws, okW x) : ∀ x ∈ ws.map cutW, x.1.size ≤ 1000 ∧ x.2.2.size ≤ 1000 := by
  intro x hx
  obtain ⟨y, hy, rfl⟩ := List.mem_map.1 hx
  obtain ⟨h1, h2, h3⟩ := h y hy
  obtain ⟨k, d, v⟩ := y
  dsimp only at h1 h2 h3
  refine ⟨by show k.size ≤ 1000; omega, ?_⟩
  cases d with
  | true => simp [cutW, ByteArray.size]
  | false => have := h3 rfl; show v.size ≤ 1000; omega
end Lgw
end Go.Proofs.YtakgakjkemphlabDoor
