import Derived.Test.YtcioaoanhmpdkaaPm2
import Derived.Test.YtcioaoanhmpdkaaPm3
import Derived.Test.YtcioaoanhmpdkaaSaw
import Derived.Deep.RegionLaw
import Derived.Deep.RegionHeld3
import Derived.Deep.DeepCutAuto
import Derived.BigQuiet
namespace Go.Proofs.Ytcioaoanhmpdkaa
namespace Mem
open Go.RowKit Laws Irw Erw KMath Skm Byt Sk Grp Crw Chk
set_option linter.unusedVariables false
set_option maxRecDepth 100000
set_option linter.unusedSimpArgs false
open Classical in
/-- what has turned, as a list -/
theorem keep_list {v : Nat → Prop} {T T' : Nat → Nat} {w w' : World} (h : Goes v T w T' w') : ∃ bs, Keep bs w w' ∧ ∀ b, ¬ v (T b) → b ∉ bs := by
  refine ⟨(List.range w.heap.size).filter (fun b => decide (v (T b))), ⟨h.os, h.tape, h.output, h.size, fun b hb hn => h.block b hb (fun hv => hn ?_)⟩, fun b hn hm => ?_⟩
  · exact List.mem_filter.2 ⟨List.mem_range.2 hb, decide_eq_true hv⟩
  · exact hn (of_decide_eq_true (List.mem_filter.1 hm).2)
theorem Rt.goes {v : Nat → Prop} {T T' : Nat → Nat} {w w' : World} {Q R : Nat} {es : List En} {hs : List Int} {bs : List Nat} {fz : Bool} (h : Rt w Q R es hs bs fz) (hg : Goes v T w T' w') (hQ : ¬ v (T Q)) (hR : ¬ v (T R)) (hb : ∀ b ∈ bs, ¬ v (T b)) : Rt w' Q R es hs bs fz := by
  obtain ⟨cs, k, hn⟩ := keep_list hg
  exact h.keep k (hn _ hQ) (hn _ hR) (fun b hm => hn _ (hb b hm))
/-- both memtables of a pair: the program's has tags t, t + 1, t + 2, the document's u -/
structure Pm (t u : Nat) (T : Nat → Nat) (w : World) (M L Q R : Nat) (ds : List Nat) (ns : List Nd) (hs : List Int) (bs : List Nat) (fz : Bool) : Prop where
  mt : Mt t T w M L ds ns fz
  rt : Rt w Q R (ns.map Nd.e) hs bs fz
  tQ : T Q = u
  tR : T R = u
  tb : ∀ b ∈ bs, T b = u
theorem Rt.lows {w : World} {Q R : Nat} {es : List En} {hs : List Int} {bs : List Nat} {fz : Bool} (h : Rt w Q R es hs bs fz) : R < w.heap.size ∧ ∀ b ∈ bs, b < w.heap.size := ⟨h.rl.lt, fun b hb => (h.rl.low b hb).1⟩
theorem Pm.goes {t u : Nat} {v : Nat → Prop} {T T' : Nat → Nat} {w w' : World} {M L Q R : Nat} {ds : List Nat} {ns : List Nd} {hs : List Int} {bs : List Nat} {fz : Bool} (h : Pm t u T w M L Q R ds ns hs bs fz) (hg : Goes v T w T' w') (h1 : ¬ v t) (h2 : ¬ v (t + 1)) (h3 : ¬ v (t + 2)) (h4 : ¬ v u) : Pm t u T' w' M L Q R ds ns hs bs fz := by
  have lo := h.rt.lows
  exact ⟨h.mt.goes hg h1 h2 h3, h.rt.goes hg (by rw [h.tQ]; exact h4) (by rw [h.tR]; exact h4) (fun b hb => by rw [h.tb b hb]; exact h4), (hg.tag _ h.rt.lt (by rw [h.tQ]; exact h4)).trans h.tQ, (hg.tag _ lo.1 (by rw [h.tR]; exact h4)).trans h.tR, fun b hb => (hg.tag _ (lo.2 b hb) (by rw [h.tb b hb]; exact h4)).trans (h.tb b hb)⟩
theorem Pm.below {t u : Nat} {T : Nat → Nat} {w w' : World} {M L Q R : Nat} {ds : List Nat} {ns : List Nd} {hs : List Int} {bs : List Nat} {fz : Bool} (h : Pm t u T w M L Q R ds ns hs bs fz) (hb : Below w.heap.size w w') : Pm t u T w' M L Q R ds ns hs bs fz := h.goes (Goes.below (t := fun _ => False) hb) (fun z => z) (fun z => z) (fun z => z) (fun z => z)
def uP (t u z : Nat) : Prop := z = t ∨ z = t + 2 ∨ z = u
/-- what a call of a pair leaves -/
def PmAns (t u : Nat) (T : Nat → Nat) (w : World) (M L Q R : Nat) (ds : List Nat) (ns : List Nd) (w' : World) : Prop :=
  ∃ T' ns' hs' bs' fz', Pm t u T' w' M L Q R ds ns' hs' bs' fz' ∧ Goes (uP t u) T w T' w' ∧ ns'.length ≤ ns.length + 16
theorem PmAns.same {t u : Nat} {T : Nat → Nat} {w w' : World} {M L Q R : Nat} {ds : List Nat} {ns : List Nd} {hs : List Int} {bs : List Nat} {fz : Bool} (h : Pm t u T w M L Q R ds ns hs bs fz) (hb : Below w.heap.size w w') : PmAns t u T w M L Q R ds ns w' :=
  ⟨T, ns, hs, bs, fz, h.below hb, Goes.below hb, by omega⟩
def retag (A B u : Nat) (T : Nat → Nat) (b : Nat) : Nat := if A ≤ b ∧ b < B then u else T b
theorem goes_retag {T : Nat → Nat} {w w' : World} {cs : List Nat} {u : Nat} (hk : Keep cs w w') (hc : ∀ b ∈ cs, T b = u) : Goes (· = u) T w (retag w.heap.size w'.heap.size u T) w' :=
  ⟨hk.os, hk.tape, hk.output, hk.size, fun b hb hn => hk.block b hb (fun h => hn (hc b h)), fun b hb _ => by unfold retag; rw [if_neg (by omega)], fun b hb h0 => by unfold retag; rw [if_neg (by omega)]; exact h0⟩
/-- the document's memtable while the other one is being changed -/
theorem add_rt {t u : Nat} {T : Nat → Nat} {w w5 : World} {M L Q R : Nat} {ds : List Nat} {ns : List Nd} {hs : List Int} {bs : List Nat} {fz : Bool} {first : Int} {ws : List Wr} (h : Pm t u T w M L Q R ds ns hs bs fz) (htu : t ≠ u ∧ t + 1 ≠ u ∧ t + 2 ≠ u) (h5 : AddAns t T w M L ds ns fz first ws w5) : Rt w5 Q R (ns.map Nd.e) hs bs fz := by
  obtain ⟨T5, ns5, k1, k2, k3⟩ := h5
  have hu : ¬ uM t u := by unfold uM; omega
  exact h.rt.goes k2 (by rw [h.tQ]; exact hu) (by rw [h.tR]; exact hu) (fun b hb => by rw [h.tb b hb]; exact hu)
/-- both Adds, one behind the other -/
theorem both_add {t u : Nat} {T : Nat → Nat} {w w5 w6 : World} {M L Q R : Nat} {ds : List Nat} {ns : List Nd} {hs : List Int} {bs : List Nat} {fz : Bool} {first : Int} {ws : List Wr} (h : Pm t u T w M L Q R ds ns hs bs fz) (htu : t ≠ u ∧ t + 1 ≠ u ∧ t + 2 ≠ u) (h5 : AddAns t T w M L ds ns fz first ws w5) (h6 : RAddAns w5 Q R bs fz (ns.map Nd.e) first ws w6) : PmAns t u T w M L Q R ds ns w6 := by
  have hrt5 := add_rt h htu h5
  obtain ⟨T5, ns5, k1, k2, k3⟩ := h5
  obtain ⟨hs6, bs6, m⟩ := h6
  have hu : ¬ uM t u := by unfold uM; omega
  have lo := h.rt.lows
  have tQ5 : T5 Q = u := (k2.tag _ h.rt.lt (by rw [h.tQ]; exact hu)).trans h.tQ
  have tR5 : T5 R = u := (k2.tag _ lo.1 (by rw [h.tR]; exact hu)).trans h.tR
  have tb5 : ∀ b ∈ bs, T5 b = u := fun b hb => (k2.tag _ (lo.2 b hb) (by rw [h.tb b hb]; exact hu)).trans (h.tb b hb)
  have lo5 := hrt5.lows
  have gr := goes_retag m.go (u := u) (T := T5) (fun b hb => by simp at hb; rw [hb]; exact tR5)
  have lo6 := m.t.lows
  have hm6 : Mt t (retag w5.heap.size w6.heap.size u T5) w6 M L ds ns5 fz := k1.goes gr htu.1 htu.2.1 htu.2.2
  have hes : (if addE fz ws = 0 then (Ents.ents first ws).foldl rput (ns.map Nd.e) else ns.map Nd.e) = ns5.map Nd.e := by
    rcases k3 with ⟨e0, ha⟩ | ⟨e0, rfl⟩
    · rw [if_pos e0]
      exact (adds_same ha h.mt.sl.sorted k1.sl.sorted).symm
    · rw [if_neg e0]
  have hlen : ns5.length ≤ ns.length + 16 := by
    rcases k3 with ⟨e0, ha⟩ | ⟨e0, rfl⟩
    · have h1 := ha.len
      have h2 : Chk.errB ws = 0 := by
        unfold addE at e0
        split at e0
        · omega
        · exact e0
      have h3 := (errB_zero h2).1
      have h4 : (Ents.ents first ws).length = ws.length := by simp [Ents.ents]
      omega
    · omega
  have mt := m.t
  rw [hes] at mt
  refine ⟨retag w5.heap.size w6.heap.size u T5, ns5, hs6, bs6, fz, ⟨hm6, mt, ?_, ?_, fun b hb => ?_⟩, (k2.mono fun z hz => ?_).trans (gr.mono fun z hz => .inr (.inr hz)), hlen⟩
  · have := hrt5.lt
    unfold retag; rw [if_neg (by omega)]; exact tQ5
  · have := lo5.1
    unfold retag; rw [if_neg (by omega)]; exact tR5
  · unfold retag
    rcases m.bs b hb with h7 | h7
    · have := lo5.2 b h7
      rw [if_neg (by omega)]; exact tb5 b h7
    · rw [if_pos ⟨h7, lo6.2 b hb⟩]
  · rcases hz with hz | hz
    · exact .inl hz
    · exact .inr (.inl hz)
/-- a room that lent one list -/
def Rz (w : World) (R g n : Nat) : Prop := (∃ ws : List Wr, ws.length = n ∧ Room.RoomIs w R g ws 40) ∧ ∀ j, j < 28 → j ≠ 12 ∧ j ≠ 13 → w.cell? ⟨R, j, none⟩ = some (.slice none 0 0)
theorem RoomIs_blocks {w w' : World} {R g : Nat} {ws : List Wr} (h : Room.RoomIs w R g ws 40) (hs : w.heap.size ≤ w'.heap.size) (hb : ∀ b, R ≤ b → b < w.heap.size → w'.heap[b]? = w.heap[b]?) : Room.RoomIs w' R g ws 40 := by
  obtain ⟨g2, c2, g3, c3, c, l0, l1, l2, l3, e1, e2, e3, e4, hr⟩ := h
  have kR := hb R (Nat.le_refl _) l1
  have k2 := hb g2 (by omega) l2
  have k3 := hb g3 (by omega) l3
  have kg := hb g (by omega) hr.1
  refine ⟨g2, c2, g3, c3, c, ⟨l0.1, l0.2.1, l0.2.2.1, fun j => (World.frozen?_of_block (a := ⟨g, j, none⟩) kg).trans (l0.2.2.2 j)⟩, by omega, by omega, by omega, (World.cell?_of_block (a := ⟨R, 12, none⟩) kR).trans e1, (World.cell?_of_block (a := ⟨R, 13, none⟩) kR).trans e2, (World.cell?_of_block (a := ⟨g2, 0, none⟩) k2).trans e3, (World.cell?_of_block (a := ⟨g3, 0, none⟩) k3).trans e4, Nat.lt_of_lt_of_le hr.1 hs, fun i x hx => ?_⟩
  obtain ⟨h0, h1, h2⟩ := hr.2 i x hx
  exact ⟨(World.cell?_of_block (a := ⟨g, _, none⟩) kg).trans h0, (World.cell?_of_block (a := ⟨g, _, none⟩) kg).trans h1, (World.cell?_of_block (a := ⟨g, _, none⟩) kg).trans h2⟩
theorem Rz.blocks {w w' : World} {R g n : Nat} (h : Rz w R g n) (hs : w.heap.size ≤ w'.heap.size) (hb : ∀ b, R ≤ b → b < w.heap.size → w'.heap[b]? = w.heap[b]?) : Rz w' R g n := by
  obtain ⟨⟨ws, hw, hr⟩, hc⟩ := h
  have hR := Room.room_lt hr
  exact ⟨⟨ws, hw, RoomIs_blocks hr hs hb⟩, fun j hj hn => (World.cell?_of_block (a := ⟨R, j, none⟩) (hb R (Nat.le_refl _) hR)).trans (hc j hj hn)⟩
/-- one of its writes is written over -/
theorem Rz.set {w : World} {R g n i : Nat} (h : Rz w R g n) (hi : i < n) (x : Wr) : Rz (((w.setCell ⟨g, i * 3, none⟩ (.string x.1)).setCell ⟨g, i * 3 + 1, none⟩ (.bool x.2.1)).setCell ⟨g, i * 3 + 2, none⟩ (.string x.2.2)) R g n := by
  obtain ⟨⟨ws, hw, g2, c2, g3, c3, c, l0, l1, l2, l3, e1, e2, e3, e4, hr⟩, hc⟩ := h
  have hx0 : ∃ y, (ws ++ Room.marks 40)[0]? = some y := by
    cases ws with
    | nil => simp at hw; omega
    | cons y r => exact ⟨y, rfl⟩
  obtain ⟨y, hy⟩ := hx0
  have f0 := (hr.2 0 y hy).1
  rw [Nat.zero_mul, Nat.zero_add] at f0
  have n2 : g ≠ g2 := by rintro rfl; rw [f0] at e3; cases e3
  have n3 : g ≠ g3 := by rintro rfl; rw [f0] at e4; cases e4
  have nR : g ≠ R := by omega
  have oth : ∀ (b j : Nat), g ≠ b → (((w.setCell ⟨g, i * 3, none⟩ (.string x.1)).setCell ⟨g, i * 3 + 1, none⟩ (.bool x.2.1)).setCell ⟨g, i * 3 + 2, none⟩ (.string x.2.2)).cell? ⟨b, j, none⟩ = w.cell? ⟨b, j, none⟩ := fun b j hn => by
    have q : ∀ k : Nat, (⟨g, k, none⟩ : Addr) ≠ ⟨b, j, none⟩ := fun k e => hn (congrArg Addr.block e)
    rw [World.cell?_setCell_other _ _ _ _ (q _), World.cell?_setCell_other _ _ _ _ (q _), World.cell?_setCell_other _ _ _ _ (q _)]
  have far : ∀ (j : Nat), j ≠ i * 3 → j ≠ i * 3 + 1 → j ≠ i * 3 + 2 → (((w.setCell ⟨g, i * 3, none⟩ (.string x.1)).setCell ⟨g, i * 3 + 1, none⟩ (.bool x.2.1)).setCell ⟨g, i * 3 + 2, none⟩ (.string x.2.2)).cell? ⟨g, j, none⟩ = w.cell? ⟨g, j, none⟩ := fun j h0 h1 h2 => by
    have q : ∀ k : Nat, j ≠ k → (⟨g, k, none⟩ : Addr) ≠ ⟨g, j, none⟩ := fun k hk e => hk (congrArg Addr.off e).symm
    rw [World.cell?_setCell_other _ _ _ _ (q _ h2), World.cell?_setCell_other _ _ _ _ (q _ h1), World.cell?_setCell_other _ _ _ _ (q _ h0)]
  have hil : i < ws.length := by omega
  obtain ⟨z, hz⟩ : ∃ z, (ws ++ Room.marks 40)[i]? = some z := ⟨_, List.getElem?_eq_getElem (by simp; omega)⟩
  obtain ⟨z0, z1, z2⟩ := hr.2 i z hz
  simp only [Nat.zero_add] at z0 z1 z2
  have q : ∀ a b : Nat, a ≠ b → (⟨g, a, none⟩ : Addr) ≠ ⟨g, b, none⟩ := fun a b hk e => hk (congrArg Addr.off e)
  refine ⟨⟨ws.set i x, by simp [hw], g2, c2, g3, c3, c, ⟨l0.1, l0.2.1, l0.2.2.1, fun j => ?_⟩, by simpa using l1, by simpa using l2, by simpa using l3, by rw [oth _ _ nR]; exact e1, by rw [oth _ _ nR]; exact e2, by rw [oth _ _ n2, List.length_set]; exact e3, by rw [oth _ _ n3, List.length_set]; exact e4, by simpa using hr.1, fun k v hv => ?_⟩, fun j hj hn => by rw [oth _ _ nR]; exact hc j hj hn⟩
  · rw [World.frozen?_setCell, World.frozen?_setCell, World.frozen?_setCell]; exact l0.2.2.2 j
  · simp only [Nat.zero_add]
    by_cases hk : k = i
    · subst hk
      have : v = x := by
        rw [List.getElem?_append_left (by simpa using hil), List.getElem?_set_self hil] at hv
        exact (Option.some.inj hv).symm
      subst this
      refine ⟨?_, ?_, ?_⟩
      · rw [World.cell?_setCell_other _ _ _ _ (q _ _ (by omega)), World.cell?_setCell_other _ _ _ _ (q _ _ (by omega)), World.cell?_setCell_same _ _ _ z0]
      · rw [World.cell?_setCell_other _ _ _ _ (q _ _ (by omega)), World.cell?_setCell_same _ _ _ ((World.cell?_setCell_other _ _ _ _ (q _ _ (by omega))).trans z1)]
      · rw [World.cell?_setCell_same _ _ _ (((World.cell?_setCell_other _ _ _ _ (q _ _ (by omega))).trans (World.cell?_setCell_other _ _ _ _ (q _ _ (by omega)))).trans z2)]
    · have hv' : (ws ++ Room.marks 40)[k]? = some v := by
        rw [← hv]
        rcases Nat.lt_or_ge k ws.length with h | h
        · rw [List.getElem?_append_left h, List.getElem?_append_left (by simpa using h), List.getElem?_set_ne (fun e => hk e.symm)]
        · rw [List.getElem?_append_right h, List.getElem?_append_right (by simpa using h), List.length_set]
      obtain ⟨v0, v1, v2⟩ := hr.2 k v hv'
      simp only [Nat.zero_add] at v0 v1 v2
      exact ⟨by rw [far _ (by omega) (by omega) (by omega)]; exact v0, by rw [far _ (by omega) (by omega) (by omega)]; exact v1, by rw [far _ (by omega) (by omega) (by omega)]; exact v2⟩
theorem Rz.cells {w : World} {R g n i : Nat} (h : Rz w R g n) (hi : i < n) : ∃ x : Wr, w.cell? ⟨g, i * 3, none⟩ = some (.string x.1) ∧ w.cell? ⟨g, i * 3 + 1, none⟩ = some (.bool x.2.1) ∧ w.cell? ⟨g, i * 3 + 2, none⟩ = some (.string x.2.2) ∧ ∀ j, w.frozen? ⟨g, j, none⟩ = false := by
  obtain ⟨⟨ws, hw, g2, c2, g3, c3, c, l0, l1, l2, l3, e1, e2, e3, e4, hr⟩, hc⟩ := h
  obtain ⟨z, hz⟩ : ∃ z, (ws ++ Room.marks 40)[i]? = some z := ⟨_, List.getElem?_eq_getElem (by simp; omega)⟩
  obtain ⟨z0, z1, z2⟩ := hr.2 i z hz
  simp only [Nat.zero_add] at z0 z1 z2
  exact ⟨z, z0, z1, z2, l0.2.2.2⟩
theorem Rz.hold {w : World} {R g n : Nat} (h : Rz w R g n) (hn : n ≤ 100000) : Calls Try.prog 17 #[.pointer (some ⟨R, 0, none⟩)] w fun e w' => e = .returned (.bool true) ∧ Below w.heap.size w w' := by
  obtain ⟨⟨ws, hw, hr⟩, hc⟩ := h
  exact Room.hold_any R g ws 40 w hr (by omega) (by omega) hc
/-- where adds stands behind the calls -/
structure Ad (t u : Nat) (T : Nat → Nat) (w : World) (M L Q R : Nat) (ds : List Nat) (ns : List Nd) (R0 g n : Nat) (T' : Nat → Nat) (ns' : List Nd) (hs' : List Int) (bs' : List Nat) (fz' : Bool) (W : World) : Prop where
  pm : Pm t u T' W M L Q R ds ns' hs' bs' fz'
  go : Goes (uP t u) T w T' W
  len : ns'.length ≤ ns.length + 16
  rz : Rz W R0 g n
  tg : T' g = 0
  low : w.heap.size ≤ g
theorem Ad.set {t u : Nat} {T : Nat → Nat} {w : World} {M L Q R : Nat} {ds : List Nat} {ns : List Nd} {R0 g n : Nat} {T' : Nat → Nat} {ns' : List Nd} {hs' : List Int} {bs' : List Nat} {fz' : Bool} {W : World} (h : Ad t u T w M L Q R ds ns R0 g n T' ns' hs' bs' fz' W) (ht : 0 < t) (hu : 0 < u) {i : Nat} (hi : i < n) (x : Wr) : Ad t u T w M L Q R ds ns R0 g n T' ns' hs' bs' fz' (((W.setCell ⟨g, i * 3, none⟩ (.string x.1)).setCell ⟨g, i * 3 + 1, none⟩ (.bool x.2.1)).setCell ⟨g, i * 3 + 2, none⟩ (.string x.2.2)) := by
  have hg : Goes (· = 0) T' W T' (((W.setCell ⟨g, i * 3, none⟩ (.string x.1)).setCell ⟨g, i * 3 + 1, none⟩ (.bool x.2.1)).setCell ⟨g, i * 3 + 2, none⟩ (.string x.2.2)) := ((Goes.setCell (t := (· = 0)) h.tg).trans (Goes.setCell (t := (· = 0)) h.tg)).trans (Goes.setCell (t := (· = 0)) h.tg)
  refine ⟨h.pm.goes hg (by omega) (by omega) (by omega) (by omega), ⟨h.go.os, h.go.tape, h.go.output, by simpa using h.go.size, fun b hb hn => ?_, h.go.tag, fun b hb h0 => h.go.high b (by simpa using hb) h0⟩, h.len, h.rz.set hi x, h.tg, h.low⟩
  rw [← h.go.block b hb hn]
  have q : b ≠ g := by have := h.low; omega
  rw [Below.heap_setCell _ _ _ _ (by exact q), Below.heap_setCell _ _ _ _ (by exact q), Below.heap_setCell _ _ _ _ (by exact q)]
theorem Ad.below {t u : Nat} {T : Nat → Nat} {w : World} {M L Q R : Nat} {ds : List Nat} {ns : List Nd} {R0 g n : Nat} {T' : Nat → Nat} {ns' : List Nd} {hs' : List Int} {bs' : List Nat} {fz' : Bool} {W W' : World} (h : Ad t u T w M L Q R ds ns R0 g n T' ns' hs' bs' fz' W) (hb : Below W.heap.size W W') : Ad t u T w M L Q R ds ns R0 g n T' ns' hs' bs' fz' W' :=
  ⟨h.pm.below hb, h.go.trans (Goes.below hb), h.len, h.rz.blocks hb.size (fun b _ hlt => hb.block b hlt), h.tg, h.low⟩
theorem Ad.ans {t u : Nat} {T : Nat → Nat} {w : World} {M L Q R : Nat} {ds : List Nat} {ns : List Nd} {R0 g n : Nat} {T' : Nat → Nat} {ns' : List Nd} {hs' : List Int} {bs' : List Nat} {fz' : Bool} {W : World} (h : Ad t u T w M L Q R ds ns R0 g n T' ns' hs' bs' fz' W) : PmAns t u T w M L Q R ds ns W := ⟨T', ns', hs', bs', fz', h.pm, h.go, h.len⟩
end Mem
end Go.Proofs.Ytcioaoanhmpdkaa
namespace Go.Proofs.Ytcioaoanhmpdkaa
namespace Mem
open Go.RowKit Laws Irw Erw KMath Skm Byt Sk Grp Crw Chk Mq
set_option linter.unusedVariables false
set_option maxRecDepth 100000
set_option linter.unusedSimpArgs false
theorem isWr_goes {v : Nat → Prop} {T T' : Nat → Nat} {w w' : World} {a : Option Addr} {ws : List Wr} (h : IsWr w a ws) (hg : Goes v T w T' w') (hv : ¬ v 0) (h0 : ∀ b off, ws ≠ [] → a = some ⟨b, off, none⟩ → T b = 0) : IsWr w' a ws :=
  by
  by_cases hne : ws = []
  · subst hne
    exact ⟨fun h => absurd rfl h, h.2⟩
  · exact IsWr.keepB h (fun b off e hlt => hg.block b hlt (by rw [h0 b off hne e]; exact hv)) hg.size
/-- behind the two calls -/
theorem ad_first {t u : Nat} (ht : 0 < t) (hu : 0 < u) {T : Nat → Nat} {w W1 w3 w6 : World} {M L Q R : Nat} {ds : List Nat} {ns : List Nd} {R0 g n : Nat} (hb1 : Below w.heap.size w W1) (hb3 : Below W1.heap.size W1 w3) (hz : ∀ b, w.heap.size ≤ b → T b = 0) (hR0 : W1.heap.size = R0) (hrz : Rz w3 R0 g n) (hgR : R0 < g) (hg3 : g < w3.heap.size) (h6 : PmAns t u T w3 M L Q R ds ns w6) : ∃ T' ns' hs' bs' fz', Ad t u T w M L Q R ds ns R0 g n T' ns' hs' bs' fz' w6 := by
  obtain ⟨T', ns', hs', bs', fz', hp, hg, hl⟩ := h6
  have n0 : ¬ uP t u 0 := by unfold uP; omega
  have s1 := hb1.size
  have s3 := hb3.size
  refine ⟨T', ns', hs', bs', fz', hp, ((Goes.below hb1).trans (Goes.below hb3)).trans hg, hl, hrz.blocks hg.size (fun b hb hlt => hg.block b hlt (by rw [hz b (by omega)]; exact n0)), ?_, by omega⟩
  rw [hg.tag g hg3 (by rw [hz g (by omega)]; exact n0)]
  exact hz g (by omega)
set_option maxHeartbeats 8000000 in
theorem adds_any (t u : Nat) (ht : 0 < t) (hu : 0 < u) (htu : t ≠ u ∧ t + 1 ≠ u ∧ t + 2 ≠ u) (T : Nat → Nat) (w : World) (M L Q R : Nat) (ds : List Nat) (ns : List Nd) (hs : List Int) (bs : List Nat) (fz : Bool) (h : Pm t u T w M L Q R ds ns hs bs fz) (hz : ∀ b, w.heap.size ≤ b → T b = 0) (hd47 : ds.length ≤ 140737488355328) (hn : ns.length ≤ 100000000)
    (kind : Int) (sec : Bool) (xs : Int) (hxs : 0 ≤ xs ∧ xs ≤ 18446744073709551615) (xk : ByteArray) (a : Option Addr) (n c : Nat) (ws : List Wr) (hw : IsWr w a ws) (hwn : ws.length = n) (hwc : a = none → c = 0) (hwl : n ≤ 100000) (hwz : ∀ b off, ws ≠ [] → a = some ⟨b, off, none⟩ → T b = 0) (nn : Int) :
    Calls Try.prog 44 #[.agg #[.pointer (some ⟨M, 0, none⟩), .pointer (some ⟨Q, 0, none⟩)], .agg #[.int .i64 kind, .bool sec, .int .u64 xs, .string xk, .slice a n c, .int .i64 nn]] w fun e w' => e = .returned (.bool true) ∧ PmAns t u T w M L Q R ds ns w' := by
  have HP : Hid (Pm t u T w M L Q R ds ns hs bs fz) := h
  have HZ : Hid (∀ b, w.heap.size ≤ b → T b = 0) := hz
  have HWR : Hid (IsWr w a ws ∧ ws.length = n ∧ (a = none → c = 0) ∧ n ≤ 100000 ∧ ∀ b off, ws ≠ [] → a = some ⟨b, off, none⟩ → T b = 0) := ⟨hw, hwn, hwc, hwl, hwz⟩
  have HLN : Hid (ds.length ≤ 140737488355328 ∧ ns.length ≤ 100000000 ∧ (0 ≤ xs ∧ xs ≤ 18446744073709551615)) := ⟨hd47, hn, hxs⟩
  have HTU : Hid (t ≠ u ∧ t + 1 ≠ u ∧ t + 2 ≠ u) := htu
  have hb1 : Below w.heap.size w ((w.alloc (.cells #[.pointer (some ⟨M, 0, none⟩), .pointer (some ⟨Q, 0, none⟩)] 49)).alloc (.cells #[.int .i64 kind, .bool sec, .int .u64 xs, .string xk, .slice a n c, .int .i64 nn] 54)) := ((Below.refl _ _).alloc (Nat.le_refl _) _).alloc (by simp) _
  have g1 : ((w.alloc (.cells #[.pointer (some ⟨M, 0, none⟩), .pointer (some ⟨Q, 0, none⟩)] 49)).alloc (.cells #[.int .i64 kind, .bool sec, .int .u64 xs, .string xk, .slice a n c, .int .i64 nn] 54)).heap[w.heap.size]? = some (.cells #[.pointer (some ⟨M, 0, none⟩), .pointer (some ⟨Q, 0, none⟩)] 49) := by
    rw [Below.heap_alloc _ _ _ (by simp)]; exact World.alloc_heap_new _ _
  have g2 : ((w.alloc (.cells #[.pointer (some ⟨M, 0, none⟩), .pointer (some ⟨Q, 0, none⟩)] 49)).alloc (.cells #[.int .i64 kind, .bool sec, .int .u64 xs, .string xk, .slice a n c, .int .i64 nn] 54)).heap[w.heap.size + 1]? = some (.cells #[.int .i64 kind, .bool sec, .int .u64 xs, .string xk, .slice a n c, .int .i64 nn] 54) := by
    have := World.alloc_heap_new (w.alloc (.cells #[.pointer (some ⟨M, 0, none⟩), .pointer (some ⟨Q, 0, none⟩)] 49)) (.cells #[.int .i64 kind, .bool sec, .int .u64 xs, .string xk, .slice a n c, .int .i64 nn] 54)
    rwa [World.size_alloc] at this
  have hs1 : ((w.alloc (.cells #[.pointer (some ⟨M, 0, none⟩), .pointer (some ⟨Q, 0, none⟩)] 49)).alloc (.cells #[.int .i64 kind, .bool sec, .int .u64 xs, .string xk, .slice a n c, .int .i64 nn] 54)).heap.size = w.heap.size + 2 := by simp
  clear h hz hw hwn hwc hwl hwz hd47 hn hxs htu
  go_enter Try.func44, Try.ntmps44
  go_upto_region 1 with (fail)
  generalize (w.alloc (.cells #[.pointer (some ⟨M, 0, none⟩), .pointer (some ⟨Q, 0, none⟩)] 49)).alloc (.cells #[.int .i64 kind, .bool sec, .int .u64 xs, .string xk, .slice a n c, .int .i64 nn] 54) = W1 at *
  have HBX : Hid (∀ W : World, (∀ b, w.heap.size ≤ b → b < w.heap.size + 2 → W.heap[b]? = W1.heap[b]?) → W.cell? ⟨w.heap.size, 0, none⟩ = some (.pointer (some ⟨M, 0, none⟩)) ∧ W.cell? ⟨w.heap.size, 1, none⟩ = some (.pointer (some ⟨Q, 0, none⟩)) ∧ W.cell? ⟨w.heap.size + 1, 2, none⟩ = some (.int .u64 xs) ∧ W.cell? ⟨w.heap.size + 1, 4, none⟩ = some (.slice a n c)) := fun W hW => by
    have k1 := (hW _ (by omega) (by omega)).trans g1
    have k2 := (hW _ (by omega) (by omega)).trans g2
    exact ⟨by rw [cell_of_obj k1]; rfl, by rw [cell_of_obj k1]; rfl, by rw [cell_of_obj k2]; rfl, by rw [cell_of_obj k2]; rfl⟩
  have HB1 : Hid (Below w.heap.size w W1 ∧ W1.heap.size = w.heap.size + 2) := ⟨hb1, hs1⟩
  have HBU : Hid (∀ W, Below W1.heap.size W1 W → ∀ b, w.heap.size ≤ b → b < w.heap.size + 2 → W.heap[b]? = W1.heap[b]?) := fun W hW b h1 h2 => hW.block b (by omega)
  have hb2 : Below W1.heap.size W1 (W1.alloc (.cells #[.slice none 0 0, .slice none 0 0, .slice none 0 0, .slice none 0 0, .slice none 0 0, .slice none 0 0, .slice none 0 0, .slice none 0 0, .slice none 0 0, .slice none 0 0, .slice none 0 0, .slice none 0 0, .slice none 0 0, .slice none 0 0, .slice none 0 0, .slice none 0 0, .slice none 0 0, .slice none 0 0, .slice none 0 0, .slice none 0 0, .slice none 0 0, .slice none 0 0, .slice none 0 0, .slice none 0 0, .slice none 0 0, .slice none 0 0, .slice none 0 0, .slice none 0 0] 42)) := (Below.refl _ _).alloc (Nat.le_refl _) _
  obtain ⟨_, _, _, y4⟩ := HBX.out _ (HBU.out _ hb2)
  have HWF : Hid _ := Room.writes_fresh a c ws W1 (HWR.out.1.below hb1) HWR.out.2.2.1 (by rw [HWR.out.2.1]; exact HWR.out.2.2.2.1)
  rw [HWR.out.2.1] at HWF
  clear hb1 g1 g2 hs1 hb2
  go_wp2_with fail
  refine Calls.mono HWF.out ?_
  rintro e w3 ⟨g, rfl, hroom, hcs, hb3, hig, hia⟩
  clear HWF y4
  obtain ⟨y0, y1, y2, y4⟩ := HBX.out w3 (HBU.out _ hb3)
  have HR0 : Hid (Rz w3 W1.heap.size g n ∧ Below W1.heap.size W1 w3 ∧ IsWr w3 (some ⟨g, 0, none⟩) ws ∧ W1.heap.size < g ∧ g < w3.heap.size) := ⟨⟨⟨ws, HWR.out.2.1, hroom⟩, hcs⟩, hb3, hig, by obtain ⟨_, _, _, _, _, l0, _⟩ := hroom; exact l0.2.2.1, by obtain ⟨_, _, _, _, _, _, _, _, _, _, _, _, _, hr⟩ := hroom; exact hr.1⟩
  clear hroom hcs hb3 hig hia
  have hP3 : Pm t u T w3 M L Q R ds ns hs bs fz := (HP.out.below HB1.out.1).below HR0.out.2.1
  have HP3 : Hid (Pm t u T w3.drew M L Q R ds ns hs bs fz) := hP3.below (Below.refl _ _).drew
  have HZ3 : Hid (∀ b, w3.drew.heap.size ≤ b → T b = 0) := fun b hb => HZ.out b (by have h1 := HR0.out.2.1.size; have h2 := HB1.out.1.size; have h3 : w3.heap.size ≤ b := hb; omega)
  have HW3 : Hid (IsWr w3.drew a ws) := ((HWR.out.1.below HB1.out.1).below HR0.out.2.1).below (Below.refl _ _).drew
  obtain ⟨E, hE⟩ : ∃ E, addE fz ws = E := ⟨_, rfl⟩
  have HADD : Hid (Calls Try.prog 22 #[.pointer (some ⟨M, 0, none⟩), .int .u64 xs, .slice (some ⟨g, 0, none⟩) n (n + 40)] w3.drew fun r w' => r = .returned (.int .i64 E) ∧ AddAns t T w3.drew M L ds ns fz xs ws w') := by
    have := add_any t T w3.drew M L ds ns fz HP3.out.mt ht HLN.out.1 HLN.out.2.1 HZ3.out xs (some ⟨g, 0, none⟩) (n + 40) n ws (HR0.out.2.2.1.below (Below.refl _ _).drew) HWR.out.2.1
    rw [hE] at this
    exact this
  have HRAD : Hid (∀ w5, AddAns t T w3.drew M L ds ns fz xs ws w5 → Calls Try.prog 78 #[.pointer (some ⟨Q, 0, none⟩), .int .u64 xs, .slice a n c] w5 fun r w' => r = .returned (.int .i64 E) ∧ PmAns t u T w3.drew M L Q R ds ns w') := fun w5 h5 => by
    have hw5 : IsWr w5 a ws := by
      obtain ⟨T5, ns5, k1, k2, k3⟩ := h5
      exact isWr_goes HW3.out k2 (uM0 ht) HWR.out.2.2.2.2
    have := refAdd6 (add_rt HP3.out HTU.out h5) (by have := HLN.out.2.1; simp; omega) xs HLN.out.2.2 a c ws hw5 HWR.out.2.1 (fun b off hne e eb => by
      have h1 := HWR.out.2.2.2.2 b off hne e
      rw [eb, HP3.out.tR] at h1
      omega)
    rw [hE] at this
    exact this.mono fun r w' ⟨h1, h2⟩ => ⟨h1, both_add HP3.out HTU.out h5 h2⟩
  have HBW : Hid (∀ w5, AddAns t T w3.drew M L ds ns fz xs ws w5 → ∀ b, w.heap.size ≤ b → b < w.heap.size + 2 → w5.heap[b]? = W1.heap[b]?) := fun w5 h5 b h1 h2 => by
    obtain ⟨T5, ns5, k1, k2, k3⟩ := h5
    have hlt : b < W1.heap.size := by rw [HB1.out.2]; exact h2
    have hs3 := HR0.out.2.1.size
    exact (k2.block b (by show b < w3.heap.size; omega) (by rw [HZ.out b h1]; exact uM0 ht)).trans (HR0.out.2.1.block b hlt)
  have HBW6 : Hid (∀ w6, PmAns t u T w3.drew M L Q R ds ns w6 → (∀ b, w.heap.size ≤ b → b < w.heap.size + 2 → w6.heap[b]? = W1.heap[b]?) ∧ IsWr w6 a ws ∧ IsWr w6 (some ⟨g, 0, none⟩) ws) := fun w6 h6 => by
    obtain ⟨T5, ns5, hs5, bs5, fz5, k1, k2, k3⟩ := h6
    have n0 : ¬ uP t u 0 := by unfold uP; omega
    have hs3 := HR0.out.2.1.size
    refine ⟨fun b h1 h2 => ?_, isWr_goes HW3.out k2 n0 HWR.out.2.2.2.2, isWr_goes (HR0.out.2.2.1.below (Below.refl _ _).drew) k2 n0 (fun b off _ e => ?_)⟩
    · have hlt : b < W1.heap.size := by rw [HB1.out.2]; exact h2
      exact (k2.block b (by show b < w3.heap.size; omega) (by rw [HZ.out b h1]; exact n0)).trans (HR0.out.2.1.block b hlt)
    · cases e
      exact HZ.out g (by have h1 := HR0.out.2.2.2.1; have h2 := HB1.out.1.size; omega)
  have HSW : Hid (∀ w6, PmAns t u T w3.drew M L Q R ds ns w6 → Calls Try.prog 79 #[.slice (some ⟨g, 0, none⟩) n (n + 40), .slice a n c] w6 fun e w' => e = .returned (.bool true) ∧ (∀ b, w.heap.size ≤ b → b < w.heap.size + 2 → w'.heap[b]? = W1.heap[b]?) ∧ ∃ T' ns' hs' bs' fz', Ad t u T w M L Q R ds ns W1.heap.size g n T' ns' hs' bs' fz' w') := fun w6 h6 => by
    obtain ⟨hbx, hwa, hwg⟩ := HBW6.out w6 h6
    have := Sam6.sameWrites_any (some ⟨g, 0, none⟩) a (n + 40) c ws w6 hwg hwa
    rw [HWR.out.2.1] at this
    refine this.mono fun e w' ⟨he, m, hm⟩ => ⟨he, by rw [hm]; exact hbx, ?_⟩
    obtain ⟨T', ns', hs', bs', fz', had⟩ := ad_first ht hu HB1.out.1 (HR0.out.2.1.trans ((Below.refl _ _).drew.mono HR0.out.2.1.size)) HZ.out rfl (HR0.out.1.blocks (Nat.le_refl _) (fun _ _ _ => rfl)) HR0.out.2.2.2.1 HR0.out.2.2.2.2 h6
    exact ⟨T', ns', hs', bs', fz', by rw [hm]; exact had.below (below_drewN (Below.refl _ _) _)⟩
  clear hP3 hE
  generalize hR0 : W1.heap.size = R0 at *
  have hS3 : w3.drew.cell? ⟨w.heap.size, 0, none⟩ = some (.pointer (some ⟨M, 0, none⟩)) ∧ w3.drew.cell? ⟨w.heap.size, 1, none⟩ = some (.pointer (some ⟨Q, 0, none⟩)) ∧ w3.drew.cell? ⟨w.heap.size + 1, 2, none⟩ = some (.int .u64 xs) ∧ w3.drew.cell? ⟨w.heap.size + 1, 4, none⟩ = some (.slice a n c) := ⟨y0, y1, y2, y4⟩
  clear HP HZ HP3 HZ3 HW3 HB1 HBU HR0 HLN HTU
  have hee : (E != E) = false := by simp
  go_wp2
  go_region_held3 (fun W => W.cell? ⟨w.heap.size, 0, none⟩ = some (.pointer (some ⟨M, 0, none⟩)) ∧ W.cell? ⟨w.heap.size, 1, none⟩ = some (.pointer (some ⟨Q, 0, none⟩)) ∧ W.cell? ⟨w.heap.size + 1, 2, none⟩ = some (.int .u64 xs) ∧ W.cell? ⟨w.heap.size + 1, 4, none⟩ = some (.slice a n c)) (first | assumption | exact hS3)
    (first
    | (go_at_call 22; go_loud (refine HADD.out.mono ?_; rintro r w5 ⟨rfl, h5⟩; have HPA := HID5 h5; have hS5 := HBX.out w5 (HBW.out w5 h5); clear h5))
    | (go_at_call 78; go_loud (refine (HRAD.out w5 HPA.out).mono ?_; rintro r w6 ⟨rfl, h6⟩; have HPB := HID5 h6; have hS6 := HBX.out w6 (HBW6.out w6 h6).1; clear h6))
    | (go_at_call 79; go_loud (refine (HSW.out w6 HPB.out).mono ?_; rintro r w7 ⟨rfl, hx7, T7, ns7, hs7, bs7, fz7, h7⟩; have HAD := HID5 h7; have hS7 := HBX.out w7 hx7; clear h7 hx7)))
  all_goals (
    clear hS3 hS7 y0 y1 y2 y4 HADD HRAD HBW HBW6 HSW HPA HPB HBX
    have HN9 : Hid (n ≤ 100000 ∧ 0 < t ∧ 0 < u) := ⟨HWR.out.2.2.2.1, ht, hu⟩
    have zn : (n : Int) ≤ 100000 := by have := HN9.out.1; omega
    go_wp2
    go_loopw [7] (fun i wr => ∃ q : Nat, q ≤ n ∧ i = .int .i64 (q : Int) ∧ Hid (Ad t u T w M L Q R ds ns R0 g n T7 ns7 hs7 bs7 fz7 wr)) (fun i _ => n - (intOf i).toNat)
    case atStart => exact ⟨0, Nat.zero_le _, rfl, HAD⟩
    case round =>
      clear HAD
      obtain ⟨q, hq, rfl, HAD⟩ := hrel
      rename World => wa
      by_cases hlq : q < n
      · have zq : (q : Int) < (n : Int) := by omega
        obtain ⟨x, x0, x1, x2, xf⟩ := HAD.out.rz.cells hlq
        have f0 := xf (q * 3)
        have f1 := xf (q * 3 + 1)
        have f2 := xf (q * 3 + 2)
        have HST := HID5 (HAD.out.set HN9.out.2.1 HN9.out.2.2 hlq (⟨#[115, 112, 111, 105, 108, 116]⟩, false, ⟨#[115, 112, 111, 105, 108, 116]⟩))
        clear xf
        go_wp2
        go_roundw
        case rel => exact ⟨q + 1, by omega, by go_num, HST⟩
        case measure => simp [intOf]; omega
      · have HHO := HID5 (HAD.out.rz.hold HN9.out.1)
        go_wp2_with fail
        refine Calls.mono HHO.out ?_
        rintro e w8 ⟨rfl, hb8⟩
        have HF : Hid (PmAns t u T w M L Q R ds ns w8) := (HAD.out.below hb8).ans
        clear hb8
        go_wp2
        go_ret
        exact ⟨rfl, HF.out⟩)
end Mem
end Go.Proofs.Ytcioaoanhmpdkaa
