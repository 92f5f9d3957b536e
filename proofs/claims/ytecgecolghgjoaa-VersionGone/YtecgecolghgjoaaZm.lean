import Derived.Test.YtecgecolghgjoaaZl
namespace Go.Proofs.Ytecgecolghgjoaa
namespace Vr
open Go.Shelf Go.RowKit Go.Lib Go.Sort Go.Maps Go.ChangeMaps Go.MapKept Laws Irw Crw
set_option linter.unusedVariables false
set_option linter.unusedSimpArgs false
set_option maxRecDepth 20000
/-- once more, once less -/
def more (d : Int) (p : Pn) : Pn := ⟨p.vb, p.ti + d, p.V⟩
/-- what Pin makes of the pins -/
def pinL (vb : Nat) (V : Lv) (P : List Pn) : List Pn := match P.findIdx? (isV (some ⟨vb, 0, none⟩)) with
  | some i => P.modify i (more 1)
  | none => P ++ [⟨vb, 1, V⟩]
theorem idp_some {pv : Option Addr} {P : List Pn} {i : Nat} (h : P.findIdx? (isV pv) = some i) : idp pv P = i ∧ i < P.length ∧ ∃ p, P[i]? = some p ∧ pv = some ⟨p.vb, 0, none⟩ := by
  obtain ⟨hi, h1, h2⟩ := List.findIdx?_eq_some_iff_getElem.1 h
  refine ⟨by unfold idp; rw [h], hi, P[i], List.getElem?_eq_getElem hi, ?_⟩
  simp only [isV, decide_eq_true_eq] at h1
  exact h1.symm
theorem idp_none {pv : Option Addr} {P : List Pn} (h : P.findIdx? (isV pv) = none) : idp pv P = -1 := by unfold idp; rw [h]
theorem modify_at {P : List Pn} {i : Nat} {p : Pn} (h : P[i]? = some p) (d : Int) : P.modify i (more d) = P.set i (more d p) := by
  obtain ⟨h1, h2⟩ := List.getElem?_eq_some_iff.1 h
  apply List.ext_getElem?
  intro j
  rw [List.getElem?_modify, List.getElem?_set]
  by_cases e : i = j
  · subst e
    simp [h, h1]
    rw [h2]
  · simp [e]
theorem mem_modify {P : List Pn} {i : Nat} {d : Int} {q : Pn} (h : q ∈ P.modify i (more d)) : ∃ p ∈ P, q.vb = p.vb ∧ q.V = p.V := by
  obtain ⟨j, hj, rfl⟩ := List.getElem_of_mem h
  rw [List.getElem_modify]
  have hj' : j < P.length := by simpa using hj
  split
  · exact ⟨P[j], List.getElem_mem hj', rfl, rfl⟩
  · exact ⟨P[j], List.getElem_mem hj', rfl, rfl⟩
def PnIs (T : Nat → Nat) (w : World) (sb vb mb : Nat) (V : Lv) (P : List Pn) (e : Ending) (w' : World) : Prop :=
  e = .returned (.pointer (some ⟨vb, 0, none⟩)) ∧ ∃ T', PAt T' w' sb vb mb V (pinL vb V P) ∧ Goes (fun t => t = 1 ∨ t = 6) T w T' w'
/-- one count is written -/
theorem own_count {T : Nat → Nat} {w : World} {G n c i : Nat} {P : List Pn} {p : Pn} (h : OwnK kPn 6 T w (.slice (some ⟨G, 0, none⟩) n c) P) (hn : n = P.length) (hp : P[i]? = some p) (d : Int) :
    OwnK kPn 6 T (w.setCell ⟨G, i * 2 + 1, none⟩ (.int .i64 (p.ti + d))) (.slice (some ⟨G, 0, none⟩) n c) (P.modify i (more d)) ∧ Goes (· = 6) T w T (w.setCell ⟨G, i * 2 + 1, none⟩ (.int .i64 (p.ti + d))) := by
  have hi := (List.getElem?_eq_some_iff.1 hp).1
  have h1 := ownK_set (K := kPn) h hn (m := i) (j := 1) (x := more d p) (u := .int .i64 (p.ti + d)) hi (by decide) (fun y hy => by rw [hp] at hy; cases hy; rfl)
  rw [modify_at hp]
  exact ⟨h1, Goes.setCell (t := (· = 6)) (h.2 G rfl)⟩
theorem own_some {T : Nat → Nat} {w : World} {pa : Option Addr} {c : Nat} {P : List Pn} (h : OwnK kPn 6 T w (.slice pa P.length c) P) (hl : 0 < P.length) : ∃ G, pa = some ⟨G, 0, none⟩ := by
  rcases h.1.2 with ⟨h1, h2⟩ | ⟨g, cap, cur, hv, _⟩
  · omega
  · cases hv; exact ⟨g, rfl⟩
theorem isK_newP (w : World) (vb : Nat) (V : Lv) (t : TypeId) : IsK kPn (w.alloc (.cells #[.pointer (some ⟨vb, 0, none⟩), .int .i64 1] t)) (some ⟨w.heap.size, 0, none⟩) [⟨vb, 1, V⟩] := by
  have h := Zb.new w #[.pointer (some ⟨vb, 0, none⟩), .int .i64 1] t
  refine IsK.of ⟨h.1, fun i e he j u hu => ?_⟩
  have hi : i = 0 := by
    have := (List.getElem?_eq_some_iff.1 he).1
    simp at this
    exact this
  subst hi
  simp at he
  subst he
  have := h.2.1 j u (by simpa [kPn, pnC] using hu)
  simpa using this
set_option maxHeartbeats 4000000 in
theorem pin_any {T : Nat → Nat} {w : World} {sb vb mb : Nat} {V : Lv} {P : List Pn} (h : PAt T w sb vb mb V P) (hp3 : P.length ≤ 300) (hti : ∀ p ∈ P, 0 ≤ p.ti ∧ p.ti ≤ 1000000) :
    Calls Try.prog 12 #[.pointer (some ⟨sb, 0, none⟩)] w fun e w' => PnIs T w sb vb mb V P e w' := by
  obtain ⟨⟨pa, pn, pc⟩, ps, hbox, hown⟩ := h.box
  have hpn := (OwnK.sk hown).1
  change pn = P.length at hpn
  subst hpn
  simp only [svV] at hown
  have c0 := hbox.2.1 0 _ rfl
  have HA : Hid (PAt T w sb vb mb V P ∧ Zb w sb [.pointer (some ⟨vb, 0, none⟩), svV (pa, P.length, pc), svV ps, .map (some mb)] ∧ OwnK kPn 6 T w (.slice pa P.length pc) P) := ⟨h, hbox, hown⟩
  have hF := find_any sb (some ⟨vb, 0, none⟩) _ _ _ (pa, P.length, pc) P w hbox (.inr ⟨vb, rfl, h.ver.blk⟩) (fun p hp => (h.pin p hp).blk) (Ls.own (s := (pa, P.length, pc)) hown) (by omega)
  cases hfi : P.findIdx? (isV (some ⟨vb, 0, none⟩)) with
  | some i =>
    obtain ⟨e1, hi, p, hp, hpv⟩ := idp_some hfi
    rw [e1] at hF
    have HF : Hid (Calls Try.prog 27 #[.pointer (some ⟨sb, 0, none⟩), .pointer (some ⟨vb, 0, none⟩)] w fun e w' => e = .returned (.int .i64 (i : Int)) ∧ RowKit.Below w.heap.size w w') := hF
    have HE : Hid (pinL vb V P = P.modify i (more 1)) := by unfold pinL; rw [hfi]; rfl
    have HP : Hid (P[i]? = some p) := hp
    have htp := hti p (List.mem_of_getElem? hp)
    obtain ⟨ht1, ht2⟩ := htp
    obtain ⟨G, rfl⟩ := own_some hown (by omega)
    clear hF hfi e1 hp hpv h hbox hown hti
    go_enter Try.func12, Try.ntmps12
    go_upto_region 3 with (go_at_call 27; go_loud (refine HF.out.mono ?_; rintro e w1 ⟨rfl, hb1⟩; have HB1 : Hid (RowKit.Below w.heap.size w w1) := hb1; clear hb1))
    have HO1 : Hid (OwnK kPn 6 T w1 (.slice (some ⟨G, 0, none⟩) P.length pc) P) := HA.out.2.2.below HB1.out
    have d1 := (HA.out.2.1.below HB1.out).2.1 1 _ rfl
    simp only [svV] at d1
    obtain ⟨b, off, e1, hb, p', hp', y0, y1⟩ := (Ls.own (s := (some ⟨G, 0, none⟩, P.length, pc)) HO1.out).pn hi
    rw [HP.out] at hp'
    cases hp'
    cases e1
    rw [Nat.zero_add] at y0 y1
    have f1 := World.ownsRow.frozenAt (show w1.ownsRow 0 kPn.ty kPn.size (.slice (some ⟨G, 0, none⟩) P.length pc) P.length (kPn.cells P) from HO1.out.1) (i * 2 + 1)
    have hoc := own_count HO1.out rfl HP.out 1
    obtain ⟨W2, hW2⟩ : ∃ W, w1.setCell ⟨G, i * 2 + 1, none⟩ (.int .i64 (p.ti + 1)) = W := ⟨_, rfl⟩
    rw [hW2] at hoc
    have HW2 : Hid (OwnK kPn 6 T W2 (.slice (some ⟨G, 0, none⟩) P.length pc) (P.modify i (more 1)) ∧ Goes (· = 6) T w T W2) := ⟨hoc.1, (Goes.below (t := (· = 6)) HB1.out).trans hoc.2⟩
    have HZ2 : Hid (Zb W2 sb [.pointer (some ⟨vb, 0, none⟩), svV (some ⟨G, 0, none⟩, P.length, pc), svV ps, .map (some mb)]) := HA.out.2.1.goes HW2.out.2 (by rw [HA.out.1.ts]; decide)
    have z0 := HZ2.out.2.1 0 _ rfl
    clear hoc c0
    go_wp2
    go_ret
    rw [show Value.pointer (some ⟨vb, 0, none⟩) = Value.pointer (some ⟨vb, 0, none⟩) from rfl]
    obtain ⟨m, D, hm⟩ := HA.out.1.map
    refine ⟨rfl, T, ?_, HW2.out.2.mono (fun _ h => .inr h)⟩
    rw [HE.out]
    exact ⟨HA.out.1.ts, HA.out.1.tm, ⟨_, _, HZ2.out, by simpa [svV] using HW2.out.1⟩, HA.out.1.ver.goes HW2.out.2 (by decide), fun q hq => by
      obtain ⟨p9, hp9, e8, e9⟩ := mem_modify hq
      rw [e8, e9]
      exact (HA.out.1.pin p9 hp9).goes HW2.out.2 (by decide), m, D, hm.block (HW2.out.2.block mb hm.lt (by rw [HA.out.1.tm]; decide))⟩
  | none =>
    rw [idp_none hfi] at hF
    have HF : Hid (Calls Try.prog 27 #[.pointer (some ⟨sb, 0, none⟩), .pointer (some ⟨vb, 0, none⟩)] w fun e w' => e = .returned (.int .i64 (-1)) ∧ RowKit.Below w.heap.size w w') := hF
    have HE : Hid (pinL vb V P = P ++ [⟨vb, 1, V⟩]) := by unfold pinL; rw [hfi]; rfl
    obtain ⟨iz, hiz, hz0, hz1, hz2⟩ := info_parts infoPn
    clear hF hfi h hbox hown hti
    go_enter Try.func12, Try.ntmps12
    go_upto_region 4 with (go_at_call 27; go_loud (refine HF.out.mono ?_; rintro e w1 ⟨rfl, hb1⟩; have HB1 : Hid (RowKit.Below w.heap.size w w1) := hb1; clear hb1))
    have HO1 : Hid (OwnK kPn 6 T w1 (.slice pa P.length pc) P ∧ Zb w1 sb [.pointer (some ⟨vb, 0, none⟩), svV (pa, P.length, pc), svV ps, .map (some mb)]) := ⟨HA.out.2.2.below HB1.out, HA.out.2.1.below HB1.out⟩
    have d0 := HO1.out.2.2.1 0 _ rfl
    have d1 := HO1.out.2.2.1 1 _ rfl
    simp only [svV] at d1
    have hsb : sb < w1.heap.size := HO1.out.2.1
    have hsb2 : ¬ sb = w1.heap.size := by omega
    clear c0
    go_region_law (first | (refine step_appK kPn _ (by rfl) (.tmp 27) (.tmp 33) 67 (by rfl) iz Try.underlying67 hiz hz0 hz1 hz2 6 T (.slice pa P.length pc) P (by rfl) ((HO1.out.1.below (Below.refl _ _).drew).below ((Below.refl _ _).alloc (Nat.le_refl _) _)) (some ⟨w1.heap.size, 0, none⟩) 1 1 [⟨vb, 1, V⟩] (by rfl) rfl (by simp) (isK_newP _ _ _ _) (by simp; omega) ?_; intro a' c' T3 w3 ho3 hg3; have HZ : Hid (OwnK kPn 6 T3 w3 (.slice a' (P.length + 1) c') (P ++ [⟨vb, 1, V⟩]) ∧ Goes (· = 6) T w1 T3 w3) := ⟨ho3, ((Goes.below (t := (· = 6)) (Below.refl _ _).drew).trans (Goes.below (t := (· = 6)) ((Below.refl _ _).alloc (Nat.le_refl _) _))).trans hg3⟩; have k1 := (HO1.out.2.goes HZ.out.2 (by rw [HA.out.1.ts]; decide)).2.1 1 _ rfl; have k2 := (HO1.out.2.goes HZ.out.2 (by rw [HA.out.1.ts]; decide)).2.2 1; simp only [svV] at k1; clear ho3 hg3; simp only [List.length_singleton]))
    all_goals
      have HT3 : Hid (T3 sb = 1 ∧ T3 mb = 2) := ⟨(HZ.out.2.tag sb hsb (by rw [HA.out.1.ts]; decide)).trans HA.out.1.ts, (HZ.out.2.tag mb (by
        obtain ⟨m, D, hm⟩ := HA.out.1.map
        exact Nat.lt_of_lt_of_le hm.lt HB1.out.size) (by rw [HA.out.1.tm]; decide)).trans HA.out.1.tm⟩
      have hgs : Goes (· = 1) T3 w3 T3 (w3.setCell ⟨sb, 1, none⟩ (.slice a' (P.length + 1) c')) := Goes.setCell (t := (· = 1)) HT3.out.1
      have HZ9 : Hid (Zb (w3.setCell ⟨sb, 1, none⟩ (.slice a' (P.length + 1) c')) sb [.pointer (some ⟨vb, 0, none⟩), svV (a', P.length + 1, c'), svV ps, .map (some mb)] ∧ Goes (· = 1) T3 w3 T3 (w3.setCell ⟨sb, 1, none⟩ (.slice a' (P.length + 1) c'))) := ⟨(HO1.out.2.goes HZ.out.2 (by rw [HA.out.1.ts]; decide)).set 1 _, hgs⟩
      obtain ⟨W9, hW9⟩ : ∃ W, w3.setCell ⟨sb, 1, none⟩ (.slice a' (P.length + 1) c') = W := ⟨_, rfl⟩
      rw [hW9] at HZ9
      rw [hW9]
      clear hW9 hgs k1 k2 d0 d1
      have z0 := HZ9.out.1.2.1 0 _ rfl
      go_wp2
      go_ret
      have hg9 : Goes (fun t => t = 1 ∨ t = 6) T w T3 W9 := ((Goes.below (t := fun t => t = 1 ∨ t = 6) HB1.out).trans (HZ.out.2.mono (fun _ h => .inr h))).trans (HZ9.out.2.mono (fun _ h => .inl h))
      obtain ⟨m, D, hm⟩ := HA.out.1.map
      refine ⟨rfl, T3, ?_, hg9⟩
      rw [HE.out]
      exact ⟨HT3.out.1, HT3.out.2, ⟨(a', P.length + 1, c'), ps, HZ9.out.1, HZ.out.1.goes HZ9.out.2 (by decide)⟩, HA.out.1.ver.goes hg9 (by decide), fun q hq => by
        rcases List.mem_append.1 hq with hq | hq
        · exact (HA.out.1.pin q hq).goes hg9 (by decide)
        · simp at hq
          subst hq
          exact HA.out.1.ver.goes hg9 (by decide), m, D, hm.block (hg9.block mb hm.lt (by rw [HA.out.1.tm]; decide))⟩
end Vr
end Go.Proofs.Ytecgecolghgjoaa
