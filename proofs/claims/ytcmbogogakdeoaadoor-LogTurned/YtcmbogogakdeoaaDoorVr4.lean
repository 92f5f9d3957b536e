import Derived.Test.YtcmbogogakdeoaaDoorVr3
import Derived.Test.YtcmbogogakdeoaaDoorCRw
namespace Go.Proofs.YtcmbogogakdeoaaDoor
namespace Lgr
open Go.RowKit CMath Byt Cod Lg Lga Laws Crw
set_option linter.unusedVariables false
set_option linter.unusedSimpArgs false
set_option maxRecDepth 20000

abbrev Sv := Option Addr × Nat × Nat
def kB : Knd Sv := ⟨23, 1, 24, .slice none 0 0, fun x => [.slice x.1 x.2.1 x.2.2], fun _ => rfl, fun x u hu => by simp at hu; subst hu; rfl, by omega, rfl, by omega⟩
theorem infoB : (Tryd.prog.info? 23).map (fun i => (i.zero, i.size, i.bytes)) = some (some kB.zero, 1, 24) := by kernel_rfl
theorem undC : Tryd.prog.underlying 22 = some (.slice 23) := by kernel_rfl
/-- lists of bytes: what a slice of slices holds -/
def IsC (w : World) (a : Option Addr) (rs : List (List Nat)) : Prop :=
  ∃ vs : List Sv, vs.length = rs.length ∧ IsK kB w a vs ∧ ∀ (i : Nat) v r, vs[i]? = some v → rs[i]? = some r → v.2.1 = r.length ∧ IsB w v.1 r ∧ (v.1 = none → v.2.2 = 0) ∧ r.length ≤ v.2.2 ∧ v.2.2 ≤ 9223372036854775807 ∧ ((v.1 = none ∧ r = []) ∨ ∃ b off, v.1 = some ⟨b, off, none⟩ ∧ b < w.heap.size)
theorem IsC.below {w w' : World} {a : Option Addr} {rs : List (List Nat)} (h : IsC w a rs) (hb : Below w.heap.size w w') : IsC w' a rs := by
  obtain ⟨vs, h1, h2, h3⟩ := h
  refine ⟨vs, h1, h2.below hb, fun i v r hv hw => ?_⟩
  obtain ⟨a1, a2, a3, a4, a5, a6⟩ := h3 i v r hv hw
  refine ⟨a1, a2.below hb, a3, a4, a5, ?_⟩
  rcases a6 with h | ⟨b, off, e, hlt⟩
  · exact .inl h
  · exact .inr ⟨b, off, e, Nat.lt_of_lt_of_le hlt hb.size⟩
theorem IsC.rd {w : World} {a : Option Addr} {rs : List (List Nat)} (h : IsC w a rs) {k : Nat} (hk : k < rs.length) : ∃ b off ad c, a = some ⟨b, off, none⟩ ∧ b < w.heap.size ∧ w.cell? ⟨b, off + k, none⟩ = some (.slice ad (rs.getD k []).length c) ∧ IsB w ad (rs.getD k []) ∧ (ad = none → c = 0) ∧ (rs.getD k []).length ≤ c ∧ c ≤ 9223372036854775807 ∧ ((ad = none ∧ rs.getD k [] = []) ∨ ∃ b off, ad = some ⟨b, off, none⟩ ∧ b < w.heap.size) := by
  obtain ⟨vs, h1, h2, h3⟩ := h
  obtain ⟨b, off, e, hr⟩ := h2.at_ (by omega)
  have hkv : k < vs.length := by omega
  have hv : vs[k]? = some vs[k] := List.getElem?_eq_getElem hkv
  have hg : rs[k]? = some (rs.getD k []) := by simp [hk]
  obtain ⟨h4, h5, h6, h7, h8, h9⟩ := h3 k _ _ hv hg
  have hc := hr.2 k _ hv 0 _ rfl
  refine ⟨b, off, vs[k].1, vs[k].2.2, e, hr.1, ?_, h5, h6, h7, h8, h9⟩
  have : off + k * kB.size + 0 = off + k := by show off + k * 1 + 0 = _; omega
  rw [this, h4] at hc
  exact hc
/-- the records read so far -/
structure Cs (w0 : Nat) (W : World) (v : Value) (svs : List Sv) (rs : List (List Nat)) : Prop where
  len : svs.length = rs.length
  own : W.ownsRow w0 23 1 v rs.length (kB.cells svs)
  rec_ : ∀ (i : Nat) sv r, svs[i]? = some sv → rs[i]? = some r → sv.2.1 = r.length ∧ (∀ x ∈ r, x < 256) ∧ r.length ≤ sv.2.2 ∧ sv.2.2 ≤ 9223372036854775807 ∧ ((sv.1 = none ∧ r = [] ∧ sv.2.2 = 0) ∨ ∃ g, sv.1 = some ⟨g, 0, none⟩ ∧ w0 ≤ g ∧ g < W.heap.size ∧ v.ownBlock ≠ some g ∧ BRow W g 0 r)
theorem Cs.below {w0 : Nat} {W W' : World} {v : Value} {svs : List Sv} {rs : List (List Nat)} (h : Cs w0 W v svs rs) (hb : Below W.heap.size W W') : Cs w0 W' v svs rs := by
  refine ⟨h.len, own_below h.own hb, fun i sv r h1 h2 => ?_⟩
  obtain ⟨a1, a2, a3, a4, a5⟩ := h.rec_ i sv r h1 h2
  refine ⟨a1, a2, a3, a4, ?_⟩
  rcases a5 with h | ⟨g, b1, b2, b3, b4, b5⟩
  · exact .inl h
  · exact .inr ⟨g, b1, b2, Nat.lt_of_lt_of_le b3 hb.size, b4, b5.below hb b3⟩
theorem Cs.isC {w0 : Nat} {W : World} {v : Value} {svs : List Sv} {rs : List (List Nat)} (h : Cs w0 W v svs rs) : ∃ a c, v = .slice a rs.length c ∧ IsC W a rs ∧ rs.length ≤ c ∧ (a = none → c = 0) := by
  have ho : OwnK kB 0 (fun _ => 0) W v svs := by
    refine ⟨?_, fun _ _ => rfl⟩
    have h1 := h.own
    rw [← h.len] at h1
    refine ⟨h1.1, ?_⟩
    rcases h1.2 with h2 | ⟨g, cap, cur, hv, hb, hr⟩
    · exact .inl h2
    · exact .inr ⟨g, cap, cur, hv, Nat.zero_le _, hr⟩
  obtain ⟨a, c, e, hk, hle, hnn, _⟩ := ho.form
  refine ⟨a, c, by rw [e, h.len], ⟨svs, h.len, hk, fun i sv r h1 h2 => ?_⟩, by rw [← h.len]; exact hle, hnn⟩
  obtain ⟨a1, a2, a3, a4, a5⟩ := h.rec_ i sv r h1 h2
  rcases a5 with ⟨b1, b2, b3⟩ | ⟨g, b1, b2, b3, b4, b5⟩
  · exact ⟨a1, by rw [b2]; exact IsB.nil _ _, fun _ => b3, a3, a4, .inl ⟨b1, b2⟩⟩
  · exact ⟨a1, by rw [b1]; exact IsB.some b5 a2, (by rw [b1]; intro h; cases h), a3, a4, .inr ⟨g, 0, b1, b3⟩⟩
/-- one more -/
theorem Cs.add {w0 : Nat} {W W' : World} {v : Value} {svs : List Sv} {rs : List (List Nat)} {o : Obj} (h : Cs w0 W v svs rs) {ad : Option Addr} {n c g cap : Nat} {r : List Nat} (hn : n = r.length) (hby : ∀ x ∈ r, x < 256) (hc : r.length ≤ c ∧ c ≤ 9223372036854775807) (hr : (ad = none ∧ r = [] ∧ c = 0) ∨ ∃ b, ad = some ⟨b, 0, none⟩ ∧ w0 ≤ b ∧ b < W.heap.size ∧ v.ownBlock ≠ some b ∧ BRow W b 0 r)
    (hown : W'.ownsRow w0 23 1 (.slice (some ⟨g, 0, none⟩) (rs.length + 1) cap) (rs.length + 1) (kB.cells svs ++ [.slice ad n c])) (hgr : (W.alloc o).grownBy W' v.ownBlock) (hat : v.ownBlock = some g ∨ g = W.heap.size + 1) :
    Cs w0 W' (.slice (some ⟨g, 0, none⟩) (rs.length + 1) cap) (svs ++ [(ad, n, c)]) (rs ++ [r]) := by
  have hsz := hgr.size
  simp at hsz
  have hblk : ∀ b, b < W.heap.size → v.ownBlock ≠ some b → W'.heap[b]? = W.heap[b]? := fun b hb hv => by
    rw [hgr.block b (by simp; omega) (fun e => hv e.symm)]
    exact Below.heap_alloc W o b hb
  have hne : ∀ b, b < W.heap.size → v.ownBlock ≠ some b → (Value.slice (some ⟨g, 0, none⟩) (rs.length + 1) cap).ownBlock ≠ some b := fun b hb hv e => by
    simp [Value.ownBlock] at e
    subst e
    rcases hat with h1 | h1
    · exact hv h1
    · omega
  have hk : ∀ b r, b < W.heap.size → v.ownBlock ≠ some b → BRow W b 0 r → BRow W' b 0 r := fun b r hb hv hw => hw.keep (hblk b hb hv) (by omega)
  refine ⟨by simp [h.len], ?_, fun i sv x h1 h2 => ?_⟩
  · rw [Knd.cells_append]
    simpa [Knd.cells, kB] using hown
  · rcases Nat.lt_trichotomy i rs.length with hi | rfl | hi
    · rw [List.getElem?_append_left (by rw [h.len]; exact hi)] at h1
      rw [List.getElem?_append_left hi] at h2
      obtain ⟨a1, a2, a3, a4, a5⟩ := h.rec_ i sv x h1 h2
      refine ⟨a1, a2, a3, a4, ?_⟩
      rcases a5 with h | ⟨b', b1, b2, b3, b4, b5⟩
      · exact .inl h
      · exact .inr ⟨b', b1, b2, by omega, hne b' b3 b4, hk b' x b3 b4 b5⟩
    · rw [← h.len, List.getElem?_append_right (Nat.le_refl _)] at h1
      rw [List.getElem?_append_right (Nat.le_refl _)] at h2
      simp at h1 h2
      subst h1 h2
      refine ⟨hn, hby, hc.1, hc.2, ?_⟩
      rcases hr with h | ⟨b', b1, b2, b3, b4, b5⟩
      · exact .inl h
      · exact .inr ⟨b', b1, b2, by omega, hne b' b3 b4, hk b' r b3 b4 b5⟩
    · rw [List.getElem?_append_right (by omega)] at h2
      cases hd : i - rs.length with
      | zero => omega
      | succ d => rw [hd] at h2; simp at h2

/-- what Read answers -/
def RdAns (w : World) (l : List Nat) (e : Ending) (w' : World) : Prop := ∃ rs a c, e = .returned (.tuple #[.slice a rs.length c, .int .i64 ((laidF [] rs).length : Int), .int .i64 (if (laidF [] rs).length = l.length then 0 else 70)]) ∧ Reads l rs ∧ IsC w' a rs ∧ rs.length ≤ c ∧ (a = none → c = 0) ∧ c ≤ 9223372036854775807 ∧ rs.length ≤ l.length ∧ Below w.heap.size w w'
set_option maxHeartbeats 2000000 in
theorem read_any (cap L : Nat) (l : List Nat) (w : World) (a : Option Addr) (ha : IsB w a l) (hna : a = none → cap = 0) (ht : Tab w) (hL : L = l.length) (hcap : L ≤ cap) (hmx : L ≤ 1000000000000) :
    Calls Tryd.prog 7 #[.slice a L cap] w fun e w' => RdAns w l e w' := by
  obtain ⟨i22, hinf, hz0, hz1, hz2⟩ := info_parts infoB
  have HI : Hid (IsB w a l) := ha
  have HN : Hid (a = none → cap = 0) := hna
  have HT : Hid (Tab w) := ht
  have HLL : Hid (L = l.length) := hL
  clear ha hna ht hL
  go_enter Tryd.func7, Tryd.ntmps7
  go_wp2
  go_loopw [5, 6] (fun v vt wr => ∃ (svs : List Sv) (rs : List (List Nat)) (n : Nat), vt = .int .i64 (n : Int) ∧ n ≤ L ∧ rs.length ≤ n ∧ Hid (Cs w.heap.size wr v svs rs ∧ (laidF [] rs).length = n ∧ laidF [] rs <+: l ∧ Below w.heap.size w wr)) (fun _ vt _ => L - (intOf vt).toNat)
  case atStart => exact ⟨[], [], 0, rfl, Nat.zero_le _, by simp, ⟨rfl, World.ownsRow_nil _ _ _ _, fun i sv r h => by simp at h⟩, rfl, List.nil_prefix, Below.refl _ _⟩
  case round =>
    obtain ⟨svs, rs, n, rfl, hn, hrn, HX⟩ := hrel
    rename World => wr
    have hsz := HX.out.2.2.2.size
    go_wp2_with fail
    refine (readRecord_any cap L n l wr a (HI.out.below HX.out.2.2.2) HN.out (HT.out.below HX.out.2.2.2 HT.out.lt) HLL.out hcap hmx hn).mono ?_
    rintro e w2 ⟨hres, hb2⟩
    have HB2 : Hid (Below wr.heap.size wr w2) := hb2
    have hs2 := hb2.size
    rcases hres with ⟨v2, r, rfl, hstd, hown, hby⟩ | ⟨rfl, hno⟩
    · have hfit := std_fits hstd
      have hpos := app_pos n r
      have HST : Hid (laidF [] (rs ++ [r]) <+: l ∧ (laidF [] (rs ++ [r])).length = n + (app n r).length) := by
        rw [laidF_snoc, HX.out.2.1]
        refine ⟨?_, by rw [List.length_append, HX.out.2.1]⟩
        have h := pre_of_std HX.out.2.2.1 (by rw [HX.out.2.1]; exact hstd)
        rw [HX.out.2.1] at h
        exact h
      rw [← HLL.out] at hfit
      obtain ⟨a2, c2, rfl, hnew⟩ := New.of hown hby
      have hcr : r.length ≤ c2 := hnew.le
      have hcm : c2 ≤ 9223372036854775807 := hnew.max
      have HRR : Hid ((a2 = none ∧ r = [] ∧ c2 = 0) ∨ ∃ b, a2 = some ⟨b, 0, none⟩ ∧ wr.heap.size ≤ b ∧ b < w2.heap.size ∧ BRow w2 b 0 r) := by
        rcases hown.2 with ⟨h1, h0⟩ | ⟨g, cp, cur, hv, hg, hh, _⟩
        · injection h1 with e1 e2 e3
          exact .inl ⟨e1, List.eq_nil_of_length_eq_zero h0, e3⟩
        · have hlt := (hown.lt g (by rw [hv]; rfl)).2
          cases hv
          exact .inr ⟨g, rfl, hg, hlt, row_of_own hown rfl⟩
      have HBY : Hid (∀ x ∈ r, x < 256) := hby
      clear hstd hown hby hnew hb2
      generalize hA : (app n r).length = A at *
      go_wp2_with (at_builtin; refine wpList_app _ (by rfl) (.tmp 19) (.tmp 21) 22 (by rfl) w.heap.size 23 i22 _ 1 24 undC hinf hz0 hz1 hz2 rfl (by omega) u5 rs.length (kB.cells svs) (by rfl) (by exact (own_below HX.out.1.own HB2.out).alloc _) ⟨w2.heap.size, 0, none⟩ 1 1 [.slice a2 r.length c2] (by rfl) (by rfl) (World.news_of_block (heap_alloc_new _ _)) (by intro u hu; simp at hu; subst hu; rfl) (by intro _; omega) (by unfold maxLen; omega) (by omega) (by simp; omega) (w2.heap.size + 1) (by simp) ?_; intro g3 c3 w3 hown3 hgr3 hat3 hlt3; have HG3 : Hid (Cs w.heap.size w3 (.slice (some ⟨g3, 0, none⟩) (rs.length + 1) c3) (svs ++ [(a2, r.length, c2)]) (rs ++ [r]) ∧ Below w.heap.size w w3) := ⟨(HX.out.1.below HB2.out).add rfl HBY.out ⟨hcr, hcm⟩ (by rcases HRR.out with h | ⟨b, b1, b2, b3, b4⟩; exact .inl h; exact .inr ⟨b, b1, by omega, b3, fun e => by have := (HX.out.1.own.lt _ e).2; omega, b4⟩) hown3 hgr3 hat3, below_of ((HX.out.2.2.2.trans (HB2.out.mono hsz)).alloc (by omega) _) hgr3 (Nat.le_refl _) (fun j hj => (HX.out.1.own.lt j hj).1)⟩; clear hown3 hgr3 hat3 hlt3)
      go_roundw
      case rel => exact ⟨svs ++ [(a2, r.length, c2)], rs ++ [r], n + A, by rfl, by omega, by simp; omega, HG3.out.1, HST.out.2, HST.out.1, HG3.out.2⟩
      case measure => simp [intOf]; omega
    · have HNO : Hid (∀ r, ¬ Std l n r) := hno
      have HRD : Hid (Reads l rs) := ⟨HX.out.2.2.1, by rw [HX.out.2.1]; exact hno⟩
      obtain ⟨a9, c9, hv9, hc9, hle9, hn9⟩ := (HX.out.1.below hb2).isC
      have hmx9 : c9 ≤ 9223372036854775807 := by
        rcases HX.out.1.own.2 with ⟨h1, _⟩ | ⟨g, cp, cur, hv, hg, hh, h3, h4, _⟩
        · rw [h1] at hv9; injection hv9 with e1 e2 e3; omega
        · rw [hv9] at hv; injection hv with e1 e2 e3; unfold maxLen at h4; omega
      have HC9 : Hid (IsC w2 a9 rs ∧ Below w.heap.size w w2) := ⟨hc9, HX.out.2.2.2.trans (hb2.mono hsz)⟩
      have hL2 := HLL.out
      have hlen := HX.out.2.1
      clear hno hb2 hc9
      by_cases hlt : n < L
      · have q1 : (n : Int) < (L : Int) := by omega
        have HFI : Hid (¬ (laidF [] rs).length = l.length) := by show ¬ _; omega
        have HLN : Hid ((laidF [] rs).length = n) := hlen
        clear hL2 hlen
        go_wp2
        go_ret3
        refine ⟨rs, a9, c9, ?_, HRD.out, HC9.out.1, hle9, hn9, hmx9, by rw [← HLL.out]; omega, HC9.out.2⟩
        rw [if_neg HFI.out, HLN.out, ← hv9]
        rfl
      · obtain rfl : n = L := by omega
        have q1 : ¬ (n : Int) < (n : Int) := by omega
        have HFI : Hid ((laidF [] rs).length = l.length) := by show _ = _; omega
        have HLN : Hid ((laidF [] rs).length = n) := hlen
        clear hL2 hlen
        go_wp2
        go_ret3
        refine ⟨rs, a9, c9, ?_, HRD.out, HC9.out.1, hle9, hn9, hmx9, by rw [← HLL.out]; omega, HC9.out.2⟩
        rw [if_pos HFI.out, HLN.out, ← hv9]
        rfl

end Lgr
end Go.Proofs.YtcmbogogakdeoaaDoor
