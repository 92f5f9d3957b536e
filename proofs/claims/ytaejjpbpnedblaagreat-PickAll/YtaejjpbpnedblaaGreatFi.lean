import Derived.Test.YtaejjpbpnedblaaGreatFf
import Derived.Test.YtaejjpbpnedblaaGreatFd
namespace Go.Proofs.YtaejjpbpnedblaaGreat
namespace Vr
open Go.Shelf Go.RowKit Go.Lib Go.Sort Go.Maps Go.ChangeMaps Go.MapKept Laws Irw Crw
set_option linter.unusedVariables false
set_option linter.unusedSimpArgs false
set_option maxRecDepth 20000
theorem equal_ne (a : Option Addr) (n k : Nat) (hn : ¬ n = 0) (w : World) : Calls Tryz.prog 99 #[.slice a n k, .slice none 0 0] w fun e w' => e = .returned (.bool false) ∧ w' = w := by
  have h1 : ¬ (n : Int) = 0 := by omega
  have h2 : ((n : Int) != 0) = true := by simp [hn]
  go_enter Tryz.func99, Tryz.ntmps99
  go_wp2
  go_ret
  exact ⟨rfl, rfl⟩
set_option maxHeartbeats 2000000 in
/-- a job of level 0 is not the zero job: it has tables -/
theorem same_up (ua : Option Addr) (un uc : Nat) (hun : ¬ un = 0) (ls : Sv) (w : World) :
    Calls Tryz.prog 74 #[jbV 0 (ua, un, uc) ls ⟨#[]⟩ false, jbV 0 nS nS ⟨#[]⟩ false] w fun e w' => e = .returned (.bool false) ∧ RowKit.Below w.heap.size w w' := by
  obtain ⟨la, ln, lc⟩ := ls
  obtain ⟨W, hW⟩ : ∃ W, (w.alloc (Obj.cells #[.int .i64 0, .slice ua un uc, .slice la ln lc, .string ⟨#[]⟩, .bool false] 62)).alloc (Obj.cells #[.int .i64 0, .slice none 0 0, .slice none 0 0, .string ⟨#[]⟩, .bool false] 62) = W := ⟨_, rfl⟩
  have HW : Hid (RowKit.Below w.heap.size w W ∧ Zb W w.heap.size (jbC 0 (ua, un, uc) (la, ln, lc) ⟨#[]⟩ false) ∧ Zb W (w.heap.size + 1) (jbC 0 nS nS ⟨#[]⟩ false)) := by
    subst hW
    exact ⟨((Below.refl _ _).alloc (Nat.le_refl _) _).alloc (by simp) _, (Zb.new w _ _).below ((Below.refl _ _).alloc (Nat.le_refl _) _), Zb.new2 w _ _ _⟩
  have c0 := HW.out.2.1.2.1 0 _ rfl
  have c1 := HW.out.2.1.2.1 1 _ rfl
  have c2 := HW.out.2.1.2.1 2 _ rfl
  have c3 := HW.out.2.1.2.1 3 _ rfl
  have c4 := HW.out.2.1.2.1 4 _ rfl
  have d0 := HW.out.2.2.2.1 0 _ rfl
  have d1 := HW.out.2.2.2.1 1 _ rfl
  have d2 := HW.out.2.2.2.1 2 _ rfl
  have d3 := HW.out.2.2.2.1 3 _ rfl
  have d4 := HW.out.2.2.2.1 4 _ rfl
  simp only [nS] at c1 c2 d1 d2
  have HE := hidV (fun W' => equal_ne ua un uc hun W')
  clear hun
  unfold jbV
  go_enter Tryz.func74, Tryz.ntmps74
  go_upto_region 1 with (fail)
  simp only [nS]
  rw [hW]
  clear hW
  go_wp2_with (go_at_call 99; go_loud (refine (HE.out _).mono ?_; rintro e w99 ⟨rfl, hw99⟩; have hw98 := hw99.symm; clear hw99; subst hw98))
  go_ret
  exact ⟨rfl, HW.out.1⟩
/-- the job of a level that has tables -/
def jobL (f : Nat) (V : Lv) (ps : List ByteArray) (i : Nat) : Jb := if i = 0 then whl V (lev V 0) else inp f V.length V i ((lev V (i : Int)).getD (beh (lev V (i : Int)) (ptr ps i)) noT)
theorem lev_nat {V : Lv} {i : Nat} {l : List Tb} (h : V[i]? = some l) : lev V (i : Int) = l := by
  unfold lev
  rw [if_pos (by omega), Int.toNat_natCast, h]
  rfl
theorem jobL_zero {f : Nat} {V : Lv} {ps : List ByteArray} {l : List Tb} (h : V[0]? = some l) : jobL f V ps 0 = whl V l := by
  unfold jobL
  rw [if_pos rfl]
  have := lev_nat h
  rw [show ((0 : Nat) : Int) = 0 from rfl] at this
  rw [this]
theorem inputsL_any (c : Cf) (vb : Nat) (V : Lv) (pa : Option Addr) (pc : Nat) (ps : List ByteArray) (i f : Nat) (l : List Tb) (w : World) (h : VAt w vb V) (hc : Cr c V.length) (hn : NumOk V) (hpp : Ls kT w (pa, ps.length, pc) ps) (hps : ps.length ≤ 1000000000) (hf : c 12 = f) (h2 : i + 1 < V.length) (hl : V[i]? = some l) (hpos : 0 < l.length) :
    Calls Tryz.prog 18 #[.agg (cfgA c), .pointer (some ⟨vb, 0, none⟩), .slice pa ps.length pc, .int .i64 (i : Int)] w fun e w' => JnIs w (jobL f V ps i) true e w' := by
  by_cases h0 : i = 0
  · subst h0
    rw [jobL_zero hl]
    exact inputs0_any c vb V _ l w h hc hl hpos
  · obtain ⟨t, ht⟩ : ∃ t, l[beh l (ptr ps i)]? = some t := ⟨_, List.getElem?_eq_getElem (beh_lt _ hpos)⟩
    have e : jobL f V ps i = inp f V.length V i t := by
      unfold jobL
      rw [if_neg h0, lev_nat hl, List.getD_eq_getElem?_getD, ht]
      rfl
    rw [e]
    exact inputsI_any c vb V pa pc ps i f l t w h hc hn hpp hps hf (by omega) h2 hl hpos ht
set_option maxHeartbeats 2000000 in
/-- a level that has no tables has no job -/
theorem inputsE_any (c : Cf) (vb : Nat) (V : Lv) (pv : Value) (i : Nat) (w : World) (h : VAt w vb V) (hc : Cr c V.length) (h2 : i + 1 < V.length) (hl : V[i]? = some []) :
    Calls Tryz.prog 18 #[.agg (cfgA c), .pointer (some ⟨vb, 0, none⟩), pv, .int .i64 (i : Int)] w fun e w' => e = .returned (.tuple #[jbV 0 nS nS ⟨#[]⟩ false, .bool false]) ∧ RowKit.Below w.heap.size w w' := by
  have hn5 := hc.n5
  have hn3 := hc.n3
  obtain ⟨W, hW⟩ : ∃ X, (w.alloc (Obj.cells (cfgA c) 23)).alloc (Obj.cells #[.int .i64 0, .slice none 0 0, .slice none 0 0, .string ⟨#[]⟩, .bool false] 62) = X := ⟨_, rfl⟩
  have HW : Hid (RowKit.Below w.heap.size w W ∧ Lc W w.heap.size c ∧ Zb W (w.heap.size + 1) (jbC 0 nS nS ⟨#[]⟩ false) ∧ w.heap.size + 1 < W.heap.size) := by
    subst hW
    exact ⟨((Below.refl _ _).alloc (Nat.le_refl _) _).alloc (by simp) _, (lc_new w c 23).keep (by simp) ((Below.refl _ _).alloc (Nat.le_refl _) _), Zb.new2 w _ _ _, by simp⟩
  have HA : Hid (VAt w vb V ∧ Cr c V.length ∧ V[i]? = some []) := ⟨h, hc, hl⟩
  have q1 : ¬ (V.length : Int) - 1 ≤ (i : Int) := by omega
  have q2 : ¬ (i : Int) < 0 := by omega
  have q3 : decide ((i : Int) < 0) = false := by simp
  have hLW := HW.out.2.1
  clear h hc hl
  go_enter Tryz.func18, Tryz.ntmps18
  go_upto_region 3 with (first
    | ((try rw [hW]); refine wpList_cfgG (by rfl) _ (by rfl) (by rfl) hLW ?_)
    | (go_at_call 56; go_loud ((try rw [hW]); refine (last_any c vb V _ (HA.out.1.below HW.out.1) HA.out.2.1).mono ?_; rintro e w1 ⟨rfl, hb1⟩; have HB1 : Hid (RowKit.Below W.heap.size W w1) := hb1; clear hb1)))
  clear hW hLW
  have HTB : Hid (Calls Tryz.prog 16 #[.pointer (some ⟨vb, 0, none⟩), .int .i64 (i : Int)] w1 fun e w' => ∃ a k, e = .returned (.slice a 0 k) ∧ RowKit.Below w1.heap.size w1 w') := by
    have := tables_any vb V i w1 (HA.out.1.below (HW.out.1.trans (HB1.out.mono HW.out.1.size)))
    rw [lev_nat HA.out.2.2] at this
    refine this.mono ?_
    rintro e w' ⟨s, he, ⟨G, hs, _, _⟩, hb2⟩
    rw [he, hs]
    exact ⟨_, _, rfl, hb2⟩
  go_upto_region 5 with (go_at_call 16; go_loud (refine HTB.out.mono ?_; rintro e W0 ⟨a0, k0, rfl, hb2⟩; have HB2 := hidV hb2; clear hb2))
  clear HTB
  have HZ7 : Hid (Zb W0 (w.heap.size + 1) (jbC 0 nS nS ⟨#[]⟩ false) ∧ RowKit.Below w.heap.size w W0) := by
    have b1 := HB1.out.trans (HB2.out.mono HB1.out.size)
    exact ⟨HW.out.2.2.1.below b1, HW.out.1.trans (b1.mono HW.out.1.size)⟩
  have a0' := HZ7.out.1.2.1 0 _ rfl
  have a1' := HZ7.out.1.2.1 1 _ rfl
  have a2' := HZ7.out.1.2.1 2 _ rfl
  have a3' := HZ7.out.1.2.1 3 _ rfl
  have a4' := HZ7.out.1.2.1 4 _ rfl
  have g0 := HZ7.out.1.2.2 0
  have g1 := HZ7.out.1.2.2 1
  have g2 := HZ7.out.1.2.2 2
  have g3 := HZ7.out.1.2.2 3
  have g4 := HZ7.out.1.2.2 4
  go_wp2
  refine bodyPost_ret (res_jb2 rfl _ _ (w.heap.size + 1) 0 nS nS ⟨#[]⟩ false rfl (((((HZ7.out.1.set 0 _).set 1 _).set 2 _).set 3 _).set 4 _)) rfl ?_
  refine ⟨rfl, ?_⟩
  have hbz := HZ7.out.2
  have hle : w.heap.size ≤ w.heap.size + 1 := by omega
  exact ((((hbz.setCell (p := ⟨w.heap.size + 1, 0, none⟩) hle _).setCell (p := ⟨w.heap.size + 1, 1, none⟩) hle _).setCell (p := ⟨w.heap.size + 1, 2, none⟩) hle _).setCell (p := ⟨w.heap.size + 1, 3, none⟩) hle _).setCell (p := ⟨w.heap.size + 1, 4, none⟩) hle _
/-- the first free job, of jobs alone -/
def ffJ (xs : List Int) : (Nat → Bool) → List Jb → Option Jb
  | _, [] => none
  | r, j :: js => if r j.lv.toNat || r (j.lv.toNat + 1) || hitsL xs j then ffJ xs (mkR r j.lv.toNat) js else some j
theorem ffrL_map (xs : List Int) : ∀ (js : List Jx) (r : Nat → Bool), (ffrL xs r js).map Jx.j = ffJ xs r (js.map Jx.j)
  | [], _ => rfl
  | y :: js, r => by
    show (if r y.j.lv.toNat || r (y.j.lv.toNat + 1) || hitsL xs y.j then ffrL xs (mkR r y.j.lv.toNat) js else some y).map Jx.j = if r y.j.lv.toNat || r (y.j.lv.toNat + 1) || hitsL xs y.j then ffJ xs (mkR r y.j.lv.toNat) (js.map Jx.j) else some y.j
    split
    · exact ffrL_map xs js _
    · rfl
theorem ffrL_mem (xs : List Int) : ∀ (js : List Jx) (r : Nat → Bool) {y : Jx}, ffrL xs r js = some y → y ∈ js
  | [], _, _, h => by cases h
  | x :: js, r, y, h => by
    have h' : (if r x.j.lv.toNat || r (x.j.lv.toNat + 1) || hitsL xs x.j then ffrL xs (mkR r x.j.lv.toNat) js else some x) = some y := h
    split at h'
    · exact List.mem_cons_of_mem _ (ffrL_mem xs js _ h')
    · injection h' with h'
      subst h'
      exact List.mem_cons_self
end Vr
end Go.Proofs.YtaejjpbpnedblaaGreat
namespace Go.Proofs.YtaejjpbpnedblaaGreat
namespace Vr
open Go.Shelf Go.RowKit Go.Lib Go.Sort Go.Maps Go.ChangeMaps Go.MapKept Laws Irw Crw
set_option linter.unusedVariables false
set_option linter.unusedSimpArgs false
set_option maxRecDepth 20000
theorem jobL_lv {f : Nat} {V : Lv} {ps : List ByteArray} {i : Nat} : (jobL f V ps i).lv = (i : Int) := by
  unfold jobL
  split
  · rename_i h
    subst h
    rfl
  · rfl
theorem lev_le {V : Lv} (h : Fits V) (i : Nat) : (lev V (i : Int)).length ≤ 1000000 := by
  cases e : V[i]? with
  | none =>
    unfold lev
    rw [if_pos (by omega), Int.toNat_natCast, e]
    simp
  | some l =>
    rw [lev_nat e]
    exact h.2 l (List.mem_of_getElem? e)
theorem jobL_len {f : Nat} {V : Lv} {ps : List ByteArray} {i : Nat} (h : Fits V) : (jobL f V ps i).up.length ≤ 1000000 ∧ (jobL f V ps i).lo.length ≤ 1000000 := by
  have h1 := lev_le h 0
  have h2 := lev_le h 1
  have h3 := lev_le h (i + 1)
  have hfl : ∀ (l : List Tb) (p : Tb → Bool), (l.filter p).length ≤ l.length := fun l p => List.length_filter_le _ _
  unfold jobL
  split
  · refine ⟨h1, Nat.le_trans (hfl _ _) h2⟩
  · refine ⟨by show 1 ≤ 1000000; omega, ?_⟩
    show (((lev V ((i : Int) + 1)).filter (over _ _)).take f).length ≤ 1000000
    rw [List.length_take]
    have h5 := hfl (lev V ((i : Int) + 1)) (over ((lev V (i : Int)).getD (beh (lev V (i : Int)) (ptr ps i)) noT).le ((lev V (i : Int)).getD (beh (lev V (i : Int)) (ptr ps i)) noT).gr)
    have h6 : (lev V ((i : Int) + 1)).length ≤ 1000000 := h3
    omega
theorem jobL_up {f : Nat} {V : Lv} {ps : List ByteArray} {i : Nat} {l : List Tb} (hl : V[i]? = some l) (hpos : 0 < l.length) : ¬ (jobL f V ps i).up.length = 0 := by
  unfold jobL
  split
  · rename_i h
    subst h
    have e := lev_nat hl
    rw [show ((0 : Nat) : Int) = 0 from rfl] at e
    rw [e]
    show ¬ l.length = 0
    omega
  · show ¬ (1 : Nat) = 0
    omega
/-- what Next tells: of the order of the levels -/
def nxt (f : Nat) (V : Lv) (ps : List ByteArray) (xs : List Int) (od : List Nat) : Jb × Int :=
  if od = [] then (noJ, 0) else match ffJ xs (fun _ => false) (od.map (jobL f V ps)) with
    | none => (noJ, 1)
    | some j => (j, 2)
def NxA (c : Cf) (f : Nat) (V : Lv) (ps : List ByteArray) (xs : List Int) (w : World) (e : Ending) (w' : World) : Prop := ∃ (zs : List Nat) (us ls : Sv), zs.Perm (dueL (scs c V)) ∧ zs.Pairwise (rk (scs c V)) ∧ e = .returned (.tuple #[jbV (nxt f V ps xs (ordL c V zs)).1.lv us ls (nxt f V ps xs (ordL c V zs)).1.cut (nxt f V ps xs (ordL c V zs)).1.mv, .int .i64 (nxt f V ps xs (ordL c V zs)).2]) ∧ JAt w' us ls (nxt f V ps xs (ordL c V zs)).1 ∧ RowKit.Below w.heap.size w w'
theorem noJ_at (w : World) : JAt w nS nS noJ := ⟨Ls.nil w, Ls.nil w⟩
def NxS2 (f : Nat) (V : Lv) (ps : List ByteArray) (od : List Nat) (w1 : World) (T : Nat → Nat) (wr : World) (s : Sv) (js : List Jx) (k : Nat) : Prop := Old w1 T wr ∧ OwnK kJ 1 T wr (svV s) js ∧ js.map Jx.j = (od.take k).map (jobL f V ps) ∧ ∀ y ∈ js, JT w1.heap.size T wr y
theorem lev_some {V : Lv} {i : Nat} (h : i < V.length) : V[i]? = some (lev V (i : Int)) := by
  rw [lev_nat (List.getElem?_eq_getElem h)]
  exact List.getElem?_eq_getElem h
theorem scA_scs {c : Cf} {V : Lv} {z : Nat} (h : z < V.length - 1) : scA (scs c V) z = scr c V z := by
  unfold scA scs
  rw [List.getElem?_map, List.getElem?_range h]
  rfl
theorem scr_empty {c : Cf} {V : Lv} {z : Nat} (h : lev V (z : Int) = []) : scr c V z = 0 := by
  unfold scr
  split
  · rename_i h0
    subst h0
    rw [show ((0 : Nat) : Int) = 0 from rfl] at h
    rw [h]
    simp
  · rw [h]
    simp [sumW]
/-- a level that is asked has tables -/
theorem ord_good {c : Cf} {V : Lv} (hc : Cr c V.length) {zs : List Nat} (hp : zs.Perm (dueL (scs c V))) : ∀ z ∈ ordL c V zs, z + 1 < V.length ∧ V[z]? = some (lev V (z : Int)) ∧ 0 < (lev V (z : Int)).length := by
  have hn3 := hc.n3
  have hdue : ∀ z ∈ zs, z + 1 < V.length ∧ V[z]? = some (lev V (z : Int)) ∧ 0 < (lev V (z : Int)).length := fun z hz => by
    have hz' := hp.mem_iff.1 hz
    have hlt := dueK_lt z hz'
    rw [scs_len] at hlt
    refine ⟨by omega, lev_some (by omega), ?_⟩
    unfold dueL dueK at hz'
    have h1 := (List.mem_filter.1 hz').2
    simp only [decide_eq_true_eq] at h1
    rw [scA_scs hlt] at h1
    rcases Nat.eq_zero_or_pos (lev V (z : Int)).length with h0 | h0
    · rw [scr_empty (List.length_eq_zero_iff.1 h0)] at h1
      omega
    · exact h0
  intro z hz
  unfold ordL at hz
  split at hz
  · rename_i hst
    rcases List.mem_cons.1 hz with rfl | hz
    · refine ⟨by omega, lev_some (by omega), ?_⟩
      have := hc.st.1
      show 0 < (lev V ((0 : Nat) : Int)).length
      rw [show ((0 : Nat) : Int) = 0 from rfl]
      omega
    · exact hdue z (List.mem_filter.1 hz).1
  · exact hdue z hz
theorem ord_len {c : Cf} {V : Lv} (hc : Cr c V.length) {zs : List Nat} (hp : zs.Perm (dueL (scs c V))) : (ordL c V zs).length ≤ 20 := by
  have h1 : zs.length ≤ 4 := by
    rw [hp.length_eq]
    have := dueK_len (scs c V) (scs c V).length
    have hl := scs_len c V
    have := hc.n5
    unfold dueL
    omega
  unfold ordL
  split
  · rw [List.length_cons]
    have := List.length_filter_le (fun z => decide (z ≠ 0)) zs
    omega
  · omega
set_option maxHeartbeats 4000000 in
theorem next_any (c : Cf) (vb : Nat) (V : Lv) (pa : Option Addr) (pc : Nat) (ps : List ByteArray) (f : Nat) (la : Option Addr) (ln lc : Nat) (xs : List Int) (w : World) (h : VAt w vb V) (hw : WeV V) (hc : Cr c V.length) (hno : NumOk V) (hp : Ls kT w (pa, ps.length, pc) ps) (hps : ps.length ≤ 1000000000) (hf : c 12 = f) (hlo : Ls kU w (la, ln, lc) xs) (hbig : ln ≤ 17592186044416) :
    Calls Tryz.prog 36 #[.agg (cfgA c), .pointer (some ⟨vb, 0, none⟩), .slice pa ps.length pc, .slice la ln lc] w fun e w' => NxA c f V ps xs w e w' := by
  obtain ⟨iz, hi, hz0, hz1, hz2⟩ := info_parts infoJ
  obtain ⟨W, hW⟩ : ∃ X, (w.alloc (Obj.cells (cfgA c) 23)).alloc (Obj.cells #[.int .i64 0, .slice none 0 0, .slice none 0 0, .string ⟨#[]⟩, .bool false] 62) = X := ⟨_, rfl⟩
  have HW : Hid (RowKit.Below w.heap.size w W ∧ Lc W w.heap.size c ∧ Zb W (w.heap.size + 1) (jbC 0 nS nS ⟨#[]⟩ false)) := by
    subst hW
    exact ⟨((Below.refl _ _).alloc (Nat.le_refl _) _).alloc (by simp) _, (lc_new w c 23).keep (by simp) ((Below.refl _ _).alloc (Nat.le_refl _) _), Zb.new2 w _ _ _⟩
  have hLW := HW.out.2.1
  have HO : Hid (Calls Tryz.prog 14 #[.agg (cfgA c), .pointer (some ⟨vb, 0, none⟩)] W fun e w' => ∃ (sa : Option Addr) (sn sc : Nat) (zs : List Nat), e = .returned (.slice sa sn sc) ∧ zs.Perm (dueL (scs c V)) ∧ zs.Pairwise (rk (scs c V)) ∧ Ls kI w' (sa, sn, sc) (zI (ordL c V zs)) ∧ RowKit.Below W.heap.size W w') := by
    refine (orderL_any c vb V W (h.below HW.out.1) hw hc).mono ?_
    rintro e w' ⟨⟨sa, sn, sc⟩, zs, he, h1, h2, h3, h4⟩
    exact ⟨sa, sn, sc, zs, he, h1, h2, h3, h4⟩
  have HV := hidV (And.intro h (And.intro hp hlo))
  have HC := hidV (And.intro hc (And.intro hno (And.intro hps (And.intro hf hbig))))
  clear h hp hlo hw hc hno hps hf hbig
  go_enter Tryz.func36, Tryz.ntmps36
  go_upto_region 2 with (first
    | ((try rw [hW]); refine wpList_cfg (by rfl) _ (by rfl) (by rfl) hLW ?_)
    | (go_at_call 14; go_loud ((try rw [hW]); refine HO.out.mono ?_; rintro e w1 ⟨sa, sn, sc, zs, rfl, hp1, hs1, hl1, hb1⟩; have H1 : Hid (Ls kI w1 (sa, sn, sc) (zI (ordL c V zs)) ∧ RowKit.Below W.heap.size W w1 ∧ RowKit.Below w.heap.size w w1) := ⟨hl1, hb1, HW.out.1.trans (hb1.mono HW.out.1.size)⟩; have HPS := hidV (And.intro hp1 hs1); clear hl1 hb1 hp1 hs1)))
  clear hW hLW HO
  obtain ⟨od, hod⟩ : ∃ od, ordL c V zs = od := ⟨_, rfl⟩
  have HOD : Hid (ordL c V zs = od ∧ (∀ z ∈ od, z + 1 < V.length ∧ V[z]? = some (lev V (z : Int)) ∧ 0 < (lev V (z : Int)).length) ∧ od.length ≤ 20) := ⟨hod, by rw [← hod]; exact ord_good HC.out.1 HPS.out.1, by rw [← hod]; exact ord_len HC.out.1 HPS.out.1⟩
  rw [hod] at H1
  have hsn : sn = od.length := by have := H1.out.1.2.1; rw [zI_len] at this; exact this
  subst hsn
  clear hod
  have HFIN : Hid (∀ (J : Jb) (k : Int), nxt f V ps xs od = (J, k) → ∀ (w' : World) (us ls : Sv), JAt w' us ls J → RowKit.Below w.heap.size w w' → NxA c f V ps xs w (.returned (.tuple #[jbV J.lv us ls J.cut J.mv, .int .i64 k])) w') := fun J k hn w' us ls hj hb => ⟨zs, us, ls, HPS.out.1, HPS.out.2, by rw [HOD.out.1, hn], by rw [HOD.out.1, hn]; exact hj, hb⟩
  have hol : od.length ≤ 20 := HOD.out.2.2
  by_cases h0 : od = []
  · subst h0
    have HZ7 : Hid (Zb w1 (w.heap.size + 1) (jbC 0 nS nS ⟨#[]⟩ false) ∧ RowKit.Below w.heap.size w w1) := ⟨HW.out.2.2.below H1.out.2.1, H1.out.2.2⟩
    have a0 := HZ7.out.1.2.1 0 _ rfl
    have a1 := HZ7.out.1.2.1 1 _ rfl
    have a2 := HZ7.out.1.2.1 2 _ rfl
    have a3 := HZ7.out.1.2.1 3 _ rfl
    have a4 := HZ7.out.1.2.1 4 _ rfl
    have g0 := HZ7.out.1.2.2 0
    have g1 := HZ7.out.1.2.2 1
    have g2 := HZ7.out.1.2.2 2
    have g3 := HZ7.out.1.2.2 3
    have g4 := HZ7.out.1.2.2 4
    simp only [List.length_nil]
    go_wp2
    refine bodyPost_ret (res_jb2 rfl _ _ (w.heap.size + 1) 0 nS nS ⟨#[]⟩ false rfl (((((HZ7.out.1.set 0 _).set 1 _).set 2 _).set 3 _).set 4 _)) rfl ?_
    have hbz := HZ7.out.2
    have hle : w.heap.size ≤ w.heap.size + 1 := by omega
    exact HFIN.out _ _ (show nxt f V ps xs [] = (noJ, 0) from rfl) _ nS nS (noJ_at _) (((((hbz.setCell (p := ⟨w.heap.size + 1, 0, none⟩) hle _).setCell (p := ⟨w.heap.size + 1, 1, none⟩) hle _).setCell (p := ⟨w.heap.size + 1, 2, none⟩) hle _).setCell (p := ⟨w.heap.size + 1, 3, none⟩) hle _).setCell (p := ⟨w.heap.size + 1, 4, none⟩) hle _)
  have h0l : ¬ od.length = 0 := fun e => h0 (List.length_eq_zero_iff.1 e)
  have h0i : ¬ (od.length : Int) = 0 := by omega
  have h0b : ((od.length : Int) == 0) = false := by simp [h0l]
  have HN0 : Hid (¬ od = []) := h0
  clear h0
  go_wp2_with fail
  go_loopw [11, 26] (fun o i wr => ∃ (k : Nat) (s : Sv) (T : Nat → Nat) (js : List Jx), k ≤ od.length ∧ o = .slice s.1 s.2.1 s.2.2 ∧ i = .int .i64 (k : Int) ∧ Hid (NxS2 f V ps od w1 T wr s js k)) (fun _ i _ => od.length - (intOf i).toNat)
  case atStart => exact ⟨0, nS, fun _ => 0, [], by omega, rfl, rfl, Old.first w1, OwnK.empty _ _ _, rfl, by simp⟩
  case round =>
    obtain ⟨k, ⟨ra, rn, rc⟩, T, js, hk, rfl, rfl, HX⟩ := hrel
    simp only at *
    by_cases hlt : k < od.length
    · have q1 : (k : Int) < (od.length : Int) := by omega
      have HBr : Hid (RowKit.Below w.heap.size w wr) := H1.out.2.2.trans (HX.out.1.below.mono H1.out.2.2.size)
      obtain ⟨z, hz⟩ : ∃ z, od[k]? = some z := ⟨_, List.getElem?_eq_getElem hlt⟩
      obtain ⟨b, off, rfl, hbl, hcell⟩ := (H1.out.1.below HX.out.1.below).cell (i := k) (x := (z : Int)) (by unfold zI; rw [List.getElem?_map, hz]; rfl)
      have hc : wr.cell? ⟨b, off + k, none⟩ = some (.int .i64 (z : Int)) := by
        have := hcell 0 _ rfl
        simpa [kI] using this
      obtain ⟨J, hJ⟩ : ∃ J, jobL f V ps z = J := ⟨_, rfl⟩
      have HIn : Hid (Calls Tryz.prog 18 #[.agg (cfgA c), .pointer (some ⟨vb, 0, none⟩), .slice pa ps.length pc, .int .i64 (z : Int)] wr (fun e w' => JnIs wr J true e w') ∧ od.take (k + 1) = od.take k ++ [z] ∧ jobL f V ps z = J) := by
        obtain ⟨g1, g2, g3⟩ := HOD.out.2.1 z (List.mem_of_getElem? hz)
        refine ⟨?_, by rw [List.take_add_one, hz]; rfl, hJ⟩
        rw [← hJ]
        exact inputsL_any c vb V pa pc ps z f _ wr (HV.out.1.below HBr.out) HC.out.1 HC.out.2.1 (HV.out.2.1.below HBr.out) HC.out.2.2.1 HC.out.2.2.2.1 g1 g2 g3
      clear hcell hz hJ hbl
      have hL1 : Lc wr w.heap.size c := (HW.out.2.1.keep (by have := HW.out.2.2.1; omega) H1.out.2.1).keep (by have := HW.out.2.2.1; have := H1.out.2.1.size; omega) HX.out.1.below
      have hsl : js.length = k := by
        have := congrArg List.length HX.out.2.2.1
        rw [List.length_map, List.length_map, List.length_take] at this
        rw [this]
        omega
      go_upto_region 9 with (first
        | (refine wpList_cfg (by rfl) _ (by rfl) (by rfl) hL1 ?_)
        | (go_at_call 18; go_loud (refine HIn.out.1.mono ?_; rintro e w2 ⟨⟨ua, un, uc⟩, ⟨va, vn, vc⟩, rfl, hj2, hb2, hfu, hfl⟩; have H2 : Hid (JT w1.heap.size T w2 ⟨J, (ua, un, uc), (va, vn, vc)⟩ ∧ RowKit.Below wr.heap.size wr w2) := ⟨⟨hj2, tg_new hj2.1 hfu HX.out.1.below.size (fun b hb => HX.out.1.zero b (.inr hb)), tg_new hj2.2 hfl HX.out.1.below.size (fun b hb => HX.out.1.zero b (.inr hb))⟩, hb2⟩; clear hj2 hb2 hfu hfl; unfold jbV; simp only)))
      obtain ⟨W3, hW3⟩ : ∃ X, w2.alloc (Obj.cells #[.int .i64 J.lv, .slice ua un uc, .slice va vn vc, .string J.cut, .bool J.mv] 62) = X := ⟨_, rfl⟩
      have H3 : Hid (Zb W3 w2.heap.size (jbC J.lv (ua, un, uc) (va, vn, vc) J.cut J.mv) ∧ RowKit.Below w2.heap.size w2 W3) := by
        subst hW3
        exact ⟨Zb.new w2 _ _, (Below.refl _ _).alloc (Nat.le_refl _) _⟩
      rw [hW3]
      clear hW3 hc hL1
      have y0 := H3.out.1.2.1 0 _ rfl
      have y1 := H3.out.1.2.1 1 _ rfl
      have y2 := H3.out.1.2.1 2 _ rfl
      have y3 := H3.out.1.2.1 3 _ rfl
      have y4 := H3.out.1.2.1 4 _ rfl
      simp only at y1 y2
      have HBA : Hid (RowKit.Below wr.heap.size wr (W3.alloc (Obj.cells #[.int .i64 J.lv, .slice ua un uc, .slice va vn vc, .string J.cut, .bool J.mv] 62))) := by
        have h1 := H2.out.2.trans (H3.out.2.mono H2.out.2.size)
        exact h1.alloc h1.size _
      have HBB : Hid (RowKit.Below w2.heap.size w2 (W3.alloc (Obj.cells #[.int .i64 J.lv, .slice ua un uc, .slice va vn vc, .string J.cut, .bool J.mv] 62))) := H3.out.2.alloc H3.out.2.size _
      go_wp2_with (at_builtin; go_loud (refine wpList_appK kJ _ (by rfl) (.tmp 39) (.tmp 41) 124 (by rfl) iz Tryz.underlying124 hi hz0 hz1 hz2 1 T (.slice ra rn rc) js (by rfl) (HX.out.2.1.below HBA.out) (some ⟨W3.heap.size, 0, none⟩) 1 1 [⟨J, (ua, un, uc), (va, vn, vc)⟩] (by rfl) rfl (by simp) (isK_job W3 ⟨J, (ua, un, uc), (va, vn, vc)⟩) (by simp; omega) ?_; intro a' c' T' w4 ho4 hg4; have HY : Hid (OwnK kJ 1 T' w4 (.slice a' (js.length + 1) c') (js ++ [⟨J, (ua, un, uc), (va, vn, vc)⟩]) ∧ Goes (· = 1) T (W3.alloc (Obj.cells #[.int .i64 J.lv, .slice ua un uc, .slice va vn vc, .string J.cut, .bool J.mv] 62)) T' w4) := ⟨ho4, hg4⟩; clear ho4 hg4; simp only [List.length_singleton]))
      go_roundw
      case rel =>
        have g1 : Goes (· = 1) T wr T' w4 := (Goes.below (t := (· = 1)) HBA.out).trans HY.out.2
        have h3 := HY.out.1
        rw [hsl] at h3
        refine ⟨k + 1, (a', k + 1, c'), T', _, by omega, rfl, by go_num, HX.out.1.goes g1 (by decide), h3, ?_, fun y hy => ?_⟩
        · rw [List.map_append, HX.out.2.2.1, HIn.out.2.1, List.map_append, List.map_singleton, List.map_singleton, HIn.out.2.2]
        · rcases List.mem_append.1 hy with hy | hy
          · exact (HX.out.2.2.2 y hy).goes g1
          · simp only [List.mem_singleton] at hy
            subst hy
            exact H2.out.1.goes ((Goes.below (t := (· = 1)) HBB.out).trans HY.out.2)
      case measure => simp [intOf]; omega
    · have hk3 : k = od.length := by omega
      have HE : Hid (js.map Jx.j = od.map (jobL f V ps)) := by
        have := HX.out.2.2.1
        rw [hk3, List.take_length] at this
        exact this
      have q1 : ¬ (k : Int) < (od.length : Int) := by omega
      have hls := Ls.own HX.out.2.1
      have hrn : rn = js.length := hls.2.1
      subst hrn
      have HBr : Hid (RowKit.Below w.heap.size w wr) := H1.out.2.2.trans (HX.out.1.below.mono H1.out.2.2.size)
      have HZr : Hid (Zb wr (w.heap.size + 1) (jbC 0 nS nS ⟨#[]⟩ false)) := (HW.out.2.2.below H1.out.2.1).below HX.out.1.below
      have HOFy : Hid (∀ y ∈ js, ∃ z ∈ od, y.j = jobL f V ps z) := fun y hy => by
        have : y.j ∈ js.map Jx.j := List.mem_map.2 ⟨y, hy, rfl⟩
        rw [HE.out] at this
        obtain ⟨z, hz, e⟩ := List.mem_map.1 this
        exact ⟨z, hz, e.symm⟩
      have HJs : Hid (∀ y ∈ js, JAt wr y.us y.ls y.j ∧ (∃ l : Nat, y.j.lv = l ∧ l < 4) ∧ y.j.up.length ≤ 1000000 ∧ y.j.lo.length ≤ 1000000) := fun y hy => by
        obtain ⟨z, hz, e⟩ := HOFy.out y hy
        have hn5 := HC.out.1.n5
        have hz4 := (HOD.out.2.1 z hz).1
        refine ⟨(HX.out.2.2.2 y hy).1, ⟨z, by rw [e]; exact jobL_lv, by omega⟩, ?_⟩
        rw [e]
        exact jobL_len HV.out.1.1
      have hjl : js.length ≤ 100 := by
        have := congrArg List.length HE.out
        rw [List.length_map, List.length_map] at this
        have := HOD.out.2.2
        omega
      have HFF : Hid (Calls Tryz.prog 73 #[.slice ra js.length rc, .slice la ln lc] wr fun e w' => FfIs wr (ffrL xs (fun _ => false) js) e w') := firstFree2_any ra rc js la ln lc xs wr hls HJs.out hjl (HV.out.2.2.below HBr.out) HC.out.2.2.2.2
      have HTs : Hid (∀ y ∈ js, JT w1.heap.size T wr y) := HX.out.2.2.2
      have HA1 : Hid (w.heap.size + 1 < w1.heap.size) := Nat.lt_of_lt_of_le HW.out.2.2.1 H1.out.2.1.size
      have HMAP : Hid ((ffrL xs (fun _ => false) js).map Jx.j = ffJ xs (fun _ => false) (od.map (jobL f V ps))) := by
        show _ = _
        rw [← HE.out]
        exact ffrL_map xs js _
      clear HX hls hk3 hjl
      obtain ⟨res, hres⟩ : ∃ res, ffrL xs (fun _ => false) js = res := ⟨_, rfl⟩
      have HRES := hidV hres
      rw [hres] at HFF HMAP
      clear hres
      cases res with
      | some y =>
        have hym : y ∈ js := ffrL_mem xs js _ HRES.out
        obtain ⟨z, hz, hyz⟩ := HOFy.out y hym
        obtain ⟨yj, yu, yl⟩ := y
        dsimp only at hyz
        subst hyz
        obtain ⟨J, hJ⟩ : ∃ J, jobL f V ps z = J := ⟨_, rfl⟩
        rw [hJ] at HFF HMAP hym
        have HNX : Hid (nxt f V ps xs od = (J, 2)) := by
          show _ = _
          unfold nxt
          rw [if_neg HN0.out, ← HMAP.out]
          rfl
        have HF : Hid (Calls Tryz.prog 73 #[.slice ra js.length rc, .slice la ln lc] wr fun e w' => ∃ us ls : Sv, e = .returned (jbV J.lv us ls J.cut J.mv) ∧ JAt w' us ls J ∧ RowKit.Below wr.heap.size wr w' ∧ (∀ b off, us.1 = some ⟨b, off, none⟩ → J.up ≠ [] → b ≠ w.heap.size + 1) ∧ ∀ b off, ls.1 = some ⟨b, off, none⟩ → J.lo ≠ [] → b ≠ w.heap.size + 1) := by
          refine HFF.out.mono ?_
          rintro e w' ⟨he, hb⟩
          have h1 := HTs.out _ hym
          exact ⟨yu, yl, he, h1.1.below hb, hb, fun b off e hne => by have := (h1.2.1 b off e hne).1; have := HA1.out; omega, fun b off e hne => by have := (h1.2.2 b off e hne).1; have := HA1.out; omega⟩
        have HSm : Hid (∀ (W : World) (us ls : Sv), us.2.1 = J.up.length → Calls Tryz.prog 74 #[jbV J.lv us ls J.cut J.mv, jbV 0 nS nS ⟨#[]⟩ false] W fun e w' => e = .returned (.bool false) ∧ RowKit.Below W.heap.size W w') := fun W us ls hus => by
          by_cases hz0 : z = 0
          · subst hz0
            obtain ⟨g1, g2, g3⟩ := HOD.out.2.1 0 hz
            obtain ⟨ua, un, uc⟩ := us
            have hun : un = J.up.length := hus
            have hne : ¬ un = 0 := by rw [hun, ← hJ]; exact jobL_up g2 g3
            have e1 : J.lv = 0 := by rw [← hJ]; exact jobL_lv
            have e2 : J.cut = ⟨#[]⟩ := by rw [← hJ, jobL_zero g2]; rfl
            have e3 : J.mv = false := by rw [← hJ, jobL_zero g2]; rfl
            rw [e1, e2, e3]
            exact same_up ua un uc hne ls W
          · exact same_no _ (by rw [← hJ, jobL_lv]; omega) us ls _ _ W
        clear HFF HMAP HRES HTs HJs HOFy hym hz hJ
        go_upto_region 13 with (go_at_call 73; go_loud (refine HF.out.mono ?_; rintro e w5 ⟨⟨ua, un, uc⟩, ⟨va, vn, vc⟩, rfl, hj5, hb5, hu5, hl5⟩; have H5 := hidV (And.intro hj5 hb5); have HU5 := hidV (And.intro hu5 hl5); clear hj5 hb5 hu5 hl5; unfold jbV; simp only))
        obtain ⟨W6, hW6⟩ : ∃ X, w5.alloc (Obj.cells #[.int .i64 J.lv, .slice ua un uc, .slice va vn vc, .string J.cut, .bool J.mv] 62) = X := ⟨_, rfl⟩
        have H6 : Hid (Zb W6 w5.heap.size (jbC J.lv (ua, un, uc) (va, vn, vc) J.cut J.mv) ∧ RowKit.Below w5.heap.size w5 W6) := by
          subst hW6
          exact ⟨Zb.new w5 _ _, (Below.refl _ _).alloc (Nat.le_refl _) _⟩
        rw [hW6]
        clear hW6
        have y0 := H6.out.1.2.1 0 _ rfl
        have y1' := H6.out.1.2.1 1 _ rfl
        have y2' := H6.out.1.2.1 2 _ rfl
        have y3' := H6.out.1.2.1 3 _ rfl
        have y4 := H6.out.1.2.1 4 _ rfl
        simp only at y1' y2'
        have HS6 := hidV (HSm.out W6 (ua, un, uc) (va, vn, vc) H5.out.1.1.2.1)
        unfold jbV at HS6
        simp only [nS] at HS6
        go_upto_region 15 with (go_at_call 74; go_loud (refine HS6.out.mono ?_; rintro e w7 ⟨rfl, hb7⟩; have H7 := hidV hb7; clear hb7))
        have HZ7 : Hid (Zb w7 w5.heap.size (jbC J.lv (ua, un, uc) (va, vn, vc) J.cut J.mv) ∧ Zb w7 (w.heap.size + 1) (jbC 0 nS nS ⟨#[]⟩ false) ∧ JAt w7 (ua, un, uc) (va, vn, vc) J ∧ RowKit.Below w.heap.size w w7 ∧ RowKit.Below wr.heap.size wr w7) := by
          have b1 := (H5.out.2.trans (H6.out.2.mono H5.out.2.size))
          have b2 := b1.trans (H7.out.mono b1.size)
          exact ⟨H6.out.1.below H7.out, HZr.out.below b2, ((H5.out.1.below H6.out.2).below H7.out), HBr.out.trans (b2.mono HBr.out.size), b2⟩
        have z0 := HZ7.out.1.2.1 0 _ rfl
        have z1 := HZ7.out.1.2.1 1 _ rfl
        have z2 := HZ7.out.1.2.1 2 _ rfl
        have z3 := HZ7.out.1.2.1 3 _ rfl
        have z4 := HZ7.out.1.2.1 4 _ rfl
        simp only at z1 z2
        have a0 := HZ7.out.2.1.2.1 0 _ rfl
        have a1 := HZ7.out.2.1.2.1 1 _ rfl
        have a2 := HZ7.out.2.1.2.1 2 _ rfl
        have a3 := HZ7.out.2.1.2.1 3 _ rfl
        have a4 := HZ7.out.2.1.2.1 4 _ rfl
        have g0 := HZ7.out.2.1.2.2 0
        have g1 := HZ7.out.2.1.2.2 1
        have g2 := HZ7.out.2.1.2.2 2
        have g3 := HZ7.out.2.1.2.2 3
        have g4 := HZ7.out.2.1.2.2 4
        go_wp2
        refine bodyPost_ret (res_jb2 rfl _ _ (w.heap.size + 1) J.lv (ua, un, uc) (va, vn, vc) J.cut J.mv rfl (((((HZ7.out.2.1.set 0 _).set 1 _).set 2 _).set 3 _).set 4 _)) rfl ?_
        have hbz := HZ7.out.2.2.2.1
        have hle : w.heap.size ≤ w.heap.size + 1 := by omega
        refine HFIN.out _ _ HNX.out _ (ua, un, uc) (va, vn, vc) ⟨?_, ?_⟩ (((((hbz.setCell (p := ⟨w.heap.size + 1, 0, none⟩) hle _).setCell (p := ⟨w.heap.size + 1, 1, none⟩) hle _).setCell (p := ⟨w.heap.size + 1, 2, none⟩) hle _).setCell (p := ⟨w.heap.size + 1, 3, none⟩) hle _).setCell (p := ⟨w.heap.size + 1, 4, none⟩) hle _)
        · have h := HZ7.out.2.2.1.1
          have hA := HU5.out.1
          exact ((((h.other hA 0 _).other hA 1 _).other hA 2 _).other hA 3 _).other hA 4 _
        · have h := HZ7.out.2.2.1.2
          have hA := HU5.out.2
          exact ((((h.other hA 0 _).other hA 1 _).other hA 2 _).other hA 3 _).other hA 4 _
      | none =>
        have HNX : Hid (nxt f V ps xs od = (noJ, 1)) := by
          show _ = _
          unfold nxt
          rw [if_neg HN0.out, ← HMAP.out]
          rfl
        have HF : Hid (Calls Tryz.prog 73 #[.slice ra js.length rc, .slice la ln lc] wr fun e w' => e = .returned (jbV 0 nS nS ⟨#[]⟩ false) ∧ RowKit.Below wr.heap.size wr w') := HFF.out
        clear HFF HMAP HRES HTs HJs HOFy
        go_upto_region 13 with (go_at_call 73; go_loud (refine HF.out.mono ?_; rintro e w5 ⟨rfl, hb5⟩; have H5 := hidV hb5; clear hb5; unfold jbV; simp only [nS]))
        obtain ⟨W6, hW6⟩ : ∃ X, w5.alloc (Obj.cells #[.int .i64 0, .slice none 0 0, .slice none 0 0, .string ⟨#[]⟩, .bool false] 62) = X := ⟨_, rfl⟩
        have H6 : Hid (Zb W6 w5.heap.size (jbC 0 nS nS ⟨#[]⟩ false) ∧ RowKit.Below w5.heap.size w5 W6) := by
          subst hW6
          exact ⟨Zb.new w5 _ _, (Below.refl _ _).alloc (Nat.le_refl _) _⟩
        rw [hW6]
        clear hW6
        have y0 := H6.out.1.2.1 0 _ rfl
        have y1' := H6.out.1.2.1 1 _ rfl
        have y2' := H6.out.1.2.1 2 _ rfl
        have y3' := H6.out.1.2.1 3 _ rfl
        have y4 := H6.out.1.2.1 4 _ rfl
        simp only [nS] at y1' y2'
        have HS6 := hidV (same_yes W6)
        unfold jbV at HS6
        simp only [nS] at HS6
        go_upto_region 14 with (go_at_call 74; go_loud (refine HS6.out.mono ?_; rintro e w7 ⟨rfl, hb7⟩; have H7 := hidV hb7; clear hb7))
        have HZ7 : Hid (Zb w7 (w.heap.size + 1) (jbC 0 nS nS ⟨#[]⟩ false) ∧ RowKit.Below w.heap.size w w7) := by
          have b1 := (H5.out.trans (H6.out.2.mono H5.out.size))
          have b2 := b1.trans (H7.out.mono b1.size)
          exact ⟨HZr.out.below b2, HBr.out.trans (b2.mono HBr.out.size)⟩
        have a0 := HZ7.out.1.2.1 0 _ rfl
        have a1 := HZ7.out.1.2.1 1 _ rfl
        have a2 := HZ7.out.1.2.1 2 _ rfl
        have a3 := HZ7.out.1.2.1 3 _ rfl
        have a4 := HZ7.out.1.2.1 4 _ rfl
        have g0 := HZ7.out.1.2.2 0
        have g1 := HZ7.out.1.2.2 1
        have g2 := HZ7.out.1.2.2 2
        have g3 := HZ7.out.1.2.2 3
        have g4 := HZ7.out.1.2.2 4
        go_wp2
        refine bodyPost_ret (res_jb2 rfl _ _ (w.heap.size + 1) 0 nS nS ⟨#[]⟩ false rfl (((((HZ7.out.1.set 0 _).set 1 _).set 2 _).set 3 _).set 4 _)) rfl ?_
        have hbz := HZ7.out.2
        have hle : w.heap.size ≤ w.heap.size + 1 := by omega
        exact HFIN.out _ _ HNX.out _ nS nS (noJ_at _) (((((hbz.setCell (p := ⟨w.heap.size + 1, 0, none⟩) hle _).setCell (p := ⟨w.heap.size + 1, 1, none⟩) hle _).setCell (p := ⟨w.heap.size + 1, 2, none⟩) hle _).setCell (p := ⟨w.heap.size + 1, 3, none⟩) hle _).setCell (p := ⟨w.heap.size + 1, 4, none⟩) hle _)
end Vr
end Go.Proofs.YtaejjpbpnedblaaGreat
