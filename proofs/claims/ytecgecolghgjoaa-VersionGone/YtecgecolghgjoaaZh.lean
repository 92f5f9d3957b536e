import Derived.Test.YtecgecolghgjoaaZg
namespace Go.Proofs.Ytecgecolghgjoaa
namespace Vr
open Go.Shelf Go.RowKit Go.Lib Go.Sort Go.Maps Go.ChangeMaps Go.MapKept Laws Irw Crw
set_option linter.unusedVariables false
set_option linter.unusedSimpArgs false
set_option maxRecDepth 20000
/-- the set and what is pinned: itself tag 1, its map 2, its list of pins 6 -/
structure PAt (T : Nat → Nat) (w : World) (sb vb mb : Nat) (V : Lv) (P : List Pn) : Prop where
  ts : T sb = 1
  tm : T mb = 2
  box : ∃ pl ps : Sv, Zb w sb [.pointer (some ⟨vb, 0, none⟩), svV pl, svV ps, .map (some mb)] ∧ OwnK kPn 6 T w (svV pl) P
  ver : VT T w vb V
  pin : ∀ p ∈ P, VT T w p.vb p.V
  map : ∃ (m : Nat) (D : Dat), OwnM w mb m D
theorem VT.blk {T : Nat → Nat} {w : World} {vb : Nat} {V : Lv} (h : VT T w vb V) : Blk w vb := h.2.2.1
/-- what all of them hold -/
def allN (V : Lv) (P : List Pn) : List Nat := nums V ++ P.flatMap fun p => nums p.V
/-- how much there may be -/
structure Sz (V : Lv) (P : List Pn) : Prop where
  num : NumOk V
  len : (nums V).length ≤ 2500000
  nums : ∀ p ∈ P, NumOk p.V ∧ (Vr.nums p.V).length ≤ 2500000
  pins : P.length ≤ 300
theorem allN_len {V : Lv} {P : List Pn} (h : Sz V P) : ∀ k, (allN V (P.take k)).length ≤ 2500000 + k * 2500000 := by
  intro k
  unfold allN
  rw [List.length_append]
  have h1 := h.len
  have h2 : ∀ (Q : List Pn), (∀ p ∈ Q, (Vr.nums p.V).length ≤ 2500000) → (Q.flatMap fun p => Vr.nums p.V).length ≤ Q.length * 2500000 := by
    intro Q
    induction Q with
    | nil => intro _; simp
    | cons q Q ih =>
      intro hq
      rw [List.flatMap_cons, List.length_append, List.length_cons, Nat.succ_mul]
      have := ih fun p hp => hq p (List.mem_cons_of_mem _ hp)
      have := hq q (by simp)
      omega
  have h3 := h2 (P.take k) fun p hp => (h.nums p (List.mem_of_mem_take hp)).2
  have h4 : (P.take k).length * 2500000 ≤ k * 2500000 := Nat.mul_le_mul_right _ (by simp; omega)
  omega
theorem allN_take {V : Lv} {P : List Pn} {k : Nat} {p : Pn} (h : P[k]? = some p) : allN V (P.take (k + 1)) = allN V (P.take k) ++ nums p.V := by
  unfold allN
  rw [List.take_add_one, h, List.flatMap_append]
  simp
set_option maxHeartbeats 4000000 in
theorem countTables2_any {T : Nat → Nat} {w : World} {sb vb mb cb : Nat} {ps : Sv} {u : Value} {V : Lv} {ns : List Nat} (hts : T sb = 1) (hbox : Zb w sb [.pointer (some ⟨cb, 0, none⟩), u, svV ps, .map (some mb)]) (hv : VT T w vb V) (hm : CAt T w 2 mb ns) (hno : NumOk V) (hlen : ns.length ≤ 900000000) :
    Calls Try.prog 53 #[.pointer (some ⟨sb, 0, none⟩), .pointer (some ⟨vb, 0, none⟩)] w fun e w' => CtIs T w mb (ns ++ nums V) e w' := by
  obtain ⟨hf, hvt, _, ⟨sa, sn, sc⟩, hz, hlv⟩ := hv
  have c0 := hz.2.1 0 _ rfl
  have hn := hlv.1
  change sn = V.length at hn
  subst hn
  simp only [svV] at c0
  have hv5 := hf.1
  have HV : Hid (LvT T w (sa, V.length, sc) V ∧ Fits V ∧ NumOk V) := ⟨hlv, hf, hno⟩
  have HS : Hid (T sb = 1 ∧ Zb w sb [.pointer (some ⟨cb, 0, none⟩), u, svV ps, .map (some mb)]) := ⟨hts, hbox⟩
  have HM : Hid (CAt T w 2 mb ns) := hm
  clear hlv hf hno hts hbox hm hz
  go_enter Try.func53, Try.ntmps53
  go_wp2
  go_loopw [13] (fun i wr => ∃ k : Nat, k ≤ V.length ∧ i = .int .i64 (k : Int) ∧ Hid (Goes (· = 2) T w T wr ∧ CAt T wr 2 mb (ns ++ nums (V.take k)))) (fun i _ => V.length - (intOf i).toNat)
  case atStart => exact ⟨0, Nat.zero_le _, rfl, Goes.refl _ _ _, by simpa [nums] using HM.out⟩
  case round =>
    clear HM c0
    obtain ⟨k, hk, rfl, HX⟩ := hrel
    rename World => wr
    by_cases hlt : k < V.length
    · have q1 : (k : Int) < (V.length : Int) := by omega
      obtain ⟨l, hl⟩ : ∃ l, V[k]? = some l := ⟨_, List.getElem?_eq_getElem hlt⟩
      obtain ⟨lb, off, rfl, hlb, htl, ⟨va, vn, vc⟩, hc, hi⟩ := HV.out.1.cell hl
      have hvn := hi.2.1
      change vn = l.length at hvn
      subst hvn
      have hc2 := (HX.out.1.cell hlb (by rw [htl]; decide)).trans hc
      simp only [svV] at hc2
      have HI : Hid (Isk kTb T w (va, l.length, vc) l ∧ V[k]? = some l) := ⟨hi, hl⟩
      have hll := HV.out.2.1.2 l (List.mem_of_getElem? hl)
      clear hc hi hl
      go_wp2
      go_loopw [19] (fun i wr => ∃ j : Nat, j ≤ l.length ∧ i = .int .i64 (j : Int) ∧ Hid (Goes (· = 2) T w T wr ∧ CAt T wr 2 mb (ns ++ nums (V.take k) ++ (l.take j).map Tb.no))) (fun i _ => l.length - (intOf i).toNat)
      case atStart => exact ⟨0, Nat.zero_le _, rfl, HX.out.1, by simpa using HX.out.2⟩
      case round =>
        clear HX hc2
        obtain ⟨j, hj, rfl, HY⟩ := hrel
        rename World => wq
        by_cases hlj : j < l.length
        · have q2 : (j : Int) < (l.length : Int) := by omega
          obtain ⟨b, off2, rfl, hb, t, ht, y0, y1, y2, y3, y4, y5⟩ := (isk_goes2 HI.out.1 HY.out.1).ls.tb hlj
          have hb1 : RowKit.Below wq.heap.size wq (wq.alloc (Obj.cells #[.int .u64 (t.no : Int), .int .i64 t.we, .int .i64 t.by_, .int .i64 t.en, .string t.le, .string t.gr] 47)) := (Below.refl _ _).alloc (Nat.le_refl _) _
          have htn : t.no < U64 := HV.out.2.2 l (List.mem_of_getElem? HI.out.2) t (List.mem_of_getElem? ht)
          have x0 := ((HS.out.2.goes HY.out.1 (by rw [HS.out.1]; decide)).below hb1).2.1 3 _ rfl
          have hlen2 : (ns ++ nums (V.take k) ++ (l.take j).map Tb.no).length < 1000000000 := by
            have h1 := nums_le HV.out.2.1 k
            have h2 : k * 3000000 ≤ 5 * 3000000 := Nat.mul_le_mul_right _ (by omega)
            rw [List.length_append, List.length_append, List.length_map, List.length_take]
            have h3 : min j l.length ≤ 3000000 := Nat.le_trans (Nat.min_le_right _ _) hll
            omega
          have hlk := (HY.out.2.below hb1.drew).look t.no htn
          obtain ⟨w7, hr7, hd7, hg7⟩ := (HY.out.2.below hb1.drew).put t.no htn hlen2
          have hcl := List.count_le_length (a := t.no) (l := ns ++ nums (V.take k) ++ (l.take j).map Tb.no)
          obtain ⟨q, hq⟩ : ∃ q, (ns ++ nums (V.take k) ++ (l.take j).map Tb.no).count t.no = q := ⟨_, rfl⟩
          rw [hq] at hlk hr7 hcl
          have wq1 : IntKind.i64.wrap ((q : Int) + 1) = (q : Int) + 1 := IntWalk.i64_in _ (by omega)
          have HW7 : Hid (Goes (· = 2) T w T w7 ∧ CAt T w7 2 mb (ns ++ nums (V.take k) ++ (l.take j).map Tb.no ++ [t.no])) := ⟨HY.out.1.trans ((Goes.below (t := (· = 2)) hb1.drew).trans hg7), hd7⟩
          clear hd7 hg7 hq hlen2 hcl
          go_wp2
          go_region
          all_goals
            go_wp2
            go_roundw
            case rel =>
              refine ⟨j + 1, by omega, by go_num, HW7.out.1, ?_⟩
              have e : (l.take (j + 1)).map Tb.no = (l.take j).map Tb.no ++ [t.no] := by rw [List.take_add_one, ht]; simp
              rw [e, ← List.append_assoc]
              exact HW7.out.2
            case measure => simp [intOf]; omega
        · have q2 : ¬ (j : Int) < (l.length : Int) := by omega
          have HK : Hid (j = l.length) := show j = l.length by omega
          go_wp2
          go_roundw
          case rel =>
            refine ⟨k + 1, by omega, by go_num, HY.out.1, ?_⟩
            have := HY.out.2
            rw [HK.out, List.take_length, List.append_assoc, ← nums_take HI.out.2] at this
            exact this
          case measure => simp [intOf]; omega
    · have q1 : ¬ (k : Int) < (V.length : Int) := by omega
      have HK : Hid (k = V.length) := show k = V.length by omega
      go_wp2
      go_end0
      have := HX.out.2
      rw [HK.out, List.take_length] at this
      exact ⟨rfl, HX.out.1, this⟩
theorem Ls.pn {w : World} {a : Option Addr} {n c : Nat} {l : List Pn} (h : Ls kPn w (a, n, c) l) {i : Nat} (hi : i < l.length) : ∃ b off, a = some ⟨b, off, none⟩ ∧ b < w.heap.size ∧ ∃ p, l[i]? = some p ∧ w.cell? ⟨b, off + i * 2, none⟩ = some (.pointer (some ⟨p.vb, 0, none⟩)) ∧ w.cell? ⟨b, off + i * 2 + 1, none⟩ = some (.int .i64 p.ti) := by
  obtain ⟨b, off, e, hb, hc⟩ := h.cell (List.getElem?_eq_getElem hi)
  exact ⟨b, off, e, hb, _, List.getElem?_eq_getElem hi, hc 0 _ rfl, hc 1 _ rfl⟩
set_option maxHeartbeats 2000000 in
theorem recount2_any {T : Nat → Nat} {w : World} {sb vb mb : Nat} {V : Lv} {P : List Pn} (h : PAt T w sb vb mb V P) (hz : Sz V P) :
    Calls Try.prog 40 #[.pointer (some ⟨sb, 0, none⟩)] w fun e w' => CtIs T w mb (allN V P) e w' := by
  obtain ⟨m, D, hm⟩ := h.map
  obtain ⟨⟨pa, pn, pc⟩, ps, hbox, hown⟩ := h.box
  have hpn := (OwnK.sk hown).1
  change pn = P.length at hpn
  subst hpn
  obtain ⟨w1, hr, hc1, hg1⟩ := clear_run h.tm hm
  have hbox1 := hbox.goes hg1 (by rw [h.ts]; decide)
  have c3 := hbox.2.1 3 _ rfl
  have d0 := hbox1.2.1 0 _ rfl
  have HC : Hid (Calls Try.prog 53 #[.pointer (some ⟨sb, 0, none⟩), .pointer (some ⟨vb, 0, none⟩)] w1 fun e w' => CtIs T w1 mb (nums V) e w') := by
    have := countTables2_any (ns := []) h.ts hbox1 (h.ver.goes hg1 (by decide)) hc1 hz.num (Nat.zero_le _)
    rw [List.nil_append] at this
    exact this
  have HA : Hid (PAt T w sb vb mb V P ∧ Sz V P ∧ Zb w sb [.pointer (some ⟨vb, 0, none⟩), svV (pa, P.length, pc), svV ps, .map (some mb)] ∧ OwnK kPn 6 T w (svV (pa, P.length, pc)) P) := ⟨h, hz, hbox, hown⟩
  have HG : Hid (Goes (· = 2) T w T w1) := hg1
  have hp3 := hz.pins
  clear hc1 hg1 hbox1 hbox hown hm h hz
  go_enter Try.func40, Try.ntmps40
  go_upto_region 2 with (go_at_call 53; go_loud (refine HC.out.mono ?_; rintro e w2 ⟨rfl, hg2, hc2⟩; have HX : Hid (Goes (· = 2) T w T w2 ∧ CAt T w2 2 mb (nums V)) := ⟨HG.out.trans hg2, hc2⟩; clear hg2 hc2))
  have e1 := (HA.out.2.2.1.goes HX.out.1 (by rw [HA.out.1.ts]; decide)).2.1 1 _ rfl
  simp only [svV] at e1
  clear HC HG
  go_wp2
  go_loopw [19] (fun i wr => ∃ k : Nat, k ≤ P.length ∧ i = .int .i64 (k : Int) ∧ Hid (Goes (· = 2) T w T wr ∧ CAt T wr 2 mb (allN V (P.take k)))) (fun i _ => P.length - (intOf i).toNat)
  case atStart => exact ⟨0, Nat.zero_le _, rfl, HX.out.1, by simpa [allN] using HX.out.2⟩
  case round =>
    clear HX e1
    obtain ⟨k, hk, rfl, HX⟩ := hrel
    rename World => wr
    by_cases hlt : k < P.length
    · have q1 : (k : Int) < (P.length : Int) := by omega
      obtain ⟨b, off, e2, hb, p, hp, y0, y1⟩ := (Ls.own (s := (pa, P.length, pc)) (HA.out.2.2.2.goes HX.out.1 (by decide))).pn hlt
      subst e2
      have HP : Hid (P[k]? = some p) := hp
      have hpm : p ∈ P := List.mem_of_getElem? hp
      have hb1 : RowKit.Below wr.heap.size wr (wr.alloc (Obj.cells #[.pointer (some ⟨p.vb, 0, none⟩), .int .i64 p.ti] 79)) := (Below.refl _ _).alloc (Nat.le_refl _) _
      have HC : Hid (Calls Try.prog 53 #[.pointer (some ⟨sb, 0, none⟩), .pointer (some ⟨p.vb, 0, none⟩)] (wr.alloc (Obj.cells #[.pointer (some ⟨p.vb, 0, none⟩), .int .i64 p.ti] 79)) fun e w' => Goes (· = 2) T w T w' ∧ e = .returned (.tuple #[]) ∧ CAt T w' 2 mb (allN V (P.take (k + 1)))) := by
        have hg := HX.out.1.trans (Goes.below (t := (· = 2)) hb1)
        have hl := allN_len HA.out.2.1 k
        have := countTables2_any (ns := allN V (P.take k)) HA.out.1.ts (HA.out.2.2.1.goes hg (by rw [HA.out.1.ts]; decide)) ((HA.out.1.pin p hpm).goes hg (by decide)) (HX.out.2.below hb1) (HA.out.2.1.nums p hpm).1 (by
          have : k * 2500000 ≤ 300 * 2500000 := Nat.mul_le_mul_right _ (by omega)
          omega)
        rw [← allN_take HP.out] at this
        exact this.mono fun e w' hp => ⟨hg.trans hp.2.1, hp.1, hp.2.2⟩
      clear hp hpm
      go_wp2_with (go_at_call 53; go_loud (refine HC.out.mono ?_; rintro e w3 ⟨hg3, rfl, hc3⟩; have HY : Hid (Goes (· = 2) T w T w3 ∧ CAt T w3 2 mb (allN V (P.take (k + 1)))) := ⟨hg3, hc3⟩; clear hg3 hc3))
      go_roundw
      case rel => exact ⟨k + 1, by omega, by go_num, HY.out⟩
      case measure => simp [intOf]; omega
    · have q1 : ¬ (k : Int) < (P.length : Int) := by omega
      have HK : Hid (k = P.length) := show k = P.length by omega
      go_wp2
      go_end0
      have := HX.out
      rw [HK.out, List.take_length] at this
      exact ⟨rfl, this.1, this.2⟩
end Vr
end Go.Proofs.Ytecgecolghgjoaa
