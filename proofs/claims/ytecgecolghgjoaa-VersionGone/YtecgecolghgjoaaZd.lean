import Derived.Test.YtecgecolghgjoaaZc
namespace Go.Proofs.Ytecgecolghgjoaa
namespace Vr
open Go.Shelf Go.RowKit Go.Maps Go.ChangeMaps Go.MapKept Laws Irw Crw
set_option linter.unusedVariables false
set_option linter.unusedSimpArgs false
set_option maxRecDepth 20000
/-- what is taken out -/
structure Pc where
  lv : Int
  no : Nat
def pcC (p : Pc) : List Value := [.int .i64 p.lv, .int .u64 (p.no : Int)]
def kPc : Knd Pc := ⟨61, 2, 16, .agg #[.int .i64 0, .int .u64 0], pcC, fun _ => rfl, fun x u hu => by simp [pcC] at hu; rcases hu with rfl | rfl <;> rfl, by omega, rfl, by omega⟩
theorem infoPc : (Try.prog.info? 61).map (fun i => (i.zero, i.size, i.bytes)) = some (some kPc.zero, 2, 16) := by kernel_rfl
/-- taking out, number by number -/
def takes (n : Nat) : List (Nat × Nat) → List Pc → Except Int (List (Nat × Nat))
  | Q, [] => .ok Q
  | Q, p :: r =>
    if 0 ≤ p.lv ∧ p.lv < n then
      if (p.no, p.lv.toNat) ∈ Q then takes n (Q.filter fun q => q.1 != p.no) r else .error eNone
    else .error eLevel
theorem takes_append : ∀ (n : Nat) (Q : List (Nat × Nat)) (l r : List Pc), takes n Q (l ++ r) = match takes n Q l with
    | .error e => .error e
    | .ok Q1 => takes n Q1 r
  | n, Q, [], r => by simp [takes]
  | n, Q, p :: l, r => by
    rw [List.cons_append, takes, takes]
    by_cases h1 : 0 ≤ p.lv ∧ p.lv < n
    · rw [if_pos h1, if_pos h1]
      by_cases h2 : (p.no, p.lv.toNat) ∈ Q
      · rw [if_pos h2, if_pos h2]
        exact takes_append n _ l r
      · rw [if_neg h2, if_neg h2]
    · rw [if_neg h1, if_neg h1]
theorem takes_err {n : Nat} {Q Q1 : List (Nat × Nat)} {l : List Pc} {k : Nat} {p : Pc} {e : Int} (h : takes n Q (l.take k) = .ok Q1) (hp : l[k]? = some p) (he : takes n Q1 [p] = .error e) : takes n Q l = .error e := by
  have h1 : l = l.take k ++ ([p] ++ l.drop (k + 1)) := by
    obtain ⟨h1, h2⟩ := List.getElem?_eq_some_iff.1 hp
    rw [List.singleton_append, ← h2, ← List.drop_eq_getElem_cons h1, List.take_append_drop]
  rw [h1, takes_append, h]
  dsimp only
  rw [takes_append, he]
theorem takes_step {n : Nat} {Q Q1 Q2 : List (Nat × Nat)} {l : List Pc} {k : Nat} {p : Pc} (h : takes n Q (l.take k) = .ok Q1) (hp : l[k]? = some p) (he : takes n Q1 [p] = .ok Q2) : takes n Q (l.take (k + 1)) = .ok Q2 := by
  rw [List.take_add_one, hp, takes_append, h]
  exact he
theorem takes_one_level {n : Nat} {Q : List (Nat × Nat)} {p : Pc} (h : ¬ (0 ≤ p.lv ∧ p.lv < n)) : takes n Q [p] = .error eLevel := by
  rw [takes, if_neg h]
theorem takes_one_none {n : Nat} {Q : List (Nat × Nat)} {p : Pc} (h : 0 ≤ p.lv ∧ p.lv < n) (h2 : (p.no, p.lv.toNat) ∉ Q) : takes n Q [p] = .error eNone := by
  rw [takes, if_pos h, if_neg h2]
theorem takes_one_ok {n : Nat} {Q : List (Nat × Nat)} {p : Pc} (h : 0 ≤ p.lv ∧ p.lv < n) (h2 : (p.no, p.lv.toNat) ∈ Q) : takes n Q [p] = .ok (Q.filter fun q => q.1 != p.no) := by
  rw [takes, if_pos h, if_pos h2]; rfl
/-- the keys that stay -/
theorem keys_filter {Q : List (Nat × Nat)} (hQ : (Q.map Prod.fst).Nodup) (n : Nat) : (Q.filter fun q => q.1 != n).map Prod.fst = (Q.map Prod.fst).erase n := by
  rw [List.Nodup.erase_eq_filter hQ, List.filter_map]
  rfl
theorem size_erase {w : World} {mb m : Nat} {D : Dat} (h : OwnM w mb m D) (m' : Nat) (hs : Maps.size D ≤ m') : OwnM w mb m' D := by
  obtain ⟨es, c, h1, h2, h3, h4⟩ := h
  refine ⟨es, c, h1, h2, ?_, h4⟩
  rw [h4] at hs
  simpa [Maps.size, length_sorted] using hs
theorem WAt.drop {T : Nat → Nat} {w : World} {t mb : Nat} {ns : List Nat} (h : WAt T w t mb ns) (hq : ns.Nodup) (n : Nat) (hn : n < U64) (hmem : n ∈ ns) :
    ∃ w', (∀ ty, (Builtin.delete_ #[66, 33] ty #[.map (some mb), .int .u64 (n : Int)]).run Try.prog w = .ok (.tuple #[]) w') ∧ WAt T w' t mb (ns.erase n) ∧ Goes (· = t) T w T w' := by
  obtain ⟨D, h1, h2⟩ := h.own
  obtain ⟨w', hr, h3, h4⟩ := World.ownsMap.drop h1 law64 Try.underlying66 (key64 hn) 0
  have hr2 : ∀ ty, (Builtin.delete_ #[66, 33] ty #[.map (some mb), .int .u64 (n : Int)]).run Try.prog w = .ok (.tuple #[]) w' := fun ty => hr
  have hs := Maps.size_del (D := D) (k := .int .u64 (n : Int)) (h1.tidy law64)
  have hs2 := h1.size_le
  refine ⟨w', hr2, ⟨h.tag, _, size_erase h3 _ ?_, fun k hk => ?_⟩, goes_map h.tag h4.grown⟩
  · rw [h2 n hn, decide_eq_true hmem, if_pos rfl] at hs
    rw [List.length_erase_of_mem hmem]
    omega
  · by_cases e : k = n
    · subst e
      rw [Maps.has_del_same]
      simp [hq.mem_erase_iff]
    · rw [Maps.has_del_other (lit_ne e), h2 k hk]
      simp [hq.mem_erase_iff, e]
theorem own_uniq {w : World} {mb m m' : Nat} {D D' : Dat} (h : OwnM w mb m D) (k : OwnM w mb m' D') : D' = D := by
  obtain ⟨es, c, a1, a2, a3, a4⟩ := h
  obtain ⟨es', c', b1, b2, b3, b4⟩ := k
  rw [a1] at b1
  cases b1
  exact b4.trans a4.symm
theorem LvM.drop {w w' : World} {mb n : Nat} {Q : List (Nat × Nat)} (h : LvM w mb Q) (hn : n < U64) (hr : (Builtin.delete_ #[66, 33] 0 #[.map (some mb), .int .u64 (n : Int)]).run Try.prog w = .ok (.tuple #[]) w') : LvM w' mb (Q.filter fun q => q.1 != n) := by
  obtain ⟨m, D, h1, h2, h3⟩ := h
  obtain ⟨w2, hr2, h4, h5⟩ := World.ownsMap.drop h1 law64 Try.underlying66 (key64 hn) 0
  rw [hr] at hr2
  cases hr2
  refine ⟨m, _, h4, h2, fun p hp => ?_⟩
  obtain ⟨hp1, hp2⟩ := List.mem_filter.1 hp
  have hne : p.1 ≠ n := by simpa using hp2
  obtain ⟨g1, g2, g3⟩ := h3 p hp1
  exact ⟨g1, by rw [Maps.has_del_other (lit_ne hne)]; exact g2, by rw [Maps.atKey_del_other (lit_ne hne)]; exact g3⟩
theorem LvM.look {w : World} {mb n v : Nat} {Q : List (Nat × Nat)} (h : LvM w mb Q) (hm : (n, v) ∈ Q) (W : World) (hW : W.heap[mb]? = w.heap[mb]?) :
    (Instr.lookup 66 (.map (some mb)) (.int .u64 (n : Int)) true).run Try.prog W = .ok (.tuple #[.int .i64 (v : Int), .bool true]) W := by
  obtain ⟨m, D, h1, h2, h3⟩ := h
  obtain ⟨g1, g2, g3⟩ := h3 _ hm
  obtain ⟨x, ps, hr, hv⟩ := World.ownsMap.look_ok (h1.block hW) law64 Try.underlying66 (zeroI W) (plainElem_int Try.underlying3 (by decide)) (key64 g1)
  obtain ⟨c, rfl, hc, _⟩ := plainElem_int_inv Try.underlying3 hv
  rw [g2] at hr
  have hc2 : D.atKey (.int .u64 (n : Int)) (.lit (.int .i64 0)) = .lit (.int .i64 c) := by simpa using congrArg Prod.fst hc
  rw [g3] at hc2
  have : (v : Int) = c := by simpa using hc2
  rw [this]
  exact hr
theorem Ls.pc {w : World} {a : Option Addr} {n c : Nat} {l : List Pc} (h : Ls kPc w (a, n, c) l) {i : Nat} (hi : i < l.length) : ∃ b off, a = some ⟨b, off, none⟩ ∧ b < w.heap.size ∧ ∃ p, l[i]? = some p ∧ w.cell? ⟨b, off + i * 2, none⟩ = some (.int .i64 p.lv) ∧ w.cell? ⟨b, off + i * 2 + 1, none⟩ = some (.int .u64 (p.no : Int)) := by
  obtain ⟨b, off, e, hb, hc⟩ := h.cell (List.getElem?_eq_getElem hi)
  exact ⟨b, off, e, hb, _, List.getElem?_eq_getElem hi, hc 0 _ rfl, hc 1 _ rfl⟩
theorem pair_uniq : ∀ {Q : List (Nat × Nat)} {n v i : Nat}, (Q.map Prod.fst).Nodup → (n, v) ∈ Q → (n, i) ∈ Q → v = i
  | [], n, v, i, _, h, _ => by simp at h
  | q :: Q, n, v, i, hn, h1, h2 => by
    rw [List.map_cons, List.nodup_cons] at hn
    rcases List.mem_cons.1 h1 with e1 | k1
    · rcases List.mem_cons.1 h2 with e2 | k2
      · rw [← e1] at e2; cases e2; rfl
      · rw [← e1] at hn; exact absurd (List.mem_map.2 ⟨_, k2, rfl⟩) hn.1
    · rcases List.mem_cons.1 h2 with e2 | k2
      · rw [← e2] at hn; exact absurd (List.mem_map.2 ⟨_, k1, rfl⟩) hn.1
      · exact pair_uniq hn.2 k1 k2
def TkIs (w0 : World) (db mb lb n c : Nat) (V : Lv) (O : List Pc) (e : Ending) (w' : World) : Prop :=
  match takes V.length (prs V 0) O with
  | .error x => e = .returned (.int .i64 x) ∧ Below w0.heap.size w0 w'
  | .ok Q => e = .returned (.int .i64 0) ∧ ∃ T, DAt w0 T w' db mb (some ⟨lb, 0, none⟩, n, c) (V.map (stay (Q.map Prod.fst))) (Q.map Prod.fst)
theorem TkIs.err {w0 : World} {db mb lb n c : Nat} {V : Lv} {O : List Pc} {w' : World} {x : Int} (h : takes V.length (prs V 0) O = .error x) (hb : Below w0.heap.size w0 w') : TkIs w0 db mb lb n c V O (.returned (.int .i64 x)) w' := by
  unfold TkIs
  rw [h]
  exact ⟨rfl, hb⟩
/-- what stands while it is taken out -/
structure Tk (w0 : World) (T : Nat → Nat) (w : World) (db mb lb n c : Nat) (V : Lv) (O : List Pc) (k : Nat) (Q : List (Nat × Nat)) : Prop where
  run : takes V.length (prs V 0) (O.take k) = .ok Q
  dat : DAt w0 T w db mb (some ⟨lb, 0, none⟩, n, c) V (Q.map Prod.fst)
  lvm : LvM w mb Q
  nod : (Q.map Prod.fst).Nodup
theorem DAt.drop {w0 : World} {T : Nat → Nat} {w : World} {db mb : Nat} {ls : Sv} {V : Lv} {ns : List Nat} (h : DAt w0 T w db mb ls V ns) (hq : ns.Nodup) (n : Nat) (hn : n < U64) (hmem : n ∈ ns) :
    ∃ w', (∀ ty, (Builtin.delete_ #[66, 33] ty #[.map (some mb), .int .u64 (n : Int)]).run Try.prog w = .ok (.tuple #[]) w') ∧ DAt w0 T w' db mb ls V (ns.erase n) ∧ Goes (· = 4) T w T w' := by
  obtain ⟨w', hr, h1, h2⟩ := h.map.drop hq n hn hmem
  obtain ⟨vs, l1, l2, l3⟩ := h.lvl
  exact ⟨w', hr, ⟨h.old.goes h2 (by decide), h.td, h.box.goes h2 (by rw [h.td]; decide), ⟨vs, l1.goes h2 (by decide), l2, fun i v l hv hl => (l3 i v l hv hl).goes h2 (by omega)⟩, h1⟩, h2⟩
set_option maxHeartbeats 4000000 in
theorem takeOut_any {w0 : World} {T : Nat → Nat} {w : World} {db mb lb n c : Nat} {V : Lv} (oa : Option Addr) (oc : Nat) (O : List Pc) (h : DAt w0 T w db mb (some ⟨lb, 0, none⟩, n, c) V (nums V)) (hlv : LvM w mb (prs V 0)) (hq : (nums V).Nodup) (hl : Ls kPc w0 (oa, O.length, oc) O) (hO : ∀ p ∈ O, p.no < U64) (hol : O.length ≤ 3000000) (hf : Fits V) (hno : NumOk V) :
    Calls Try.prog 37 #[.pointer (some ⟨db, 0, none⟩), .slice oa O.length oc] w fun e w' => TkIs w0 db mb lb n c V O e w' := by
  have hn := h.len
  have hn5 : n ≤ 5 := by have := hf.1; omega
  have HN : Hid (n = V.length) := hn
  have HA : Hid (Ls kPc w0 (oa, O.length, oc) O ∧ (∀ p ∈ O, p.no < U64) ∧ Fits V ∧ NumOk V) := ⟨hl, hO, hf, hno⟩
  have HS : Hid (Tk w0 T w db mb lb n c V O 0 (prs V 0)) := ⟨by simp [takes], by rw [prs_nums]; exact h, hlv, by rw [prs_nums]; exact hq⟩
  clear h hlv hq hl hO hf hno hn
  go_enter Try.func37, Try.ntmps37
  go_wp2
  go_loopw [11] (fun i wr => ∃ (k : Nat) (Q : List (Nat × Nat)), k ≤ O.length ∧ i = .int .i64 (k : Int) ∧ Hid (Tk w0 T wr db mb lb n c V O k Q)) (fun i _ => O.length - (intOf i).toNat)
  case atStart => exact ⟨0, _, Nat.zero_le _, rfl, HS.out⟩
  case round =>
    clear HS
    obtain ⟨k, Q, hk, rfl, HX⟩ := hrel
    rename World => wr
    by_cases hlt : k < O.length
    · have q1 : (k : Int) < (O.length : Int) := by omega
      obtain ⟨b, off, rfl, hb, p, hp, c0, c1⟩ := (HA.out.1.below HX.out.dat.old.below).pc hlt
      obtain ⟨lv, no⟩ := p
      simp only at c0 c1
      have HP : Hid (O[k]? = some ⟨lv, no⟩) := hp
      have hpn : no < U64 := HA.out.2.1 _ (List.mem_of_getElem? hp)
      clear hp
      go_upto_region 4 with (fail)
      obtain ⟨W, hW⟩ : ∃ W, wr.alloc (Obj.cells #[.int .i64 lv, .int .u64 (no : Int)] 61) = W := ⟨_, rfl⟩
      have HW : Hid (Below wr.heap.size wr W ∧ Zb W wr.heap.size [.int .i64 lv, .int .u64 (no : Int)]) := by
        rw [← hW]
        exact ⟨(Below.refl _ _).alloc (Nat.le_refl _) _, Zb.new _ _ _⟩
      have HD : Hid (DAt w0 T W db mb (some ⟨lb, 0, none⟩, n, c) V (Q.map Prod.fst) ∧ LvM W mb Q) := ⟨HX.out.dat.below HW.out.1, HX.out.lvm.below HW.out.1⟩
      have d0 := HD.out.1.box.2.1 0 _ rfl
      have d1 := HD.out.1.box.2.1 1 _ rfl
      simp only [svV] at d0
      have z0 := HW.out.2.2.1 0 _ rfl
      have z1 := HW.out.2.2.1 1 _ rfl
      obtain ⟨bx, hbx⟩ : ∃ b, wr.heap.size = b := ⟨_, rfl⟩
      rw [hW, hbx]
      rw [hbx] at z0 z1
      clear c0 c1 hW hbx
      by_cases hlv : 0 ≤ lv ∧ lv < n
      · have hd : decide (0 ≤ lv ∧ lv < (n : Int)) = true := by simpa using hlv
        have HI : Hid (∀ d, Calls Try.prog 47 #[.slice (some ⟨lb, 0, none⟩) n c, .int .i64 lv] (W.drewN d) fun e w' => e = .returned (.bool true) ∧ w' = W.drewN d) := fun d => by
          have := isLevel_any (some ⟨lb, 0, none⟩) n c lv (W.drewN d)
          rw [hd] at this
          exact this
        obtain ⟨i, rfl⟩ : ∃ i : Nat, lv = i := ⟨lv.toNat, by omega⟩
        have HLV : Hid (0 ≤ (i : Int) ∧ (i : Int) < V.length) := by have := hlv.2; rw [HN.out] at this; exact ⟨hlv.1, this⟩
        clear hd
        go_quiet ((go_at_call 47; exact Calls.quiet_of_same (HI.out _)))
        go_wp2
        by_cases hin : no ∈ Q.map Prod.fst
        · obtain ⟨⟨n2, v⟩, hmem, rfl⟩ := List.mem_map.1 hin
          simp only at *
          have hx1 := HD.out.2.look hmem (W.drewN (nq + 1)) rfl
          by_cases hvi : v = i
          · subst hvi
            have HM : Hid ((n2, v) ∈ Q) := hmem
            obtain ⟨w7, hr7, hd7, hg7⟩ := (HD.out.1.below (bl_dn (Below.refl _ _) (nq + 1 + 1))).drop HX.out.nod n2 hpn hin
            have HW7 : Hid (Tk w0 T w7 db mb lb n c V O (k + 1) (Q.filter fun q => q.1 != n2)) := by
              refine ⟨takes_step HX.out.run HP.out (takes_one_ok HLV.out (by simpa using HM.out)), ?_, ?_, ?_⟩
              · rw [keys_filter HX.out.nod]; exact hd7
              · exact (HD.out.2.below (bl_dn (Below.refl _ _) (nq + 1 + 1))).drop hpn (hr7 0)
              · rw [keys_filter HX.out.nod]; exact HX.out.nod.erase _
            clear hd7 hg7 hmem hin
            go_region
            all_goals
              go_wp2
              go_region
              all_goals
                go_wp2
                go_roundw
                case rel => exact ⟨k + 1, _, by omega, by go_num, HW7.out⟩
                case measure => simp [intOf]; omega
          · have hvi2 : ¬ (v : Int) = (i : Int) := by omega
            have HE : Hid (takes V.length (prs V 0) O = .error eNone) := takes_err HX.out.run HP.out (takes_one_none HLV.out (by
              intro hm
              have e1 : ((i : Int)).toNat = i := by simp
              rw [e1] at hm
              exact hvi (pair_uniq HX.out.nod hmem hm)))
            clear hmem hin
            go_region
            all_goals
              go_wp2
              go_ret
              exact TkIs.err HE.out (bl_dn HD.out.1.old.below _)
        · obtain ⟨x, hx⟩ := HD.out.1.map.look' no hpn
          have hx1 := hx (W.drewN (nq + 1)) rfl
          rw [decide_eq_false hin] at hx1
          have HE : Hid (takes V.length (prs V 0) O = .error eNone) := takes_err HX.out.run HP.out (takes_one_none HLV.out (fun hm => hin (List.mem_map.2 ⟨_, hm, rfl⟩)))
          clear hx hin
          go_region
          all_goals
            go_wp2
            go_ret
            exact TkIs.err HE.out (bl_dn HD.out.1.old.below _)
      · have hd : decide (0 ≤ lv ∧ lv < (n : Int)) = false := by simpa using hlv
        have HI : Hid (∀ d, Calls Try.prog 47 #[.slice (some ⟨lb, 0, none⟩) n c, .int .i64 lv] (W.drewN d) fun e w' => e = .returned (.bool false) ∧ w' = W.drewN d) := fun d => by
          have := isLevel_any (some ⟨lb, 0, none⟩) n c lv (W.drewN d)
          rw [hd] at this
          exact this
        have HE : Hid (takes V.length (prs V 0) O = .error eLevel) := takes_err HX.out.run HP.out (takes_one_level (by rw [← HN.out]; exact hlv))
        clear hd hlv
        go_quiet ((go_at_call 47; exact Calls.quiet_of_same (HI.out _)))
        go_wp2
        go_ret
        exact TkIs.err HE.out (bl_dn HD.out.1.old.below _)
    · have q1 : ¬ (k : Int) < (O.length : Int) := by omega
      have HK : Hid (k = O.length) := show k = O.length by omega
      have HC : Hid (Calls Try.prog 48 #[.pointer (some ⟨db, 0, none⟩)] wr fun e w' => DtIs w0 db mb (some ⟨lb, 0, none⟩, n, c) V (Q.map Prod.fst) T e w') := dropTaken_any HX.out.dat HA.out.2.2.1 HA.out.2.2.2
      go_wp2_with (go_at_call 48; go_loud (refine HC.out.mono ?_; rintro e w1 ⟨rfl, hd⟩; have HD : Hid (DAt w0 T w1 db mb (some ⟨lb, 0, none⟩, n, c) (V.map (stay (Q.map Prod.fst))) (Q.map Prod.fst)) := hd; clear hd))
      go_ret
      have := HX.out.run
      rw [HK.out, List.take_length] at this
      unfold TkIs
      rw [this]
      exact ⟨rfl, T, HD.out⟩
end Vr
end Go.Proofs.Ytecgecolghgjoaa
