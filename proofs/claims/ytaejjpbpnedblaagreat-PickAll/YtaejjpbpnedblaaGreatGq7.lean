import Derived.Test.YtaejjpbpnedblaaGreatGq6
import Derived.Test.YtaejjpbpnedblaaGreatFi
import Derived.OrdersHeld
namespace Go.Proofs.YtaejjpbpnedblaaGreat
namespace Vr
open Go.Shelf Go.RowKit Go.Lib Go.Sort Go.Maps Go.ChangeMaps Go.MapKept Laws Irw Crw
set_option linter.unusedVariables false
set_option linter.unusedSimpArgs false
set_option maxRecDepth 20000
theorem OwnK.off0 {α : Type} {K : Knd α} {t : Nat} {T : Nat → Nat} {w : World} {s : Sv} {l : List α} (h : OwnK K t T w (svV s) l) : ∀ b off, s.1 = some ⟨b, off, none⟩ → off = 0 := fun b off e => by
  obtain ⟨sa, sn, sc⟩ := s
  rcases h.1.2 with ⟨q1, _⟩ | ⟨g, cap, cur, q1, _⟩
  · unfold svV at q1
    simp only [Value.slice.injEq] at q1
    rw [q1.1] at e
    cases e
  · unfold svV at q1
    simp only [Value.slice.injEq] at q1
    rw [q1.1] at e
    simp only [Option.some.injEq, Addr.mk.injEq] at e
    exact e.2.1.symm
theorem Ls.cut {w : World} {g n c m : Nat} {l : List Tb} (h : Ls kTb w (some ⟨g, 0, none⟩, n, c) l) (hm : m ≤ l.length) : Ls kTb w (some ⟨g, 0, none⟩, m, c) (l.take m) := by
  obtain ⟨h1, h2, h3, h4, h5⟩ := Ls.take h hm
  refine ⟨h1, h2, fun e => (by cases e), ?_, .inr ⟨_, _, rfl⟩⟩
  have := h.2.2.2.1
  rw [List.length_take]
  change l.length ≤ c at this
  show min m l.length ≤ c
  omega
theorem jobL_is {f : Nat} {V : Lv} {ps : List ByteArray} {i : Nat} {l lo : List Tb} {t : Tb} (hi : i ≠ 0) (hl : lev V (i : Int) = l) (ht : l[beh l (ptr ps i)]? = some t) (hlo : (lev V ((i : Int) + 1)).filter (over t.le t.gr) = lo) :
    jobL f V ps i = ⟨(i : Int), [t], lo.take f, if f < lo.length then (lo.getD f noT).le else ⟨#[]⟩, (lo.take f).isEmpty && decide (i + 1 < V.length - 1)⟩ := by
  unfold jobL
  rw [if_neg hi, hl, List.getD_eq_getElem?_getD, ht]
  show inp f V.length V i t = _
  unfold inp dn
  rw [hlo]
set_option maxHeartbeats 8000000 in
theorem rinputsI_any (c : Cf) (V : Lv) (la : Option Addr) (lc : Nat) (pa : Option Addr) (pc : Nat) (ps : List ByteArray) (i f : Nat) (w : World) (h : LsAt w (la, V.length, lc) V) (hf : Fits V) (hc : Cr c V.length) (hpp : Ls kT w (pa, ps.length, pc) ps) (hps : ps.length ≤ 1000000000) (hff : c 12 = f) (hi1 : 1 ≤ i) (hi2 : i + 1 < V.length) (hpos : 0 < (lev V (i : Int)).length) :
    Calls Tryz.prog 34 #[.agg (cfgA c), .slice la V.length lc, .slice pa ps.length pc, .int .i64 (i : Int)] w fun e w' => JnIs w (jobL f V ps i) true e w' := by
  obtain ⟨iz, hi, hz0, hz1, hz2⟩ := info_parts infoTb
  have hfa := hc.fa
  rw [hff] at hfa
  have hf1 : 1 ≤ f := by omega
  have hf16 : f ≤ 16 := by omega
  have HFF := hidV hff
  clear hff hfa
  have hn5 := hc.n5
  have hn3 := hc.n3
  obtain ⟨W, hW⟩ : ∃ X, (w.alloc (Obj.cells (cfgA c) 23)).alloc (Obj.cells #[.int .i64 0, .slice none 0 0, .slice none 0 0, .string ⟨#[]⟩, .bool false] 62) = X := ⟨_, rfl⟩
  have HW : Hid (RowKit.Below w.heap.size w W ∧ Lc W w.heap.size c ∧ Zb W (w.heap.size + 1) (jbC 0 nS nS ⟨#[]⟩ false) ∧ W.heap.size = w.heap.size + 2) := by
    subst hW
    exact ⟨((Below.refl _ _).alloc (Nat.le_refl _) _).alloc (by simp) _, (lc_new w c 23).keep (by simp) ((Below.refl _ _).alloc (Nat.le_refl _) _), Zb.new2 w _ _ _, by simp⟩
  have l8 : W.cell? ⟨w.heap.size, 8, none⟩ = some (.int .i64 (V.length : Int)) := HW.out.2.1.cell 8 (by rw [← hc.lv]; rfl)
  have w1 : IntKind.i64.wrap ((V.length : Int) - 1) = (V.length : Int) - 1 := IntWalk.i64_in _ (by omega)
  have hiV : (i : Int) < (V.length : Int) := by omega
  have hiG : ¬ (i : Int) ≥ (V.length : Int) - 1 := by omega
  obtain ⟨b, off, ua, uc, rfl, hb, hci0, hLi⟩ := h.get (i := i) (by omega)
  have hci := (HW.out.1.cell (p := ⟨b, off + i, none⟩) hb).trans hci0
  clear hci0
  have hli := hf.len (i : Int)
  have HA := hidV (And.intro h (And.intro hf (And.intro hc (And.intro hLi (And.intro hpp hps)))))
  obtain ⟨l, hl⟩ : ∃ l, lev V (i : Int) = l := ⟨_, rfl⟩
  have hi00 : ¬ (i : Int) < 0 := by omega
  rw [hl] at hci hli hpos
  have HLL : Hid (lev V (i : Int) = l ∧ Ls kTb w (ua, l.length, uc) l) := ⟨hl, by rw [← hl]; exact hLi⟩
  have hl0 : ¬ (l.length : Int) = 0 := by omega
  have hl1 : ¬ l.length = 0 := by omega
  have hl2 : ((l.length : Int) == 0) = false := by rw [beq_eq_false_iff_ne]; omega
  clear h hf hc hLi hl hpp hps
  go_enter Tryz.func34, Tryz.ntmps34
  go_upto_region 1 with fail
  (try rw [hW])
  clear hW
  go_upto_region 5 with fail
  obtain ⟨X, hX⟩ : ∃ X, W.alloc (Obj.cells #[.int .i64 (i : Int), .slice none 0 0, .slice none 0 0, .string ⟨#[]⟩, .bool false] 62) = X := ⟨_, rfl⟩
  have HX : Hid (RiS w c ⟨(i : Int), [], [], ⟨#[]⟩, false⟩ nS nS X ∧ RowKit.Below W.heap.size W X) := by
    subst hX
    have hb1 : RowKit.Below W.heap.size W (W.alloc (Obj.cells #[.int .i64 (i : Int), .slice none 0 0, .slice none 0 0, .string ⟨#[]⟩, .bool false] 62)) := (Below.refl _ _).alloc (Nat.le_refl _) _
    have hz := Zb.new W #[.int .i64 (i : Int), .slice none 0 0, .slice none 0 0, .string ⟨#[]⟩, .bool false] 62
    rw [HW.out.2.2.2] at hz
    exact ⟨⟨HW.out.1.trans (hb1.mono HW.out.1.size), HW.out.2.1.keep (by rw [HW.out.2.2.2]; omega) hb1, HW.out.2.2.1.below hb1, hz, ⟨Ls.nil _, Ls.nil _⟩, fun b off e => (by cases e), fun b off e => (by cases e)⟩, hb1⟩
  rw [hX, HW.out.2.2.2]
  clear hX hl2 hi00 l8 hci hiG
  have hi0 : ¬ (i : Int) = 0 := by omega
  obtain ⟨p, hp⟩ : ∃ p, ptr ps i = p := ⟨_, rfl⟩
  have HP := hidV hp
  go_upto_if 87 with fail
  go_cut [15] (fun v wx => v = .string p ∧ wx = X)
  case first =>
    by_cases hip : i < ps.length
    · have hip' : (i : Int) < (ps.length : Int) := by omega
      obtain ⟨pb, po, rfl, hpb, hpcell⟩ := (HA.out.2.2.2.2.1.below HX.out.1.b).cell (i := i) (x := p) (by rw [← hp]; unfold ptr; rw [List.getElem?_eq_getElem hip]; rfl)
      have cp : X.cell? ⟨pb, po + i, none⟩ = some (.string p) := by
        have := hpcell 0 _ rfl
        simpa [kT] using this
      clear hpcell hp
      go_wp2_with fail
      go_meet
      case rel => exact ⟨rfl, by first | rfl | trivial⟩
    · have hip' : ¬ (i : Int) < (ps.length : Int) := by omega
      have hp0 : p = ⟨#[]⟩ := by
        rw [← hp]
        unfold ptr
        rw [List.getElem?_eq_none (by omega)]
        rfl
      subst hp0
      clear hp
      go_wp2_with fail
      go_meet
      case rel => exact ⟨rfl, by first | rfl | trivial⟩
  case rest =>
    obtain ⟨rfl, hwx⟩ := hcut
    have hwx' := hwx.symm
    clear hwx
    subst hwx'
    clear hp
    have HLX := hidV (HLL.out.2.below HX.out.1.b)
    go_upto_block 2 with fail
    go_cut [16] (fun v wx => ∃ k : Nat, v = .int .i64 (k : Int) ∧ k ≤ l.length ∧ wx = X ∧ Hid ((∀ (j : Nat) x, j < k → l[j]? = some x → ltS p x.le = false) ∧ ∀ x, l[k]? = some x → ltS p x.le = true))
    case first =>
      have hle := leqS
      go_wp2_with fail
      go_loopw [16] (fun iv wr => ∃ k : Nat, k ≤ l.length ∧ iv = .int .i64 (k : Int) ∧ wr = X ∧ Hid (∀ (j : Nat) x, j < k → l[j]? = some x → ltS p x.le = false)) (fun iv _ => l.length - (intOf iv).toNat)
      case atStart => exact ⟨0, Nat.zero_le _, rfl, by first | rfl | trivial, fun j x hj => absurd hj (Nat.not_lt_zero _)⟩
      case round =>
        obtain ⟨k, hk, rfl, hwr, HB⟩ := hrel
        have hwr' := hwr.symm
        clear hwr
        subst hwr'
        by_cases hlt : k < l.length
        · have q1 : (k : Int) < (l.length : Int) := by omega
          obtain ⟨tb, to_, rfl, htb, t, ht, y0, y1, y2, y3, y4, y5⟩ := HLX.out.tb hlt
          have HT := hidV ht
          clear ht
          cases hq : ltS p t.le with
          | true =>
            go_wp2_with fail
            go_meet
            case rel => exact ⟨k, rfl, hk, by first | rfl | trivial, ⟨HB.out, fun x hx => by
              rw [HT.out] at hx
              injection hx with hx
              rw [← hx]
              exact hq⟩⟩
          | false =>
            go_wp2_with fail
            go_roundw
            case rel => exact ⟨k + 1, by omega, by go_num, by first | rfl | trivial, fun j x hj hx => by
              by_cases hjk : j = k
              · rw [hjk, HT.out] at hx
                injection hx with hx
                rw [← hx]
                exact hq
              · exact HB.out j x (by omega) hx⟩
            case measure => simp [intOf]; omega
        · have q1 : ¬ (k : Int) < (l.length : Int) := by omega
          go_wp2_with fail
          go_meet
          case rel => exact ⟨k, rfl, hk, by first | rfl | trivial, ⟨HB.out, fun x hx => by
            have := (List.getElem?_eq_some_iff.1 hx).1
            omega⟩⟩
    case rest =>
      obtain ⟨k, rfl, hk, hwx, HB⟩ := hcut
      have hwx' := hwx.symm
      clear hwx
      subst hwx'
      obtain ⟨m, hm⟩ : ∃ m, beh l p = m := ⟨_, rfl⟩
      have hml : m < l.length := by rw [← hm]; exact beh_lt p hpos
      have HM := hidV hm
      have hmk : if k < l.length then m = k else m = 0 := by
        split
        · rename_i hkl
          obtain ⟨t, ht⟩ : ∃ t, l[k]? = some t := ⟨_, List.getElem?_eq_getElem hkl⟩
          rw [← hm]
          exact beh_at ht (HB.out.2 t ht) HB.out.1
        · rw [← hm]
          exact beh_end fun j x hx => HB.out.1 j x (by have := (List.getElem?_eq_some_iff.1 hx).1; omega) hx
      clear hm HB
      go_upto_if 110 with fail
      go_cut [16] (fun v wx => v = .int .i64 (m : Int) ∧ wx = X)
      case first =>
        by_cases hkl : k < l.length
        · rw [if_pos hkl] at hmk
          have hkl' : ¬ (k : Int) = (l.length : Int) := by omega
          go_wp2_with fail
          go_meet
          case rel => exact ⟨by rw [hmk], by first | rfl | trivial⟩
        · rw [if_neg hkl] at hmk
          have hkl' : (k : Int) = (l.length : Int) := by omega
          go_wp2_with fail
          go_meet
          case rel => exact ⟨by rw [hmk]; rfl, by first | rfl | trivial⟩
      case rest =>
        obtain ⟨rfl, hwx⟩ := hcut
        have hwx' := hwx.symm
        clear hwx
        subst hwx'
        clear hmk hk
        obtain ⟨tb, to_, rfl, htb, t, ht, y0, y1, y2, y3, y4, y5⟩ := HLL.out.2.tb hml
        have HT : Hid (l[beh l (ptr ps i)]? = some t) := by
          show _ = _
          rw [HP.out, HM.out]
          exact ht
        have hml' : (m : Int) < (l.length : Int) := by omega
        have HYT := hidV (And.intro y0 (And.intro y1 (And.intro y2 (And.intro y3 (And.intro y4 y5)))))
        have htb' : Hid (tb < w.heap.size) := htb
        clear ht y0 y1 y2 y3 y4 y5 htb
        have HST : Hid (∀ Y, RowKit.Below (w.heap.size + 2) X Y → RowKit.Below (w.heap.size + 2) X Y ∧ Y.cell? ⟨tb, to_ + m * 6, none⟩ = some (.int .u64 (t.no : Int)) ∧ Y.cell? ⟨tb, to_ + m * 6 + 1, none⟩ = some (.int .i64 t.we) ∧ Y.cell? ⟨tb, to_ + m * 6 + 2, none⟩ = some (.int .i64 t.by_) ∧ Y.cell? ⟨tb, to_ + m * 6 + 3, none⟩ = some (.int .i64 t.en) ∧ Y.cell? ⟨tb, to_ + m * 6 + 4, none⟩ = some (.string t.le) ∧ Y.cell? ⟨tb, to_ + m * 6 + 5, none⟩ = some (.string t.gr)) := fun Y hY => by
          have hh : ∀ q v, w.cell? ⟨tb, q, none⟩ = some v → Y.cell? ⟨tb, q, none⟩ = some v := fun q v hq => (hY.cell (p := ⟨tb, q, none⟩) (by have := htb'.out; show tb < w.heap.size + 2; omega)).trans ((HX.out.1.b.cell (p := ⟨tb, q, none⟩) htb'.out).trans hq)
          obtain ⟨y0, y1, y2, y3, y4, y5⟩ := HYT.out
          exact ⟨hY, hh _ _ y0, hh _ _ y1, hh _ _ y2, hh _ _ y3, hh _ _ y4, hh _ _ y5⟩
        have a1 := HX.out.1.z.2.1 1 _ rfl
        simp only [nS] at a1
        have HA1 := hidV a1
        clear a1
        go_wp2_with fail
        go_cut [118] (fun v wx => ∃ (a' : Option Addr) (c' : Nat), v = .slice a' 1 c' ∧ Hid (RiS w c ⟨(i : Int), [t], [], ⟨#[]⟩, false⟩ (a', 1, c') nS wx))
        case first =>
          refine wp_region_held_drew (S := (fun Y => RowKit.Below (w.heap.size + 2) X Y ∧ Y.cell? ⟨tb, to_ + m * 6, none⟩ = some (.int .u64 (t.no : Int)) ∧ Y.cell? ⟨tb, to_ + m * 6 + 1, none⟩ = some (.int .i64 t.we) ∧ Y.cell? ⟨tb, to_ + m * 6 + 2, none⟩ = some (.int .i64 t.by_) ∧ Y.cell? ⟨tb, to_ + m * 6 + 3, none⟩ = some (.int .i64 t.en) ∧ Y.cell? ⟨tb, to_ + m * 6 + 4, none⟩ = some (.string t.le) ∧ Y.cell? ⟨tb, to_ + m * 6 + 5, none⟩ = some (.string t.gr))) (by kernel_rfl) ?_ (fun hHeld => ?_)
          · exact HST.out _ (Below.refl _ _).drew
          refine wpAnyH_take (i := 0) (oi := { dst := some 111, op := Go.Op.fieldAddr 62 (Go.Operand.tmp 11) 1, type := 0, pos := "screeref16.go:87", after := #[], guard := none }) (v := ?_) rfl (by kernel_rfl) (by kernel_rfl) (by kernel_rfl) (fun _ _ _ h => h) (Or.inl ⟨by rfl, ?_⟩) hHeld ?_
          rotate_left
          · (intro wq hSw; (try dsimp only at hSw); go_simp; try (with_reducible rfl))
          try simp only [Act.put, List.setIfInBounds_toArray, List.set_cons_zero, List.set_cons_succ]
          refine wpAnyH_take (i := 2) (oi := { dst := some 113, op := Go.Op.move (Go.Operand.tmp 10), type := 58, pos := "screeref16.go:87", after := #[], guard := none }) (v := ?_) rfl (by kernel_rfl) (by kernel_rfl) (by kernel_rfl) (fun _ _ _ h => h) (Or.inl ⟨by rfl, ?_⟩) hHeld ?_
          rotate_left
          · (intro wq hSw; (try dsimp only at hSw); go_simp; try (with_reducible rfl))
          try simp only [Act.put, List.setIfInBounds_toArray, List.set_cons_zero, List.set_cons_succ]
          refine wpAnyH_take (i := 3) (oi := { dst := some 114, op := Go.Op.move (Go.Operand.tmp 16), type := 3, pos := "screeref16.go:87", after := #[], guard := none }) (v := ?_) rfl (by kernel_rfl) (by kernel_rfl) (by kernel_rfl) (fun _ _ _ h => h) (Or.inl ⟨by rfl, ?_⟩) hHeld ?_
          rotate_left
          · (intro wq hSw; (try dsimp only at hSw); go_simp; try (with_reducible rfl))
          try simp only [Act.put, List.setIfInBounds_toArray, List.set_cons_zero, List.set_cons_succ]
          refine wpAnyH_take (i := 4) (oi := { dst := some 115, op := Go.Op.indexAddr 58 (Go.Operand.tmp 113) (Go.Operand.tmp 114), type := 0, pos := "screeref16.go:87", after := #[{ on := 2, ground := Go.Ground.data }, { on := 3, ground := Go.Ground.data }], guard := none }) (v := ?_) rfl (by kernel_rfl) (by kernel_rfl) (by kernel_rfl) (fun _ _ _ h => h) (Or.inl ⟨by rfl, ?_⟩) hHeld ?_
          rotate_left
          · (intro wq hSw; (try dsimp only at hSw); go_simp; try (with_reducible rfl))
          try simp only [Act.put, List.setIfInBounds_toArray, List.set_cons_zero, List.set_cons_succ]
          refine wpAnyH_take (i := 5) (oi := { dst := some 116, op := Go.Op.load 76 (Go.Operand.tmp 115), type := 76, pos := "screeref16.go:87", after := #[{ on := 4, ground := Go.Ground.data }], guard := none }) (v := ?_) rfl (by kernel_rfl) (by kernel_rfl) (by kernel_rfl) (fun _ _ _ h => h) (Or.inl ⟨by rfl, ?_⟩) hHeld ?_
          rotate_left
          · (intro wq hSw; (try dsimp only at hSw); go_simp; try (with_reducible rfl))
          try simp only [Act.put, List.setIfInBounds_toArray, List.set_cons_zero, List.set_cons_succ]
          refine wpAnyH_ready (rs := [1, 6]) (by kernel_rfl) (by simp) ?_
          refine (AllReadyH.cons (o := { dst := some 112, op := Go.Op.load 58 (Go.Operand.tmp 111), type := 58, pos := "screeref16.go:87", after := #[{ on := 0, ground := Go.Ground.data }], guard := none }) rfl (fun K hK => ?_) (AllReadyH.cons (o := { dst := some 117, op := Go.Op.buildSlice 58 1 #[(0, Go.Operand.tmp 116)], type := 58, pos := "screeref16.go:87", after := #[{ on := 5, ground := Go.Ground.data }], guard := none }) rfl (fun K hK => ?_) AllReadyH.nil))
          · skip
            have a1 : X.drew.cell? ⟨w.heap.size + 2, 1, none⟩ = some (.slice none 0 0) := HA1.out
            go_simp
            refine hK.out _ _ ?_ (fun hHeld => ?_)
            · exact hHeld
            clear hK K
            try simp only [Act.put, List.setIfInBounds_toArray, List.set_cons_zero, List.set_cons_succ]
            refine wpAnyH_ready (rs := [6]) (by kernel_rfl) (by simp) ?_
            refine (AllReadyH.cons (o := { dst := some 117, op := Go.Op.buildSlice 58 1 #[(0, Go.Operand.tmp 116)], type := 58, pos := "screeref16.go:87", after := #[{ on := 5, ground := Go.Ground.data }], guard := none }) rfl (fun K hK => ?_) AllReadyH.nil)
            go_simp
            refine hK.out _ _ ?_ (fun hHeld => ?_)
            · exact HST.out _ (hHeld.1.alloc (by have := hHeld.1.size; have := HX.out.1.sz; omega) _)
            clear hK K
            try simp only [Act.put, List.setIfInBounds_toArray, List.set_cons_zero, List.set_cons_succ]
            refine wpAnyH_ready (rs := [7]) (by kernel_rfl) (by simp) ?_
            refine (AllReadyH.cons (o := { dst := some 118, op := Go.Op.call { callee := Go.Callee.builtin Go.Builtin.append, args := #[Go.Operand.tmp 112, Go.Operand.tmp 117], argTypes := #[58, 58] }, type := 58, pos := "screeref16.go:87", after := #[{ on := 1, ground := Go.Ground.data }, { on := 6, ground := Go.Ground.data }], guard := none }) rfl (fun K hK => ?_) AllReadyH.nil)
            have HC7 : Hid (RiS w c ⟨(i : Int), [], [], ⟨#[]⟩, false⟩ nS nS (X.drew.alloc (Obj.cells #[.int .u64 (t.no : Int), .int .i64 t.we, .int .i64 t.by_, .int .i64 t.en, .string t.le, .string t.gr] 76))) := (HX.out.1.below (Below.refl _ _).drew).below ((Below.refl _ _).alloc (Nat.le_refl _) _)
            have hBc := hHeld.1
            refine step_appK kTb _ (by rfl) (.tmp 112) (.tmp 117) 58 (by rfl) iz Tryz.underlying58 hi hz0 hz1 hz2 1 (fun _ => 0) (.slice none 0 0) [] (by simp [Act.eval, Act.put]) (OwnK.empty _ _ _) (some ⟨X.drew.heap.size, 0, none⟩) 1 1 [t] (by simp [Act.eval, Act.put]) rfl (by simp) (isK_new X.drew t) (by simp) ?_
            intro a' c' T' w9 ho9 hg9
            have HY : Hid (OwnK kTb 1 T' w9 (.slice a' 1 c') [t] ∧ Goes (· = 1) (fun _ => 0) (X.drew.alloc (Obj.cells #[.int .u64 (t.no : Int), .int .i64 t.we, .int .i64 t.by_, .int .i64 t.en, .string t.le, .string t.gr] 76)) T' w9) := ⟨by simpa using ho9, hg9⟩
            have hB9 := Goes.bel HY.out.2 (fun _ _ => by decide)
            have HR9 := hidV (HC7.out.below hB9)
            have HB9 : Hid (RowKit.Below (w.heap.size + 2) X w9) := hBc.trans (hB9.mono (by have := HC7.out.sz; omega))
            have HFR : Hid (∀ b off, a' = some ⟨b, off, none⟩ → w.heap.size + 3 ≤ b) := fun b off e => by have h1 := OwnK.fresh (s := (a', 1, c')) HY.out.1 HY.out.2 (fun _ => by decide) b off e; have h2 := HC7.out.sz; omega
            clear ho9 hg9 hB9 hBc
            simp only [List.length_singleton, List.length_nil, Nat.zero_add]
            refine hK.out _ _ ?_ (fun hHeld => ?_)
            · exact HST.out _ HB9.out
            clear hK K
            try simp only [Act.put, List.setIfInBounds_toArray, List.set_cons_zero, List.set_cons_succ]
            refine wpAnyH_take (i := 8) (oi := { dst := some 119, op := Go.Op.fieldAddr 62 (Go.Operand.tmp 11) 1, type := 0, pos := "screeref16.go:87", after := #[{ on := 0, ground := Go.Ground.phase }, { on := 1, ground := Go.Ground.phase }, { on := 2, ground := Go.Ground.phase }, { on := 3, ground := Go.Ground.phase }, { on := 4, ground := Go.Ground.phase }, { on := 5, ground := Go.Ground.phase }, { on := 6, ground := Go.Ground.phase }, { on := 7, ground := Go.Ground.phase }], guard := none }) (v := ?_) rfl (by kernel_rfl) (by kernel_rfl) (by kernel_rfl) (fun _ _ _ h => h) (Or.inl ⟨by rfl, ?_⟩) hHeld ?_
            rotate_left
            · (intro wq hSw; (try dsimp only at hSw); go_simp; try (with_reducible rfl))
            try simp only [Act.put, List.setIfInBounds_toArray, List.set_cons_zero, List.set_cons_succ]
            refine wpAnyH_ready (rs := [9]) (by kernel_rfl) (by simp) ?_
            refine (AllReadyH.cons (o := { dst := none, op := Go.Op.store 58 (Go.Operand.tmp 119) (Go.Operand.tmp 118), type := 0, pos := "screeref16.go:87", after := #[{ on := 8, ground := Go.Ground.data }, { on := 7, ground := Go.Ground.data }, { on := 7, ground := Go.Ground.chain }, { on := 0, ground := Go.Ground.phase }, { on := 1, ground := Go.Ground.phase }, { on := 2, ground := Go.Ground.phase }, { on := 3, ground := Go.Ground.phase }, { on := 4, ground := Go.Ground.phase }, { on := 5, ground := Go.Ground.phase }, { on := 6, ground := Go.Ground.phase }, { on := 7, ground := Go.Ground.phase }], guard := none }) rfl (fun K hK => ?_) AllReadyH.nil)
            have a9 := HR9.out.z.2.1 1 _ rfl
            have f9 := HR9.out.z.2.2 1
            go_simp
            refine hK.out _ _ ?_ (fun hHeld => ?_)
            · exact HST.out _ (HB9.out.setCell (p := ⟨w.heap.size + 2, 1, none⟩) (Nat.le_refl _) _)
            clear hK K
            try simp only [Act.put, List.setIfInBounds_toArray, List.set_cons_zero, List.set_cons_succ]
            refine wpAnyH_done (by kernel_rfl) ?_ _
            go_wp2_with fail
            go_meet
            case rel => exact ⟨a', c', rfl, HR9.out.set 1 _ rfl ⟨Ls.own (s := (a', 1, c')) HY.out.1, Ls.nil _⟩ HFR.out (fun b off e => (by cases e))⟩
          · skip
            go_simp
            refine hK.out _ _ ?_ (fun hHeld => ?_)
            · exact HST.out _ (hHeld.1.alloc (by have := hHeld.1.size; have := HX.out.1.sz; omega) _)
            clear hK K
            try simp only [Act.put, List.setIfInBounds_toArray, List.set_cons_zero, List.set_cons_succ]
            refine wpAnyH_ready (rs := [1]) (by kernel_rfl) (by simp) ?_
            refine (AllReadyH.cons (o := { dst := some 112, op := Go.Op.load 58 (Go.Operand.tmp 111), type := 58, pos := "screeref16.go:87", after := #[{ on := 0, ground := Go.Ground.data }], guard := none }) rfl (fun K hK => ?_) AllReadyH.nil)
            have a1 : (X.alloc (Obj.cells #[.int .u64 (t.no : Int), .int .i64 t.we, .int .i64 t.by_, .int .i64 t.en, .string t.le, .string t.gr] 76)).cell? ⟨w.heap.size + 2, 1, none⟩ = some (.slice none 0 0) := (((Below.refl X.heap.size X).alloc (Nat.le_refl _) _ : RowKit.Below X.heap.size X (X.alloc (Obj.cells #[.int .u64 (t.no : Int), .int .i64 t.we, .int .i64 t.by_, .int .i64 t.en, .string t.le, .string t.gr] 76))).cell (p := ⟨w.heap.size + 2, 1, none⟩) HX.out.1.z.1).trans HA1.out
            go_simp
            refine hK.out _ _ ?_ (fun hHeld => ?_)
            · exact hHeld
            clear hK K
            try simp only [Act.put, List.setIfInBounds_toArray, List.set_cons_zero, List.set_cons_succ]
            refine wpAnyH_ready (rs := [7]) (by kernel_rfl) (by simp) ?_
            refine (AllReadyH.cons (o := { dst := some 118, op := Go.Op.call { callee := Go.Callee.builtin Go.Builtin.append, args := #[Go.Operand.tmp 112, Go.Operand.tmp 117], argTypes := #[58, 58] }, type := 58, pos := "screeref16.go:87", after := #[{ on := 1, ground := Go.Ground.data }, { on := 6, ground := Go.Ground.data }], guard := none }) rfl (fun K hK => ?_) AllReadyH.nil)
            have HC7 : Hid (RiS w c ⟨(i : Int), [], [], ⟨#[]⟩, false⟩ nS nS (X.drew.alloc (Obj.cells #[.int .u64 (t.no : Int), .int .i64 t.we, .int .i64 t.by_, .int .i64 t.en, .string t.le, .string t.gr] 76))) := (HX.out.1.below (Below.refl _ _).drew).below ((Below.refl _ _).alloc (Nat.le_refl _) _)
            have hBc := hHeld.1
            refine step_appK kTb _ (by rfl) (.tmp 112) (.tmp 117) 58 (by rfl) iz Tryz.underlying58 hi hz0 hz1 hz2 1 (fun _ => 0) (.slice none 0 0) [] (by simp [Act.eval, Act.put]) (OwnK.empty _ _ _) (some ⟨X.drew.heap.size, 0, none⟩) 1 1 [t] (by simp [Act.eval, Act.put]) rfl (by simp) (isK_new X.drew t) (by simp) ?_
            intro a' c' T' w9 ho9 hg9
            have HY : Hid (OwnK kTb 1 T' w9 (.slice a' 1 c') [t] ∧ Goes (· = 1) (fun _ => 0) (X.drew.alloc (Obj.cells #[.int .u64 (t.no : Int), .int .i64 t.we, .int .i64 t.by_, .int .i64 t.en, .string t.le, .string t.gr] 76)) T' w9) := ⟨by simpa using ho9, hg9⟩
            have hB9 := Goes.bel HY.out.2 (fun _ _ => by decide)
            have HR9 := hidV (HC7.out.below hB9)
            have HB9 : Hid (RowKit.Below (w.heap.size + 2) X w9) := hBc.trans (hB9.mono (by have := HC7.out.sz; omega))
            have HFR : Hid (∀ b off, a' = some ⟨b, off, none⟩ → w.heap.size + 3 ≤ b) := fun b off e => by have h1 := OwnK.fresh (s := (a', 1, c')) HY.out.1 HY.out.2 (fun _ => by decide) b off e; have h2 := HC7.out.sz; omega
            clear ho9 hg9 hB9 hBc
            simp only [List.length_singleton, List.length_nil, Nat.zero_add]
            refine hK.out _ _ ?_ (fun hHeld => ?_)
            · exact HST.out _ HB9.out
            clear hK K
            try simp only [Act.put, List.setIfInBounds_toArray, List.set_cons_zero, List.set_cons_succ]
            refine wpAnyH_take (i := 8) (oi := { dst := some 119, op := Go.Op.fieldAddr 62 (Go.Operand.tmp 11) 1, type := 0, pos := "screeref16.go:87", after := #[{ on := 0, ground := Go.Ground.phase }, { on := 1, ground := Go.Ground.phase }, { on := 2, ground := Go.Ground.phase }, { on := 3, ground := Go.Ground.phase }, { on := 4, ground := Go.Ground.phase }, { on := 5, ground := Go.Ground.phase }, { on := 6, ground := Go.Ground.phase }, { on := 7, ground := Go.Ground.phase }], guard := none }) (v := ?_) rfl (by kernel_rfl) (by kernel_rfl) (by kernel_rfl) (fun _ _ _ h => h) (Or.inl ⟨by rfl, ?_⟩) hHeld ?_
            rotate_left
            · (intro wq hSw; (try dsimp only at hSw); go_simp; try (with_reducible rfl))
            try simp only [Act.put, List.setIfInBounds_toArray, List.set_cons_zero, List.set_cons_succ]
            refine wpAnyH_ready (rs := [9]) (by kernel_rfl) (by simp) ?_
            refine (AllReadyH.cons (o := { dst := none, op := Go.Op.store 58 (Go.Operand.tmp 119) (Go.Operand.tmp 118), type := 0, pos := "screeref16.go:87", after := #[{ on := 8, ground := Go.Ground.data }, { on := 7, ground := Go.Ground.data }, { on := 7, ground := Go.Ground.chain }, { on := 0, ground := Go.Ground.phase }, { on := 1, ground := Go.Ground.phase }, { on := 2, ground := Go.Ground.phase }, { on := 3, ground := Go.Ground.phase }, { on := 4, ground := Go.Ground.phase }, { on := 5, ground := Go.Ground.phase }, { on := 6, ground := Go.Ground.phase }, { on := 7, ground := Go.Ground.phase }], guard := none }) rfl (fun K hK => ?_) AllReadyH.nil)
            have a9 := HR9.out.z.2.1 1 _ rfl
            have f9 := HR9.out.z.2.2 1
            go_simp
            refine hK.out _ _ ?_ (fun hHeld => ?_)
            · exact HST.out _ (HB9.out.setCell (p := ⟨w.heap.size + 2, 1, none⟩) (Nat.le_refl _) _)
            clear hK K
            try simp only [Act.put, List.setIfInBounds_toArray, List.set_cons_zero, List.set_cons_succ]
            refine wpAnyH_done (by kernel_rfl) ?_ _
            go_wp2_with fail
            go_meet
            case rel => exact ⟨a', c', rfl, HR9.out.set 1 _ rfl ⟨Ls.own (s := (a', 1, c')) HY.out.1, Ls.nil _⟩ HFR.out (fun b off e => (by cases e))⟩
        case rest =>
          obtain ⟨a', c', rfl, HR⟩ := hcut
          rename World => X2
          clear HA1 HST HLX
          obtain ⟨b1, off1, va, vc, e1, hb1, hc1, hL1⟩ := (HA.out.1.below HR.out.b).get (i := i + 1) (by omega)
          simp only [Option.some.injEq, Addr.mk.injEq] at e1
          obtain ⟨rfl, rfl, _⟩ := e1
          have hl1' := HA.out.2.1.len ((i + 1 : Nat) : Int)
          obtain ⟨L1, hL1e⟩ : ∃ L, lev V ((i + 1 : Nat) : Int) = L := ⟨_, rfl⟩
          have hL1f : lev V ((i : Int) + 1) = L1 := by rw [← hL1e]; rfl
          rw [hL1e] at hc1 hL1 hl1'
          have h1V : (i : Int) + 1 < (V.length : Int) := by omega
          have hw1 : IntKind.i64.wrap ((i : Int) + 1) = (i : Int) + 1 := IntWalk.i64_in _ (by omega)
          have hip1 : (0 : Int) ≤ (i : Int) + 1 := by omega
          have HOV : Hid (∀ Y, RowKit.Below X2.heap.size X2 Y → Calls Tryz.prog 72 #[.slice va L1.length vc, .string t.le, .string t.gr] Y fun e w' => OwIs kTb Y (L1.filter (over t.le t.gr)) e w') := fun Y hY => rover_any va vc L1 t.le t.gr Y (hL1.below hY) hl1'
          obtain ⟨lo, hlo⟩ : ∃ lo, L1.filter (over t.le t.gr) = lo := ⟨_, rfl⟩
          rw [hlo] at HOV
          have HLO : Hid ((lev V ((i : Int) + 1)).filter (over t.le t.gr) = lo) := by
            show _ = _
            rw [hL1f, hlo]
          have hlol : lo.length ≤ 1000000 := by
            rw [← hlo]
            exact Nat.le_trans (List.length_filter_le _ _) hl1'
          have HLC := hidV hc1
          have hb1' : Hid (b < X2.heap.size) := hb1
          clear hL1 hl1' hL1e hL1f hlo hb1 hli hc1
          have HST : Hid (∀ Y, RowKit.Below (w.heap.size + 2) X2 Y → RowKit.Below (w.heap.size + 2) X2 Y ∧ Y.cell? ⟨b, off + (i + 1), none⟩ = some (.slice va L1.length vc) ∧ Y.cell? ⟨tb, to_ + m * 6 + 4, none⟩ = some (.string t.le) ∧ Y.cell? ⟨tb, to_ + m * 6 + 5, none⟩ = some (.string t.gr)) := fun Y hY => by
            have hbb := HR.out.b
            have hh : ∀ q v, w.cell? ⟨tb, q, none⟩ = some v → Y.cell? ⟨tb, q, none⟩ = some v := fun q v hq => (hY.cell (p := ⟨tb, q, none⟩) (by have := htb'.out; show tb < w.heap.size + 2; omega)).trans ((hbb.cell (p := ⟨tb, q, none⟩) htb'.out).trans hq)
            obtain ⟨y0, y1, y2, y3, y4, y5⟩ := HYT.out
            exact ⟨hY, (hY.cell (p := ⟨b, off + (i + 1), none⟩) (by show b < w.heap.size + 2; omega)).trans HLC.out, hh _ _ y4, hh _ _ y5⟩
          go_wp2_with fail
          go_cut [135] (fun v wx => ∃ (sa : Option Addr) (sn sc : Nat), v = .slice sa sn sc ∧ Hid (RiS w c ⟨(i : Int), [t], lo, ⟨#[]⟩, false⟩ (a', 1, c') (sa, sn, sc) wx ∧ ∀ b off, sa = some ⟨b, off, none⟩ → off = 0))
          case first =>
            refine wp_region_held_drew (S := (fun Y => RowKit.Below (w.heap.size + 2) X2 Y ∧ Y.cell? ⟨b, off + (i + 1), none⟩ = some (.slice va L1.length vc) ∧ Y.cell? ⟨tb, to_ + m * 6 + 4, none⟩ = some (.string t.le) ∧ Y.cell? ⟨tb, to_ + m * 6 + 5, none⟩ = some (.string t.gr))) (by kernel_rfl) ?_ (fun hHeld => ?_)
            · exact HST.out _ (Below.refl _ _).drew
            refine wpAnyH_take (i := 0) (oi := { dst := some 120, op := Go.Op.move (Go.Operand.tmp 1), type := 30, pos := "screeref16.go:88", after := #[], guard := none }) (v := ?_) rfl (by kernel_rfl) (by kernel_rfl) (by kernel_rfl) (fun _ _ _ h => h) (Or.inl ⟨by rfl, ?_⟩) hHeld ?_
            rotate_left
            · (intro wq hSw; (try dsimp only at hSw); go_simp; try (with_reducible rfl))
            try simp only [Act.put, List.setIfInBounds_toArray, List.set_cons_zero, List.set_cons_succ]
            refine wpAnyH_take (i := 1) (oi := { dst := some 121, op := Go.Op.move (Go.Operand.tmp 3), type := 3, pos := "screeref16.go:88", after := #[], guard := none }) (v := ?_) rfl (by kernel_rfl) (by kernel_rfl) (by kernel_rfl) (fun _ _ _ h => h) (Or.inl ⟨by rfl, ?_⟩) hHeld ?_
            rotate_left
            · (intro wq hSw; (try dsimp only at hSw); go_simp; try (with_reducible rfl))
            try simp only [Act.put, List.setIfInBounds_toArray, List.set_cons_zero, List.set_cons_succ]
            refine wpAnyH_take (i := 2) (oi := { dst := some 122, op := Go.Op.binOp Go.BinOp.add 3 (Go.Operand.tmp 121) (Go.Operand.const (Go.Value.int Go.IntKind.i64 1)) 3, type := 3, pos := "screeref16.go:88", after := #[{ on := 1, ground := Go.Ground.data }], guard := none }) (v := ?_) rfl (by kernel_rfl) (by kernel_rfl) (by kernel_rfl) (fun _ _ _ h => h) (Or.inl ⟨by rfl, ?_⟩) hHeld ?_
            rotate_left
            · (intro wq hSw; (try dsimp only at hSw); go_simp; try (with_reducible rfl))
            try simp only [Act.put, List.setIfInBounds_toArray, List.set_cons_zero, List.set_cons_succ]
            refine wpAnyH_take (i := 3) (oi := { dst := some 123, op := Go.Op.indexAddr 30 (Go.Operand.tmp 120) (Go.Operand.tmp 122), type := 0, pos := "screeref16.go:88", after := #[{ on := 0, ground := Go.Ground.data }, { on := 2, ground := Go.Ground.data }], guard := none }) (v := ?_) rfl (by kernel_rfl) (by kernel_rfl) (by kernel_rfl) (fun _ _ _ h => h) (Or.inl ⟨by rfl, ?_⟩) hHeld ?_
            rotate_left
            · (intro wq hSw; (try dsimp only at hSw); go_simp; try (with_reducible rfl))
            try simp only [Act.put, List.setIfInBounds_toArray, List.set_cons_zero, List.set_cons_succ]
            refine wpAnyH_take (i := 4) (oi := { dst := some 124, op := Go.Op.load 58 (Go.Operand.tmp 123), type := 58, pos := "screeref16.go:88", after := #[{ on := 3, ground := Go.Ground.data }], guard := none }) (v := ?_) rfl (by kernel_rfl) (by kernel_rfl) (by kernel_rfl) (fun _ _ _ h => h) (Or.inl ⟨by rfl, ?_⟩) hHeld ?_
            rotate_left
            · (intro wq hSw; (try dsimp only at hSw); go_simp; try (with_reducible rfl))
            try simp only [Act.put, List.setIfInBounds_toArray, List.set_cons_zero, List.set_cons_succ]
            refine wpAnyH_take (i := 5) (oi := { dst := some 125, op := Go.Op.move (Go.Operand.tmp 10), type := 58, pos := "screeref16.go:88", after := #[], guard := none }) (v := ?_) rfl (by kernel_rfl) (by kernel_rfl) (by kernel_rfl) (fun _ _ _ h => h) (Or.inl ⟨by rfl, ?_⟩) hHeld ?_
            rotate_left
            · (intro wq hSw; (try dsimp only at hSw); go_simp; try (with_reducible rfl))
            try simp only [Act.put, List.setIfInBounds_toArray, List.set_cons_zero, List.set_cons_succ]
            refine wpAnyH_take (i := 6) (oi := { dst := some 126, op := Go.Op.move (Go.Operand.tmp 16), type := 3, pos := "screeref16.go:88", after := #[], guard := none }) (v := ?_) rfl (by kernel_rfl) (by kernel_rfl) (by kernel_rfl) (fun _ _ _ h => h) (Or.inl ⟨by rfl, ?_⟩) hHeld ?_
            rotate_left
            · (intro wq hSw; (try dsimp only at hSw); go_simp; try (with_reducible rfl))
            try simp only [Act.put, List.setIfInBounds_toArray, List.set_cons_zero, List.set_cons_succ]
            refine wpAnyH_take (i := 7) (oi := { dst := some 127, op := Go.Op.indexAddr 58 (Go.Operand.tmp 125) (Go.Operand.tmp 126), type := 0, pos := "screeref16.go:88", after := #[{ on := 5, ground := Go.Ground.data }, { on := 6, ground := Go.Ground.data }], guard := none }) (v := ?_) rfl (by kernel_rfl) (by kernel_rfl) (by kernel_rfl) (fun _ _ _ h => h) (Or.inl ⟨by rfl, ?_⟩) hHeld ?_
            rotate_left
            · (intro wq hSw; (try dsimp only at hSw); go_simp; try (with_reducible rfl))
            try simp only [Act.put, List.setIfInBounds_toArray, List.set_cons_zero, List.set_cons_succ]
            refine wpAnyH_take (i := 8) (oi := { dst := some 128, op := Go.Op.fieldAddr 76 (Go.Operand.tmp 127) 4, type := 0, pos := "screeref16.go:88", after := #[{ on := 7, ground := Go.Ground.data }], guard := none }) (v := ?_) rfl (by kernel_rfl) (by kernel_rfl) (by kernel_rfl) (fun _ _ _ h => h) (Or.inl ⟨by rfl, ?_⟩) hHeld ?_
            rotate_left
            · (intro wq hSw; (try dsimp only at hSw); go_simp; try (with_reducible rfl))
            try simp only [Act.put, List.setIfInBounds_toArray, List.set_cons_zero, List.set_cons_succ]
            refine wpAnyH_take (i := 9) (oi := { dst := some 129, op := Go.Op.load 9 (Go.Operand.tmp 128), type := 9, pos := "screeref16.go:88", after := #[{ on := 8, ground := Go.Ground.data }], guard := none }) (v := ?_) rfl (by kernel_rfl) (by kernel_rfl) (by kernel_rfl) (fun _ _ _ h => h) (Or.inl ⟨by rfl, ?_⟩) hHeld ?_
            rotate_left
            · (intro wq hSw; (try dsimp only at hSw); go_simp; try (with_reducible rfl))
            try simp only [Act.put, List.setIfInBounds_toArray, List.set_cons_zero, List.set_cons_succ]
            refine wpAnyH_take (i := 10) (oi := { dst := some 130, op := Go.Op.move (Go.Operand.tmp 10), type := 58, pos := "screeref16.go:88", after := #[], guard := none }) (v := ?_) rfl (by kernel_rfl) (by kernel_rfl) (by kernel_rfl) (fun _ _ _ h => h) (Or.inl ⟨by rfl, ?_⟩) hHeld ?_
            rotate_left
            · (intro wq hSw; (try dsimp only at hSw); go_simp; try (with_reducible rfl))
            try simp only [Act.put, List.setIfInBounds_toArray, List.set_cons_zero, List.set_cons_succ]
            refine wpAnyH_take (i := 11) (oi := { dst := some 131, op := Go.Op.move (Go.Operand.tmp 16), type := 3, pos := "screeref16.go:88", after := #[], guard := none }) (v := ?_) rfl (by kernel_rfl) (by kernel_rfl) (by kernel_rfl) (fun _ _ _ h => h) (Or.inl ⟨by rfl, ?_⟩) hHeld ?_
            rotate_left
            · (intro wq hSw; (try dsimp only at hSw); go_simp; try (with_reducible rfl))
            try simp only [Act.put, List.setIfInBounds_toArray, List.set_cons_zero, List.set_cons_succ]
            refine wpAnyH_take (i := 12) (oi := { dst := some 132, op := Go.Op.indexAddr 58 (Go.Operand.tmp 130) (Go.Operand.tmp 131), type := 0, pos := "screeref16.go:88", after := #[{ on := 10, ground := Go.Ground.data }, { on := 11, ground := Go.Ground.data }], guard := none }) (v := ?_) rfl (by kernel_rfl) (by kernel_rfl) (by kernel_rfl) (fun _ _ _ h => h) (Or.inl ⟨by rfl, ?_⟩) hHeld ?_
            rotate_left
            · (intro wq hSw; (try dsimp only at hSw); go_simp; try (with_reducible rfl))
            try simp only [Act.put, List.setIfInBounds_toArray, List.set_cons_zero, List.set_cons_succ]
            refine wpAnyH_take (i := 13) (oi := { dst := some 133, op := Go.Op.fieldAddr 76 (Go.Operand.tmp 132) 5, type := 0, pos := "screeref16.go:88", after := #[{ on := 12, ground := Go.Ground.data }], guard := none }) (v := ?_) rfl (by kernel_rfl) (by kernel_rfl) (by kernel_rfl) (fun _ _ _ h => h) (Or.inl ⟨by rfl, ?_⟩) hHeld ?_
            rotate_left
            · (intro wq hSw; (try dsimp only at hSw); go_simp; try (with_reducible rfl))
            try simp only [Act.put, List.setIfInBounds_toArray, List.set_cons_zero, List.set_cons_succ]
            refine wpAnyH_take (i := 14) (oi := { dst := some 134, op := Go.Op.load 9 (Go.Operand.tmp 133), type := 9, pos := "screeref16.go:88", after := #[{ on := 13, ground := Go.Ground.data }], guard := none }) (v := ?_) rfl (by kernel_rfl) (by kernel_rfl) (by kernel_rfl) (fun _ _ _ h => h) (Or.inl ⟨by rfl, ?_⟩) hHeld ?_
            rotate_left
            · (intro wq hSw; (try dsimp only at hSw); go_simp; try (with_reducible rfl))
            try simp only [Act.put, List.setIfInBounds_toArray, List.set_cons_zero, List.set_cons_succ]
            refine wpAnyH_ready (rs := [15]) (by kernel_rfl) (by simp) ?_
            refine (AllReadyH.cons (o := { dst := some 135, op := Go.Op.call { callee := Go.Callee.value (Go.Operand.func 72), args := #[Go.Operand.tmp 124, Go.Operand.tmp 129, Go.Operand.tmp 134], argTypes := #[58, 9, 9] }, type := 58, pos := "screeref16.go:88", after := #[{ on := 4, ground := Go.Ground.data }, { on := 9, ground := Go.Ground.data }, { on := 14, ground := Go.Ground.data }], guard := none }) rfl (fun K hK => ?_) AllReadyH.nil)
            go_simp
            with_reducible refine (HOV.out _ (Below.refl _ _).drew).mono ?_
            rintro e w4 ⟨⟨sa, sn, sc⟩, T, rfl, ho, hold⟩
            have HO := hidV (And.intro ho hold)
            have HB4 : Hid (RowKit.Below X2.heap.size X2 w4) := (Below.refl X2.heap.size X2).drew.trans hold.below
            have HR4 := hidV (HR.out.below HB4.out)
            have HFR : Hid (∀ b off, sa = some ⟨b, off, none⟩ → w.heap.size + 3 ≤ b) := fun b off e => by have h1 := OwIs.fresh (s := (sa, sn, sc)) ho hold b off e; have h2 : w.heap.size + 3 ≤ X2.drew.heap.size := HR.out.sz; omega
            clear ho hold
            simp only [svV]
            try dsimp only
            refine hK.out _ _ ?_ (fun hHeld => ?_)
            · exact HST.out _ (HB4.out.mono (by have := HR.out.sz; omega))
            clear hK K
            try simp only [Act.put, List.setIfInBounds_toArray, List.set_cons_zero, List.set_cons_succ]
            refine wpAnyH_take (i := 16) (oi := { dst := some 136, op := Go.Op.fieldAddr 62 (Go.Operand.tmp 11) 2, type := 0, pos := "screeref16.go:88", after := #[{ on := 0, ground := Go.Ground.phase }, { on := 1, ground := Go.Ground.phase }, { on := 2, ground := Go.Ground.phase }, { on := 3, ground := Go.Ground.phase }, { on := 4, ground := Go.Ground.phase }, { on := 5, ground := Go.Ground.phase }, { on := 6, ground := Go.Ground.phase }, { on := 7, ground := Go.Ground.phase }, { on := 8, ground := Go.Ground.phase }, { on := 9, ground := Go.Ground.phase }, { on := 10, ground := Go.Ground.phase }, { on := 11, ground := Go.Ground.phase }, { on := 12, ground := Go.Ground.phase }, { on := 13, ground := Go.Ground.phase }, { on := 14, ground := Go.Ground.phase }, { on := 15, ground := Go.Ground.phase }], guard := none }) (v := ?_) rfl (by kernel_rfl) (by kernel_rfl) (by kernel_rfl) (fun _ _ _ h => h) (Or.inl ⟨by rfl, ?_⟩) hHeld ?_
            rotate_left
            · (intro wq hSw; (try dsimp only at hSw); go_simp; try (with_reducible rfl))
            try simp only [Act.put, List.setIfInBounds_toArray, List.set_cons_zero, List.set_cons_succ]
            refine wpAnyH_ready (rs := [17]) (by kernel_rfl) (by simp) ?_
            refine (AllReadyH.cons (o := { dst := none, op := Go.Op.store 58 (Go.Operand.tmp 136) (Go.Operand.tmp 135), type := 0, pos := "screeref16.go:88", after := #[{ on := 16, ground := Go.Ground.data }, { on := 15, ground := Go.Ground.data }, { on := 15, ground := Go.Ground.chain }, { on := 0, ground := Go.Ground.phase }, { on := 1, ground := Go.Ground.phase }, { on := 2, ground := Go.Ground.phase }, { on := 3, ground := Go.Ground.phase }, { on := 4, ground := Go.Ground.phase }, { on := 5, ground := Go.Ground.phase }, { on := 6, ground := Go.Ground.phase }, { on := 7, ground := Go.Ground.phase }, { on := 8, ground := Go.Ground.phase }, { on := 9, ground := Go.Ground.phase }, { on := 10, ground := Go.Ground.phase }, { on := 11, ground := Go.Ground.phase }, { on := 12, ground := Go.Ground.phase }, { on := 13, ground := Go.Ground.phase }, { on := 14, ground := Go.Ground.phase }, { on := 15, ground := Go.Ground.phase }], guard := none }) rfl (fun K hK => ?_) AllReadyH.nil)
            have a9 := HR4.out.z.2.1 2 _ rfl
            have f9 := HR4.out.z.2.2 2
            go_simp
            refine hK.out _ _ ?_ (fun hHeld => ?_)
            · exact HST.out _ ((HB4.out.mono (by have := HR.out.sz; omega) : RowKit.Below (w.heap.size + 2) X2 w4).setCell (p := ⟨w.heap.size + 2, 2, none⟩) (Nat.le_refl _) _)
            clear hK K
            try simp only [Act.put, List.setIfInBounds_toArray, List.set_cons_zero, List.set_cons_succ]
            refine wpAnyH_done (by kernel_rfl) ?_ _
            go_wp2_with fail
            go_meet
            case rel => exact ⟨sa, sn, sc, rfl, HR4.out.set 2 _ rfl ⟨HR4.out.ja.1, Ls.own (s := (sa, sn, sc)) HO.out.1⟩ HR4.out.fu HFR.out, OwnK.off0 (s := (sa, sn, sc)) HO.out.1⟩
          case rest =>
            obtain ⟨sa, sn, sc, rfl, HR3⟩ := hcut
            rename World => X3
            have hsn : sn = lo.length := HR3.out.1.ja.2.2.1
            subst hsn
            have g12 : c 12 = (f : Int) := HFF.out
            have l12 : X3.cell? ⟨w.heap.size, 12, none⟩ = some (.int .i64 (f : Int)) := by rw [← HFF.out]; exact HR3.out.1.cf.cell 12 rfl
            have l8 : X3.cell? ⟨w.heap.size, 8, none⟩ = some (.int .i64 (V.length : Int)) := HR3.out.1.cf.cell 8 (by rw [← HA.out.2.2.1.lv]; rfl)
            clear g12
            have z0 := HR3.out.1.z.2.1 0 _ rfl
            have z1 := HR3.out.1.z.2.1 1 _ rfl
            have z2 := HR3.out.1.z.2.1 2 _ rfl
            have z3 := HR3.out.1.z.2.1 3 _ rfl
            have z4 := HR3.out.1.z.2.1 4 _ rfl
            have zf := HR3.out.1.z.2.2
            simp only at z1 z2
            by_cases hcut : f < lo.length
            · have hcut' : (lo.length : Int) > (f : Int) := by omega
              obtain ⟨y, hy⟩ : ∃ y, lo[f]? = some y := ⟨_, List.getElem?_eq_getElem hcut⟩
              obtain ⟨sb, so, rfl, hsb, hycell⟩ := HR3.out.1.ja.2.cell hy
              have hso : so = 0 := HR3.out.2 sb so rfl
              subst hso
              have cy : X3.cell? ⟨sb, f * 6 + 4, none⟩ = some (.string y.le) := by
                have := hycell 4 _ rfl
                rw [Nat.zero_add] at this
                exact this
              have hsc : (f : Int) ≤ (sc : Int) := by
                have h1 : lo.length ≤ sc := HR3.out.1.ja.2.2.2.2.1
                omega
              have hsb3 : Hid (w.heap.size + 3 ≤ sb) := HR3.out.1.fl sb 0 rfl
              have HJ : Hid (jobL f V ps i = ⟨(i : Int), [t], lo.take f, y.le, false⟩) := by
                show _ = _
                rw [jobL_is (by omega) HLL.out.1 HT.out HLO.out, if_pos hcut, List.getD_eq_getElem?_getD, hy]
                have : (lo.take f).isEmpty = false := by
                  cases hq : lo.take f with
                  | nil =>
                    have := congrArg List.length hq
                    rw [List.length_take, List.length_nil] at this
                    omega
                  | cons a b => rfl
                rw [this]
                rfl
              clear hy hycell hsb
              go_upto_region 26 with fail
              obtain ⟨X4, hX4⟩ : ∃ Y, X3.setCell ⟨w.heap.size + 2, 3, none⟩ (.string y.le) = Y := ⟨_, rfl⟩
              have HR4 : Hid (RiS w c ⟨(i : Int), [t], lo, y.le, false⟩ (a', 1, c') (some ⟨sb, 0, none⟩, lo.length, sc) X4) := by
                subst hX4
                exact HR3.out.1.set 3 _ rfl ⟨HR3.out.1.ja.1, HR3.out.1.ja.2⟩ HR3.out.1.fu HR3.out.1.fl
              have l12' : X4.cell? ⟨w.heap.size, 12, none⟩ = some (.int .i64 (f : Int)) := by rw [← HFF.out]; exact HR4.out.cf.cell 12 rfl
              rw [hX4]
              clear hX4 z0 z1 z2 z3 z4 zf l12 l8 cy
              have z0 := HR4.out.z.2.1 0 _ rfl
              have z1 := HR4.out.z.2.1 1 _ rfl
              have z2 := HR4.out.z.2.1 2 _ rfl
              have z3 := HR4.out.z.2.1 3 _ rfl
              have z4 := HR4.out.z.2.1 4 _ rfl
              have zf := HR4.out.z.2.2
              simp only at z1 z2
              have hf0 : (0 : Int) ≤ (f : Int) := by omega
              go_upto_region 27 with fail
              obtain ⟨X5, hX5⟩ : ∃ Y, X4.setCell ⟨w.heap.size + 2, 2, none⟩ (.slice (some ⟨sb, 0, none⟩) f sc) = Y := ⟨_, rfl⟩
              have HR5 : Hid (RiS w c ⟨(i : Int), [t], lo.take f, y.le, false⟩ (a', 1, c') (some ⟨sb, 0, none⟩, f, sc) X5) := by
                subst hX5
                exact HR4.out.set 2 _ rfl ⟨HR4.out.ja.1, Ls.cut HR4.out.ja.2 (by show f ≤ lo.length; omega)⟩ HR4.out.fu (fun b off e => HR4.out.fl b off e)
              rw [hX5]
              clear hX5 z0 z1 z2 z3 z4 zf l12'
              have z0 := HR5.out.z.2.1 0 _ rfl
              have z1 := HR5.out.z.2.1 1 _ rfl
              have z2 := HR5.out.z.2.1 2 _ rfl
              have z3 := HR5.out.z.2.1 3 _ rfl
              have z4 := HR5.out.z.2.1 4 _ rfl
              have zf := HR5.out.z.2.2
              simp only at z1 z2
              have hf1' : ¬ (f : Int) = 0 := by omega
              have hf2 : ((f : Int) == 0) = false := by rw [beq_eq_false_iff_ne]; omega
              go_upto_region 28 with fail
              obtain ⟨Y6, hY6⟩ : ∃ Y, X5.setCell ⟨w.heap.size + 2, 4, none⟩ (.bool false) = Y := ⟨_, rfl⟩
              have HQ6 : Hid (RiS w c ⟨(i : Int), [t], lo.take f, y.le, false⟩ (a', 1, c') (some ⟨sb, 0, none⟩, f, sc) Y6) := by
                subst hY6
                exact HR5.out.set 4 _ rfl ⟨HR5.out.ja.1, HR5.out.ja.2⟩ HR5.out.fu HR5.out.fl
              rw [hY6]
              clear hY6 z0 z1 z2 z3 z4 zf
              have r0 := HQ6.out.r.2.1 0 _ rfl
              have r1 := HQ6.out.r.2.1 1 _ rfl
              have r2 := HQ6.out.r.2.1 2 _ rfl
              have r3 := HQ6.out.r.2.1 3 _ rfl
              have r4 := HQ6.out.r.2.1 4 _ rfl
              have s0 := HQ6.out.r.2.2
              have y0 := HQ6.out.z.2.1 0 _ rfl
              have y1 := HQ6.out.z.2.1 1 _ rfl
              have y2 := HQ6.out.z.2.1 2 _ rfl
              have y3 := HQ6.out.z.2.1 3 _ rfl
              have y4 := HQ6.out.z.2.1 4 _ rfl
              simp only at y1 y2 r1 r2
              go_wp2
              refine bodyPost_ret (res_jb2 rfl _ _ (w.heap.size + 1) (i : Int) (a', 1, c') (some ⟨sb, 0, none⟩, f, sc) y.le false rfl HQ6.out.fin.1) rfl ?_
              rw [HJ.out]
              exact ⟨_, _, rfl, HQ6.out.fin.2.1, HQ6.out.fin.2.2, fun b off e => by have := HQ6.out.fu b off e; omega, fun b off e => by have := HQ6.out.fl b off e; omega⟩
            · have hcut' : ¬ (lo.length : Int) > (f : Int) := by omega
              have HR4 : Hid (RiS w c ⟨(i : Int), [t], lo, ⟨#[]⟩, false⟩ (a', 1, c') (sa, lo.length, sc) X3) := HR3.out.1
              have htk : lo.take f = lo := List.take_of_length_le (by omega)
              have hJ0 := jobL_is (f := f) (ps := ps) (by omega) HLL.out.1 HT.out HLO.out
              rw [if_neg hcut, htk] at hJ0
              have HJ0 := hidV hJ0
              clear hJ0 htk
              by_cases hl9 : lo = []
              · subst hl9
                have hz9 : (((([] : List Tb).length : Nat) : Int) == 0) = true := rfl
                by_cases hin : (i : Int) + 1 = (V.length : Int) - 1
                · have hin2 : ((i : Int) + 1 == (V.length : Int) - 1) = true := by rw [beq_iff_eq]; exact hin
                  have hin3 : ((i : Int) + 1 != (V.length : Int) - 1) = false := by simp [hin]
                  have HJ : Hid (jobL f V ps i = ⟨(i : Int), [t], [], ⟨#[]⟩, false⟩) := by
                    show _ = _
                    rw [HJ0.out, decide_eq_false (by omega)]
                    rfl
                  go_upto_region 28 with fail
                  obtain ⟨Y7, hY7⟩ : ∃ Y, X3.setCell ⟨w.heap.size + 2, 4, none⟩ (.bool false) = Y := ⟨_, rfl⟩
                  have HQ7 : Hid (RiS w c ⟨(i : Int), [t], [], ⟨#[]⟩, false⟩ (a', 1, c') (sa, ([] : List Tb).length, sc) Y7) := by
                    subst hY7
                    exact HR4.out.set 4 _ rfl ⟨HR4.out.ja.1, HR4.out.ja.2⟩ HR4.out.fu HR4.out.fl
                  rw [hY7]
                  clear hY7 z0 z1 z2 z3 z4 zf
                  have r0 := HQ7.out.r.2.1 0 _ rfl
                  have r1 := HQ7.out.r.2.1 1 _ rfl
                  have r2 := HQ7.out.r.2.1 2 _ rfl
                  have r3 := HQ7.out.r.2.1 3 _ rfl
                  have r4 := HQ7.out.r.2.1 4 _ rfl
                  have s0 := HQ7.out.r.2.2
                  have y0 := HQ7.out.z.2.1 0 _ rfl
                  have y1 := HQ7.out.z.2.1 1 _ rfl
                  have y2 := HQ7.out.z.2.1 2 _ rfl
                  have y3 := HQ7.out.z.2.1 3 _ rfl
                  have y4 := HQ7.out.z.2.1 4 _ rfl
                  simp only at y1 y2 r1 r2
                  go_wp2
                  refine bodyPost_ret (res_jb2 rfl _ _ (w.heap.size + 1) (i : Int) (a', 1, c') (sa, ([] : List Tb).length, sc) ⟨#[]⟩ false rfl HQ7.out.fin.1) rfl ?_
                  rw [HJ.out]
                  exact ⟨_, _, rfl, HQ7.out.fin.2.1, HQ7.out.fin.2.2, fun b off e => by have := HQ7.out.fu b off e; omega, fun b off e => by have := HQ7.out.fl b off e; omega⟩
                · have hin2 : ((i : Int) + 1 == (V.length : Int) - 1) = false := by rw [beq_eq_false_iff_ne]; exact hin
                  have hin3 : ((i : Int) + 1 != (V.length : Int) - 1) = true := by simp [hin]
                  have HJ : Hid (jobL f V ps i = ⟨(i : Int), [t], [], ⟨#[]⟩, true⟩) := by
                    show _ = _
                    rw [HJ0.out, decide_eq_true (by omega)]
                    rfl
                  go_upto_region 28 with fail
                  obtain ⟨Y8, hY8⟩ : ∃ Y, X3.setCell ⟨w.heap.size + 2, 4, none⟩ (.bool true) = Y := ⟨_, rfl⟩
                  have HQ8 : Hid (RiS w c ⟨(i : Int), [t], [], ⟨#[]⟩, true⟩ (a', 1, c') (sa, ([] : List Tb).length, sc) Y8) := by
                    subst hY8
                    exact HR4.out.set 4 _ rfl ⟨HR4.out.ja.1, HR4.out.ja.2⟩ HR4.out.fu HR4.out.fl
                  rw [hY8]
                  clear hY8 z0 z1 z2 z3 z4 zf
                  have r0 := HQ8.out.r.2.1 0 _ rfl
                  have r1 := HQ8.out.r.2.1 1 _ rfl
                  have r2 := HQ8.out.r.2.1 2 _ rfl
                  have r3 := HQ8.out.r.2.1 3 _ rfl
                  have r4 := HQ8.out.r.2.1 4 _ rfl
                  have s0 := HQ8.out.r.2.2
                  have y0 := HQ8.out.z.2.1 0 _ rfl
                  have y1 := HQ8.out.z.2.1 1 _ rfl
                  have y2 := HQ8.out.z.2.1 2 _ rfl
                  have y3 := HQ8.out.z.2.1 3 _ rfl
                  have y4 := HQ8.out.z.2.1 4 _ rfl
                  simp only at y1 y2 r1 r2
                  go_wp2
                  refine bodyPost_ret (res_jb2 rfl _ _ (w.heap.size + 1) (i : Int) (a', 1, c') (sa, ([] : List Tb).length, sc) ⟨#[]⟩ true rfl HQ8.out.fin.1) rfl ?_
                  rw [HJ.out]
                  exact ⟨_, _, rfl, HQ8.out.fin.2.1, HQ8.out.fin.2.2, fun b off e => by have := HQ8.out.fu b off e; omega, fun b off e => by have := HQ8.out.fl b off e; omega⟩
              · have hn9 : ¬ (lo.length : Int) = 0 := by
                  have : lo.length ≠ 0 := fun e => hl9 (List.eq_nil_of_length_eq_zero e)
                  omega
                have hn8 : ((lo.length : Int) == 0) = false := by rw [beq_eq_false_iff_ne]; exact hn9
                have HJ : Hid (jobL f V ps i = ⟨(i : Int), [t], lo, ⟨#[]⟩, false⟩) := by
                  show _ = _
                  have : lo.isEmpty = false := by
                    cases lo with
                    | nil => exact absurd rfl hl9
                    | cons a b => rfl
                  rw [HJ0.out, this]
                  rfl
                go_upto_region 28 with fail
                obtain ⟨Y9, hY9⟩ : ∃ Y, X3.setCell ⟨w.heap.size + 2, 4, none⟩ (.bool false) = Y := ⟨_, rfl⟩
                have HQ9 : Hid (RiS w c ⟨(i : Int), [t], lo, ⟨#[]⟩, false⟩ (a', 1, c') (sa, lo.length, sc) Y9) := by
                  subst hY9
                  exact HR4.out.set 4 _ rfl ⟨HR4.out.ja.1, HR4.out.ja.2⟩ HR4.out.fu HR4.out.fl
                rw [hY9]
                clear hY9 z0 z1 z2 z3 z4 zf
                have r0 := HQ9.out.r.2.1 0 _ rfl
                have r1 := HQ9.out.r.2.1 1 _ rfl
                have r2 := HQ9.out.r.2.1 2 _ rfl
                have r3 := HQ9.out.r.2.1 3 _ rfl
                have r4 := HQ9.out.r.2.1 4 _ rfl
                have s0 := HQ9.out.r.2.2
                have y0 := HQ9.out.z.2.1 0 _ rfl
                have y1 := HQ9.out.z.2.1 1 _ rfl
                have y2 := HQ9.out.z.2.1 2 _ rfl
                have y3 := HQ9.out.z.2.1 3 _ rfl
                have y4 := HQ9.out.z.2.1 4 _ rfl
                simp only at y1 y2 r1 r2
                go_wp2
                refine bodyPost_ret (res_jb2 rfl _ _ (w.heap.size + 1) (i : Int) (a', 1, c') (sa, lo.length, sc) ⟨#[]⟩ false rfl HQ9.out.fin.1) rfl ?_
                rw [HJ.out]
                exact ⟨_, _, rfl, HQ9.out.fin.2.1, HQ9.out.fin.2.2, fun b off e => by have := HQ9.out.fu b off e; omega, fun b off e => by have := HQ9.out.fl b off e; omega⟩
end Vr
end Go.Proofs.YtaejjpbpnedblaaGreat
