import Derived.Test.YtanpbknjnpmmnaaMt5
namespace Go.Proofs.Ytanpbknjnpmmnaa
namespace Mnf
open Go.RowKit CMath Byt Cod Crw Irw Laws
set_option linter.unusedVariables false
set_option linter.unusedSimpArgs false
set_option maxRecDepth 20000
set_option maxHeartbeats 4000000 in
theorem record_2 (a : Option Addr) (cap n : Nat) (x : Nat) (r : List Nat) (w : World) (h : IsB w a (x :: r)) (hn : (x :: r).length = n) (hc : n ≤ cap) (hm : cap ≤ 9223372036854775807) (hx : x ≤ 1) (h1c : ¬ cap = 1) :
    Calls Try.prog 15 #[.slice a n cap] w fun e w' => RcIs ((recR r).map fun e => (decide (x = 1), e)) w e w' := by
  have hb0 := (Below.refl w.heap.size w).alloc (Nat.le_refl _) (.cells #[.int .u64 0, .int .u64 0, .int .u64 0, .slice none 0 0, .slice none 0 0, .slice none 0 0] 61)
  obtain ⟨b, off, rfl, hr⟩ := h.1 (by simp)
  have c0 : (w.alloc (.cells #[.int .u64 0, .int .u64 0, .int .u64 0, .slice none 0 0, .slice none 0 0, .slice none 0 0] 61)).cell? ⟨b, off, none⟩ = some (.int .u8 (x : Int)) := by
    have := (hr.below hb0 hr.1).2 0 x rfl
    simpa using this
  have hn0 : 0 < n := by rw [← hn]; simp
  have hrl : n - 1 = r.length := by rw [← hn]; simp
  have hx2 : ¬ (1 : Int) < (x : Int) := by omega
  have g0 : ¬ (n : Int) = 0 := by omega
  have g1 : (1 : Int) ≤ (n : Int) := by omega
  have g2 : (n : Int) ≤ (cap : Int) := by omega
  have g3 : (1 : Int) ≤ (cap : Int) := by omega
  have g4 : ¬ cap - 1 = 0 := by omega
  have g5 : (1 : Int) < (cap : Int) := by omega
  have HS0 := hid9 (mt_start w (some ⟨b, off + 1, none⟩) (cap - 1) (n - 1) r (by have z := isB_drop' h 1; exact z) hrl (by omega) (by omega) (fun b' o' e => by cases e; exact hr.1) _ rfl)
  have HRE := hid9 (recR_start r)
  obtain ⟨iz, hiz, hz0, hz1, hz2⟩ := info_parts infoPl
  obtain ⟨jz, hjz, jz0, jz1, jz2⟩ := info_parts infoPd
  obtain ⟨tz, htz, tz0, tz1, tz2⟩ := info_parts infoT
  have HI := hid9 h
  have HBK : Hid (b < w.heap.size) := hr.1
  have HXO := hid9 hx
  clear hr h hb0 hn hrl hx
  go_enter Try.func15, Try.ntmps15
  go_wp2_with fail
  refine (rnumber_any w.heap.size (w.heap.size + 1) (some r) _ HS0.out.1 (by omega)).mono ?_
  rintro e w1 ⟨rfl, hr1, hk1⟩
  have H1 := hid9 (And.intro hr1 hk1)
  clear hr1 hk1
  generalize HA0 : pV (rdN M64) 0 (some r) = A0 at *
  generalize HT0 : pS (rdN M64) (some r) = s1 at *
  clear HA0 HT0
  go_wp2_with fail
  refine (rnumber_any w.heap.size (w.heap.size + 1) s1 _ H1.out.1 (by omega)).mono ?_
  rintro e w2 ⟨rfl, hr2, hk2⟩
  have H2 := hid9 (And.intro hr2 (H1.out.2.trans hk2))
  clear hr2 hk2 H1
  generalize HA1 : pV (rdN M64) 0 s1 = A1 at *
  generalize HT1 : pS (rdN M64) s1 = s2 at *
  clear HA1 HT1
  go_wp2_with fail
  refine (rnumber_any w.heap.size (w.heap.size + 1) s2 _ H2.out.1 (by omega)).mono ?_
  rintro e w3 ⟨rfl, hr3, hk3⟩
  have H3 := hid9 (And.intro hr3 (H2.out.2.trans hk3))
  clear hr3 hk3 H2
  generalize HA2 : pV (rdN M64) 0 s2 = A2 at *
  generalize HT2 : pS (rdN M64) s2 = s3 at *
  clear HA2 HT2
  have HV := hid9 (Rv.first H3.out.1 HS0.out.2.1 HS0.out.2.2.1 HS0.out.2.2.2 H3.out.2 (a := A0) (b := A1) (c := A2) rfl)
  generalize hTT : upd (upd (upd (fun _ => 0) w.heap.size 3) (w.heap.size + 1) 1) w3.heap.size 2 = T0 at HV
  clear hTT H3 HS0
  go_wp2_with fail
  refine (rbelow_any w.heap.size (w.heap.size + 1) 256 256 s3 _ HV.out.rd HV.out.hR (by decide) rfl).mono ?_
  rintro e w4 ⟨rfl, hr4, hk4⟩
  have HV4 := hid9 (HV.out.call hr4 hk4)
  have HR4 := hid9 (HRE.out.trans (lp_start rdPl 256 (e1 A0 A1 A2) s3))
  have hn1 := pV_cap 256 s3
  clear hr4 hk4 HV HRE
  generalize pV (rdN 256) 0 s3 = n1 at *
  generalize pS (rdN 256) s3 = s4 at *
  generalize w3.heap.size = E at *
  go_upto_block 0 with fail
  go_cut [8] (fun _ w' => ∃ (T : Nat → Nat) (o : Sv) (xo : List Pl) (st : Option (List Nat)), xo.length ≤ 256 ∧ Hid (Rv w T w' (w.heap.size + 1) E w.heap.size st A0 A1 A2 o nS nS xo [] [] ∧ recR r = st.bind (e1 A0 A1 A2 xo)))
  case first =>
    go_wp2_with fail
    go_loopw [8] (fun i wr => ∃ (k : Nat) (T : Nat → Nat) (o : Sv) (xo : List Pl) (st : Option (List Nat)), k ≤ n1 ∧ i = .int .i64 (k : Int) ∧ xo.length = k ∧ Hid (Rv w T wr (w.heap.size + 1) E w.heap.size st A0 A1 A2 o nS nS xo [] [] ∧ recR r = st.bind (lp rdPl (n1 - k) (e1 A0 A1 A2) xo))) (fun i _ => n1 - (intOf i).toNat)
    case atStart => exact ⟨0, _, _, _, _, by omega, rfl, rfl, HV4.out, HR4.out⟩
    case round =>
      clear HV4 HR4
      obtain ⟨k, T, o, xo, st, hk, rfl, hxo, HK⟩ := hrel
      by_cases hlt : k < n1
      · have q1 : (k : Int) < (n1 : Int) := by omega
        cases st with
        | none =>
          have c1 := HK.out.1.rd.cell
          simp only [Option.isNone_none] at c1
          go_wp2_with fail
          go_meet
          case rel => exact ⟨T, o, xo, none, by omega, HK.out.1, lp_out HK.out.2 (.inr rfl)⟩
        | some lr =>
          have c1 := HK.out.1.rd.cell
          simp only [Option.isNone_some] at c1
          obtain ⟨oa, on, oc⟩ := o
          obtain rfl : k = on := ((OwnK.sk HK.out.1.out).1.trans hxo).symm
          have HXL := hid9 hxo
          clear hxo
          go_wp2_with fail
          have HKd := hid9 (HK.out.1.below (Below.refl wr.heap.size wr).drew)
          have xd := HKd.out.cells.1
          refine wp_region_held_drew (S := (fun _ => True)) (by kernel_rfl) ?_ (fun hHeld => ?_)
          · exact trivial
          refine wpAnyH_take (i := 0) (oi := { dst := some 47, op := Go.Op.fieldAddr 61 (Go.Operand.tmp 6) 3, type := 0, pos := "screeref14.go:173", after := #[], guard := none }) (v := ?_) rfl (by kernel_rfl) (by kernel_rfl) (by kernel_rfl) (fun _ _ _ h => h) (Or.inl ⟨by rfl, ?_⟩) hHeld ?_
          rotate_left
          · (intro wq hSw; (try dsimp only at hSw); go_simp; try (with_reducible rfl))
          try simp only [Act.put, List.setIfInBounds_toArray, List.set_cons_zero, List.set_cons_succ]
          refine wpAnyH_take (i := 2) (oi := { dst := some 49, op := Go.Op.move (Go.Operand.tmp 5), type := 77, pos := "screeref14.go:173", after := #[], guard := none }) (v := ?_) rfl (by kernel_rfl) (by kernel_rfl) (by kernel_rfl) (fun _ _ _ h => h) (Or.inl ⟨by rfl, ?_⟩) hHeld ?_
          rotate_left
          · (intro wq hSw; (try dsimp only at hSw); go_simp; try (with_reducible rfl))
          try simp only [Act.put, List.setIfInBounds_toArray, List.set_cons_zero, List.set_cons_succ]
          refine wpAnyH_take (i := 4) (oi := { dst := some 51, op := Go.Op.move (Go.Operand.tmp 5), type := 77, pos := "screeref14.go:173", after := #[], guard := none }) (v := ?_) rfl (by kernel_rfl) (by kernel_rfl) (by kernel_rfl) (fun _ _ _ h => h) (Or.inl ⟨by rfl, ?_⟩) hHeld ?_
          rotate_left
          · (intro wq hSw; (try dsimp only at hSw); go_simp; try (with_reducible rfl))
          try simp only [Act.put, List.setIfInBounds_toArray, List.set_cons_zero, List.set_cons_succ]
          refine wpAnyH_ready (rs := [1, 3]) (by kernel_rfl) (by simp) ?_
          refine (AllReadyH.cons (o := { dst := some 48, op := Go.Op.load 57 (Go.Operand.tmp 47), type := 57, pos := "screeref14.go:173", after := #[{ on := 0, ground := Go.Ground.data }], guard := none }) rfl (fun K hK => ?_) (AllReadyH.cons (o := { dst := some 50, op := Go.Op.call { callee := Go.Callee.value (Go.Operand.func 39), args := #[Go.Operand.tmp 49, Go.Operand.const (Go.Value.int Go.IntKind.u64 4)], argTypes := #[77, 56] }, type := 3, pos := "screeref14.go:173", after := #[{ on := 2, ground := Go.Ground.data }], guard := none }) rfl (fun K hK => ?_) AllReadyH.nil))
          · skip
            go_simp
            refine hK.out _ _ ?_ (fun hHeld => ?_)
            · trivial
            clear hK K
            try simp only [Act.put, List.setIfInBounds_toArray, List.set_cons_zero, List.set_cons_succ]
            refine wpAnyH_ready (rs := [3]) (by kernel_rfl) (by simp) ?_
            refine (AllReadyH.cons (o := { dst := some 50, op := Go.Op.call { callee := Go.Callee.value (Go.Operand.func 39), args := #[Go.Operand.tmp 49, Go.Operand.const (Go.Value.int Go.IntKind.u64 4)], argTypes := #[77, 56] }, type := 3, pos := "screeref14.go:173", after := #[{ on := 2, ground := Go.Ground.data }], guard := none }) rfl (fun K hK => ?_) AllReadyH.nil)
            go_simp
            refine (rbelow_any w.heap.size (w.heap.size + 1) 4 4 (some lr) _ HKd.out.rd HKd.out.hR (by decide) rfl).mono ?_
            rintro e wA ⟨rfl, hrA, hkA⟩
            have HA := hid9 (HKd.out.call hrA hkA)
            have xA := HA.out.cells.1
            clear hrA hkA
            try dsimp only
            refine hK.out _ _ ?_ (fun hHeld => ?_)
            · trivial
            clear hK K
            try simp only [Act.put, List.setIfInBounds_toArray, List.set_cons_zero, List.set_cons_succ]
            refine wpAnyH_ready (rs := [5]) (by kernel_rfl) (by simp) ?_
            refine (AllReadyH.cons (o := { dst := some 52, op := Go.Op.call { callee := Go.Callee.value (Go.Operand.func 38), args := #[Go.Operand.tmp 51], argTypes := #[77] }, type := 56, pos := "screeref14.go:173", after := #[{ on := 4, ground := Go.Ground.data }, { on := 3, ground := Go.Ground.chain }], guard := none }) rfl (fun K hK => ?_) AllReadyH.nil)
            go_simp
            refine (rnumber_any w.heap.size (w.heap.size + 1) (pS (rdN 4) (some lr)) _ HA.out.rd HA.out.hR).mono ?_
            rintro e wB ⟨rfl, hrB, hkB⟩
            have HB := hid9 (HA.out.call hrB hkB)
            have xB := HB.out.cells.1
            have HBl := hid9 (HB.out.below ((Below.refl wB.heap.size wB).alloc (Nat.le_refl _) (.cells #[.int .i64 ((pV (rdN 4) 0 (some lr) : Nat) : Int), .int .u64 ((pV (rdN M64) 0 (pS (rdN 4) (some lr)) : Nat) : Int)] 83)))
            have xBl := HBl.out.cells.1
            clear hrB hkB
            try dsimp only
            refine hK.out _ _ ?_ (fun hHeld => ?_)
            · trivial
            clear hK K
            try simp only [Act.put, List.setIfInBounds_toArray, List.set_cons_zero, List.set_cons_succ]
            refine wpAnyH_take (i := 6) (oi := { dst := some 53, op := Go.Op.build 83 #[(0, Go.Operand.tmp 50), (1, Go.Operand.tmp 52)], type := 83, pos := "screeref14.go:173", after := #[{ on := 3, ground := Go.Ground.data }, { on := 5, ground := Go.Ground.data }], guard := none }) (v := ?_) rfl (by kernel_rfl) (by kernel_rfl) (by kernel_rfl) (fun _ _ _ h => h) (Or.inl ⟨by rfl, ?_⟩) hHeld ?_
            rotate_left
            · (intro wq hSw; (try dsimp only at hSw); go_simp; try (with_reducible rfl))
            try simp only [Act.put, List.setIfInBounds_toArray, List.set_cons_zero, List.set_cons_succ]
            refine wpAnyH_ready (rs := [7]) (by kernel_rfl) (by simp) ?_
            refine (AllReadyH.cons (o := { dst := some 54, op := Go.Op.buildSlice 57 1 #[(0, Go.Operand.tmp 53)], type := 57, pos := "screeref14.go:173", after := #[{ on := 6, ground := Go.Ground.data }], guard := none }) rfl (fun K hK => ?_) AllReadyH.nil)
            go_simp
            refine hK.out _ _ ?_ (fun hHeld => ?_)
            · trivial
            clear hK K
            try simp only [Act.put, List.setIfInBounds_toArray, List.set_cons_zero, List.set_cons_succ]
            refine wpAnyH_ready (rs := [8]) (by kernel_rfl) (by simp) ?_
            refine (AllReadyH.cons (o := { dst := some 55, op := Go.Op.call { callee := Go.Callee.builtin Go.Builtin.append, args := #[Go.Operand.tmp 48, Go.Operand.tmp 54], argTypes := #[57, 57] }, type := 57, pos := "screeref14.go:173", after := #[{ on := 1, ground := Go.Ground.data }, { on := 7, ground := Go.Ground.data }, { on := 5, ground := Go.Ground.chain }], guard := none }) rfl (fun K hK => ?_) AllReadyH.nil)
            (refine step_appK kPl _ (by rfl) (.tmp 48) (.tmp 54) 57 (by rfl) iz Try.underlying57 hiz hz0 hz1 hz2 4 T (.slice oa k oc) xo (by simp [Act.eval, Act.put]) HBl.out.out (some ⟨wB.heap.size, 0, none⟩) 1 1 [(((pV (rdN 4) 0 (some lr) : Nat) : Int), pV (rdN M64) 0 (pS (rdN 4) (some lr)))] (by simp [Act.eval, Act.put]) rfl (by simp) (isK_new kPl wB (((pV (rdN 4) 0 (some lr) : Nat) : Int), pV (rdN M64) 0 (pS (rdN 4) (some lr))) 83) (by simp [HXL.out]; omega) ?_; intro a' c' T' wC hoC hgC; have HC := hid9 (HBl.out.addO (s := (a', k + 1, c')) hgC (by rw [List.length_singleton, HXL.out] at hoC; exact hoC)); have yC := (hgC.cell HBl.out.box.1 (by rw [HBl.out.tE]; decide)).trans HBl.out.cells.1; have yf : ∀ j, wC.frozen? ⟨E, j, none⟩ = false := fun j => (World.frozen?_of_block (a := ⟨E, j, none⟩) (hgC.block E HBl.out.box.1 (by rw [HBl.out.tE]; decide))).trans (HBl.out.cells.2.2.2.1 j); clear hoC hgC; rw [List.length_singleton, HXL.out])
            refine hK.out _ _ ?_ (fun hHeld => ?_)
            · trivial
            clear hK K
            try simp only [Act.put, List.setIfInBounds_toArray, List.set_cons_zero, List.set_cons_succ]
            refine wpAnyH_take (i := 9) (oi := { dst := some 56, op := Go.Op.fieldAddr 61 (Go.Operand.tmp 6) 3, type := 0, pos := "screeref14.go:173", after := #[{ on := 0, ground := Go.Ground.phase }, { on := 1, ground := Go.Ground.phase }, { on := 2, ground := Go.Ground.phase }, { on := 3, ground := Go.Ground.phase }, { on := 4, ground := Go.Ground.phase }, { on := 5, ground := Go.Ground.phase }, { on := 6, ground := Go.Ground.phase }, { on := 7, ground := Go.Ground.phase }, { on := 8, ground := Go.Ground.phase }], guard := none }) (v := ?_) rfl (by kernel_rfl) (by kernel_rfl) (by kernel_rfl) (fun _ _ _ h => h) (Or.inl ⟨by rfl, ?_⟩) hHeld ?_
            rotate_left
            · (intro wq hSw; (try dsimp only at hSw); go_simp; try (with_reducible rfl))
            try simp only [Act.put, List.setIfInBounds_toArray, List.set_cons_zero, List.set_cons_succ]
            refine wpAnyH_ready (rs := [10]) (by kernel_rfl) (by simp) ?_
            refine (AllReadyH.cons (o := { dst := none, op := Go.Op.store 57 (Go.Operand.tmp 56) (Go.Operand.tmp 55), type := 0, pos := "screeref14.go:173", after := #[{ on := 9, ground := Go.Ground.data }, { on := 8, ground := Go.Ground.data }, { on := 8, ground := Go.Ground.chain }, { on := 0, ground := Go.Ground.phase }, { on := 1, ground := Go.Ground.phase }, { on := 2, ground := Go.Ground.phase }, { on := 3, ground := Go.Ground.phase }, { on := 4, ground := Go.Ground.phase }, { on := 5, ground := Go.Ground.phase }, { on := 6, ground := Go.Ground.phase }, { on := 7, ground := Go.Ground.phase }, { on := 8, ground := Go.Ground.phase }], guard := none }) rfl (fun K hK => ?_) AllReadyH.nil)
            go_simp
            refine hK.out _ _ ?_ (fun hHeld => ?_)
            · trivial
            clear hK K
            try simp only [Act.put, List.setIfInBounds_toArray, List.set_cons_zero, List.set_cons_succ]
            refine wpAnyH_done (by kernel_rfl) ?_ _
            go_wp2
            go_roundw
            case rel => exact ⟨k + 1, T', (a', k + 1, c'), xo ++ [(((pV (rdN 4) 0 (some lr) : Nat) : Int), pV (rdN M64) 0 (pS (rdN 4) (some lr)))], _, by omega, by go_num, by simp [HXL.out], HC.out, pl_step HK.out.2 hlt⟩
            case measure => simp [intOf]; omega
          · skip
            go_simp
            refine (rbelow_any w.heap.size (w.heap.size + 1) 4 4 (some lr) _ HKd.out.rd HKd.out.hR (by decide) rfl).mono ?_
            rintro e wA ⟨rfl, hrA, hkA⟩
            have HA := hid9 (HKd.out.call hrA hkA)
            have xA := HA.out.cells.1
            clear hrA hkA
            try dsimp only
            refine hK.out _ _ ?_ (fun hHeld => ?_)
            · trivial
            clear hK K
            try simp only [Act.put, List.setIfInBounds_toArray, List.set_cons_zero, List.set_cons_succ]
            refine wpAnyH_ready (rs := [1, 5]) (by kernel_rfl) (by simp) ?_
            refine (AllReadyH.cons (o := { dst := some 48, op := Go.Op.load 57 (Go.Operand.tmp 47), type := 57, pos := "screeref14.go:173", after := #[{ on := 0, ground := Go.Ground.data }], guard := none }) rfl (fun K hK => ?_) (AllReadyH.cons (o := { dst := some 52, op := Go.Op.call { callee := Go.Callee.value (Go.Operand.func 38), args := #[Go.Operand.tmp 51], argTypes := #[77] }, type := 56, pos := "screeref14.go:173", after := #[{ on := 4, ground := Go.Ground.data }, { on := 3, ground := Go.Ground.chain }], guard := none }) rfl (fun K hK => ?_) AllReadyH.nil))
            · skip
              go_simp
              refine hK.out _ _ ?_ (fun hHeld => ?_)
              · trivial
              clear hK K
              try simp only [Act.put, List.setIfInBounds_toArray, List.set_cons_zero, List.set_cons_succ]
              refine wpAnyH_ready (rs := [5]) (by kernel_rfl) (by simp) ?_
              refine (AllReadyH.cons (o := { dst := some 52, op := Go.Op.call { callee := Go.Callee.value (Go.Operand.func 38), args := #[Go.Operand.tmp 51], argTypes := #[77] }, type := 56, pos := "screeref14.go:173", after := #[{ on := 4, ground := Go.Ground.data }, { on := 3, ground := Go.Ground.chain }], guard := none }) rfl (fun K hK => ?_) AllReadyH.nil)
              go_simp
              refine (rnumber_any w.heap.size (w.heap.size + 1) (pS (rdN 4) (some lr)) _ HA.out.rd HA.out.hR).mono ?_
              rintro e wB ⟨rfl, hrB, hkB⟩
              have HB := hid9 (HA.out.call hrB hkB)
              have xB := HB.out.cells.1
              have HBl := hid9 (HB.out.below ((Below.refl wB.heap.size wB).alloc (Nat.le_refl _) (.cells #[.int .i64 ((pV (rdN 4) 0 (some lr) : Nat) : Int), .int .u64 ((pV (rdN M64) 0 (pS (rdN 4) (some lr)) : Nat) : Int)] 83)))
              have xBl := HBl.out.cells.1
              clear hrB hkB
              try dsimp only
              refine hK.out _ _ ?_ (fun hHeld => ?_)
              · trivial
              clear hK K
              try simp only [Act.put, List.setIfInBounds_toArray, List.set_cons_zero, List.set_cons_succ]
              refine wpAnyH_take (i := 6) (oi := { dst := some 53, op := Go.Op.build 83 #[(0, Go.Operand.tmp 50), (1, Go.Operand.tmp 52)], type := 83, pos := "screeref14.go:173", after := #[{ on := 3, ground := Go.Ground.data }, { on := 5, ground := Go.Ground.data }], guard := none }) (v := ?_) rfl (by kernel_rfl) (by kernel_rfl) (by kernel_rfl) (fun _ _ _ h => h) (Or.inl ⟨by rfl, ?_⟩) hHeld ?_
              rotate_left
              · (intro wq hSw; (try dsimp only at hSw); go_simp; try (with_reducible rfl))
              try simp only [Act.put, List.setIfInBounds_toArray, List.set_cons_zero, List.set_cons_succ]
              refine wpAnyH_ready (rs := [7]) (by kernel_rfl) (by simp) ?_
              refine (AllReadyH.cons (o := { dst := some 54, op := Go.Op.buildSlice 57 1 #[(0, Go.Operand.tmp 53)], type := 57, pos := "screeref14.go:173", after := #[{ on := 6, ground := Go.Ground.data }], guard := none }) rfl (fun K hK => ?_) AllReadyH.nil)
              go_simp
              refine hK.out _ _ ?_ (fun hHeld => ?_)
              · trivial
              clear hK K
              try simp only [Act.put, List.setIfInBounds_toArray, List.set_cons_zero, List.set_cons_succ]
              refine wpAnyH_ready (rs := [8]) (by kernel_rfl) (by simp) ?_
              refine (AllReadyH.cons (o := { dst := some 55, op := Go.Op.call { callee := Go.Callee.builtin Go.Builtin.append, args := #[Go.Operand.tmp 48, Go.Operand.tmp 54], argTypes := #[57, 57] }, type := 57, pos := "screeref14.go:173", after := #[{ on := 1, ground := Go.Ground.data }, { on := 7, ground := Go.Ground.data }, { on := 5, ground := Go.Ground.chain }], guard := none }) rfl (fun K hK => ?_) AllReadyH.nil)
              (refine step_appK kPl _ (by rfl) (.tmp 48) (.tmp 54) 57 (by rfl) iz Try.underlying57 hiz hz0 hz1 hz2 4 T (.slice oa k oc) xo (by simp [Act.eval, Act.put]) HBl.out.out (some ⟨wB.heap.size, 0, none⟩) 1 1 [(((pV (rdN 4) 0 (some lr) : Nat) : Int), pV (rdN M64) 0 (pS (rdN 4) (some lr)))] (by simp [Act.eval, Act.put]) rfl (by simp) (isK_new kPl wB (((pV (rdN 4) 0 (some lr) : Nat) : Int), pV (rdN M64) 0 (pS (rdN 4) (some lr))) 83) (by simp [HXL.out]; omega) ?_; intro a' c' T' wC hoC hgC; have HC := hid9 (HBl.out.addO (s := (a', k + 1, c')) hgC (by rw [List.length_singleton, HXL.out] at hoC; exact hoC)); have yC := (hgC.cell HBl.out.box.1 (by rw [HBl.out.tE]; decide)).trans HBl.out.cells.1; have yf : ∀ j, wC.frozen? ⟨E, j, none⟩ = false := fun j => (World.frozen?_of_block (a := ⟨E, j, none⟩) (hgC.block E HBl.out.box.1 (by rw [HBl.out.tE]; decide))).trans (HBl.out.cells.2.2.2.1 j); clear hoC hgC; rw [List.length_singleton, HXL.out])
              refine hK.out _ _ ?_ (fun hHeld => ?_)
              · trivial
              clear hK K
              try simp only [Act.put, List.setIfInBounds_toArray, List.set_cons_zero, List.set_cons_succ]
              refine wpAnyH_take (i := 9) (oi := { dst := some 56, op := Go.Op.fieldAddr 61 (Go.Operand.tmp 6) 3, type := 0, pos := "screeref14.go:173", after := #[{ on := 0, ground := Go.Ground.phase }, { on := 1, ground := Go.Ground.phase }, { on := 2, ground := Go.Ground.phase }, { on := 3, ground := Go.Ground.phase }, { on := 4, ground := Go.Ground.phase }, { on := 5, ground := Go.Ground.phase }, { on := 6, ground := Go.Ground.phase }, { on := 7, ground := Go.Ground.phase }, { on := 8, ground := Go.Ground.phase }], guard := none }) (v := ?_) rfl (by kernel_rfl) (by kernel_rfl) (by kernel_rfl) (fun _ _ _ h => h) (Or.inl ⟨by rfl, ?_⟩) hHeld ?_
              rotate_left
              · (intro wq hSw; (try dsimp only at hSw); go_simp; try (with_reducible rfl))
              try simp only [Act.put, List.setIfInBounds_toArray, List.set_cons_zero, List.set_cons_succ]
              refine wpAnyH_ready (rs := [10]) (by kernel_rfl) (by simp) ?_
              refine (AllReadyH.cons (o := { dst := none, op := Go.Op.store 57 (Go.Operand.tmp 56) (Go.Operand.tmp 55), type := 0, pos := "screeref14.go:173", after := #[{ on := 9, ground := Go.Ground.data }, { on := 8, ground := Go.Ground.data }, { on := 8, ground := Go.Ground.chain }, { on := 0, ground := Go.Ground.phase }, { on := 1, ground := Go.Ground.phase }, { on := 2, ground := Go.Ground.phase }, { on := 3, ground := Go.Ground.phase }, { on := 4, ground := Go.Ground.phase }, { on := 5, ground := Go.Ground.phase }, { on := 6, ground := Go.Ground.phase }, { on := 7, ground := Go.Ground.phase }, { on := 8, ground := Go.Ground.phase }], guard := none }) rfl (fun K hK => ?_) AllReadyH.nil)
              go_simp
              refine hK.out _ _ ?_ (fun hHeld => ?_)
              · trivial
              clear hK K
              try simp only [Act.put, List.setIfInBounds_toArray, List.set_cons_zero, List.set_cons_succ]
              refine wpAnyH_done (by kernel_rfl) ?_ _
              go_wp2
              go_roundw
              case rel => exact ⟨k + 1, T', (a', k + 1, c'), xo ++ [(((pV (rdN 4) 0 (some lr) : Nat) : Int), pV (rdN M64) 0 (pS (rdN 4) (some lr)))], _, by omega, by go_num, by simp [HXL.out], HC.out, pl_step HK.out.2 hlt⟩
              case measure => simp [intOf]; omega
            · skip
              go_simp
              refine (rnumber_any w.heap.size (w.heap.size + 1) (pS (rdN 4) (some lr)) _ HA.out.rd HA.out.hR).mono ?_
              rintro e wB ⟨rfl, hrB, hkB⟩
              have HB := hid9 (HA.out.call hrB hkB)
              have xB := HB.out.cells.1
              have HBl := hid9 (HB.out.below ((Below.refl wB.heap.size wB).alloc (Nat.le_refl _) (.cells #[.int .i64 ((pV (rdN 4) 0 (some lr) : Nat) : Int), .int .u64 ((pV (rdN M64) 0 (pS (rdN 4) (some lr)) : Nat) : Int)] 83)))
              have xBl := HBl.out.cells.1
              clear hrB hkB
              try dsimp only
              refine hK.out _ _ ?_ (fun hHeld => ?_)
              · trivial
              clear hK K
              try simp only [Act.put, List.setIfInBounds_toArray, List.set_cons_zero, List.set_cons_succ]
              refine wpAnyH_take (i := 6) (oi := { dst := some 53, op := Go.Op.build 83 #[(0, Go.Operand.tmp 50), (1, Go.Operand.tmp 52)], type := 83, pos := "screeref14.go:173", after := #[{ on := 3, ground := Go.Ground.data }, { on := 5, ground := Go.Ground.data }], guard := none }) (v := ?_) rfl (by kernel_rfl) (by kernel_rfl) (by kernel_rfl) (fun _ _ _ h => h) (Or.inl ⟨by rfl, ?_⟩) hHeld ?_
              rotate_left
              · (intro wq hSw; (try dsimp only at hSw); go_simp; try (with_reducible rfl))
              try simp only [Act.put, List.setIfInBounds_toArray, List.set_cons_zero, List.set_cons_succ]
              refine wpAnyH_ready (rs := [1, 7]) (by kernel_rfl) (by simp) ?_
              refine (AllReadyH.cons (o := { dst := some 48, op := Go.Op.load 57 (Go.Operand.tmp 47), type := 57, pos := "screeref14.go:173", after := #[{ on := 0, ground := Go.Ground.data }], guard := none }) rfl (fun K hK => ?_) (AllReadyH.cons (o := { dst := some 54, op := Go.Op.buildSlice 57 1 #[(0, Go.Operand.tmp 53)], type := 57, pos := "screeref14.go:173", after := #[{ on := 6, ground := Go.Ground.data }], guard := none }) rfl (fun K hK => ?_) AllReadyH.nil))
              · skip
                go_simp
                refine hK.out _ _ ?_ (fun hHeld => ?_)
                · trivial
                clear hK K
                try simp only [Act.put, List.setIfInBounds_toArray, List.set_cons_zero, List.set_cons_succ]
                refine wpAnyH_ready (rs := [7]) (by kernel_rfl) (by simp) ?_
                refine (AllReadyH.cons (o := { dst := some 54, op := Go.Op.buildSlice 57 1 #[(0, Go.Operand.tmp 53)], type := 57, pos := "screeref14.go:173", after := #[{ on := 6, ground := Go.Ground.data }], guard := none }) rfl (fun K hK => ?_) AllReadyH.nil)
                go_simp
                refine hK.out _ _ ?_ (fun hHeld => ?_)
                · trivial
                clear hK K
                try simp only [Act.put, List.setIfInBounds_toArray, List.set_cons_zero, List.set_cons_succ]
                refine wpAnyH_ready (rs := [8]) (by kernel_rfl) (by simp) ?_
                refine (AllReadyH.cons (o := { dst := some 55, op := Go.Op.call { callee := Go.Callee.builtin Go.Builtin.append, args := #[Go.Operand.tmp 48, Go.Operand.tmp 54], argTypes := #[57, 57] }, type := 57, pos := "screeref14.go:173", after := #[{ on := 1, ground := Go.Ground.data }, { on := 7, ground := Go.Ground.data }, { on := 5, ground := Go.Ground.chain }], guard := none }) rfl (fun K hK => ?_) AllReadyH.nil)
                (refine step_appK kPl _ (by rfl) (.tmp 48) (.tmp 54) 57 (by rfl) iz Try.underlying57 hiz hz0 hz1 hz2 4 T (.slice oa k oc) xo (by simp [Act.eval, Act.put]) HBl.out.out (some ⟨wB.heap.size, 0, none⟩) 1 1 [(((pV (rdN 4) 0 (some lr) : Nat) : Int), pV (rdN M64) 0 (pS (rdN 4) (some lr)))] (by simp [Act.eval, Act.put]) rfl (by simp) (isK_new kPl wB (((pV (rdN 4) 0 (some lr) : Nat) : Int), pV (rdN M64) 0 (pS (rdN 4) (some lr))) 83) (by simp [HXL.out]; omega) ?_; intro a' c' T' wC hoC hgC; have HC := hid9 (HBl.out.addO (s := (a', k + 1, c')) hgC (by rw [List.length_singleton, HXL.out] at hoC; exact hoC)); have yC := (hgC.cell HBl.out.box.1 (by rw [HBl.out.tE]; decide)).trans HBl.out.cells.1; have yf : ∀ j, wC.frozen? ⟨E, j, none⟩ = false := fun j => (World.frozen?_of_block (a := ⟨E, j, none⟩) (hgC.block E HBl.out.box.1 (by rw [HBl.out.tE]; decide))).trans (HBl.out.cells.2.2.2.1 j); clear hoC hgC; rw [List.length_singleton, HXL.out])
                refine hK.out _ _ ?_ (fun hHeld => ?_)
                · trivial
                clear hK K
                try simp only [Act.put, List.setIfInBounds_toArray, List.set_cons_zero, List.set_cons_succ]
                refine wpAnyH_take (i := 9) (oi := { dst := some 56, op := Go.Op.fieldAddr 61 (Go.Operand.tmp 6) 3, type := 0, pos := "screeref14.go:173", after := #[{ on := 0, ground := Go.Ground.phase }, { on := 1, ground := Go.Ground.phase }, { on := 2, ground := Go.Ground.phase }, { on := 3, ground := Go.Ground.phase }, { on := 4, ground := Go.Ground.phase }, { on := 5, ground := Go.Ground.phase }, { on := 6, ground := Go.Ground.phase }, { on := 7, ground := Go.Ground.phase }, { on := 8, ground := Go.Ground.phase }], guard := none }) (v := ?_) rfl (by kernel_rfl) (by kernel_rfl) (by kernel_rfl) (fun _ _ _ h => h) (Or.inl ⟨by rfl, ?_⟩) hHeld ?_
                rotate_left
                · (intro wq hSw; (try dsimp only at hSw); go_simp; try (with_reducible rfl))
                try simp only [Act.put, List.setIfInBounds_toArray, List.set_cons_zero, List.set_cons_succ]
                refine wpAnyH_ready (rs := [10]) (by kernel_rfl) (by simp) ?_
                refine (AllReadyH.cons (o := { dst := none, op := Go.Op.store 57 (Go.Operand.tmp 56) (Go.Operand.tmp 55), type := 0, pos := "screeref14.go:173", after := #[{ on := 9, ground := Go.Ground.data }, { on := 8, ground := Go.Ground.data }, { on := 8, ground := Go.Ground.chain }, { on := 0, ground := Go.Ground.phase }, { on := 1, ground := Go.Ground.phase }, { on := 2, ground := Go.Ground.phase }, { on := 3, ground := Go.Ground.phase }, { on := 4, ground := Go.Ground.phase }, { on := 5, ground := Go.Ground.phase }, { on := 6, ground := Go.Ground.phase }, { on := 7, ground := Go.Ground.phase }, { on := 8, ground := Go.Ground.phase }], guard := none }) rfl (fun K hK => ?_) AllReadyH.nil)
                go_simp
                refine hK.out _ _ ?_ (fun hHeld => ?_)
                · trivial
                clear hK K
                try simp only [Act.put, List.setIfInBounds_toArray, List.set_cons_zero, List.set_cons_succ]
                refine wpAnyH_done (by kernel_rfl) ?_ _
                go_wp2
                go_roundw
                case rel => exact ⟨k + 1, T', (a', k + 1, c'), xo ++ [(((pV (rdN 4) 0 (some lr) : Nat) : Int), pV (rdN M64) 0 (pS (rdN 4) (some lr)))], _, by omega, by go_num, by simp [HXL.out], HC.out, pl_step HK.out.2 hlt⟩
                case measure => simp [intOf]; omega
              · skip
                go_simp
                refine hK.out _ _ ?_ (fun hHeld => ?_)
                · trivial
                clear hK K
                try simp only [Act.put, List.setIfInBounds_toArray, List.set_cons_zero, List.set_cons_succ]
                refine wpAnyH_ready (rs := [1]) (by kernel_rfl) (by simp) ?_
                refine (AllReadyH.cons (o := { dst := some 48, op := Go.Op.load 57 (Go.Operand.tmp 47), type := 57, pos := "screeref14.go:173", after := #[{ on := 0, ground := Go.Ground.data }], guard := none }) rfl (fun K hK => ?_) AllReadyH.nil)
                go_simp
                refine hK.out _ _ ?_ (fun hHeld => ?_)
                · trivial
                clear hK K
                try simp only [Act.put, List.setIfInBounds_toArray, List.set_cons_zero, List.set_cons_succ]
                refine wpAnyH_ready (rs := [8]) (by kernel_rfl) (by simp) ?_
                refine (AllReadyH.cons (o := { dst := some 55, op := Go.Op.call { callee := Go.Callee.builtin Go.Builtin.append, args := #[Go.Operand.tmp 48, Go.Operand.tmp 54], argTypes := #[57, 57] }, type := 57, pos := "screeref14.go:173", after := #[{ on := 1, ground := Go.Ground.data }, { on := 7, ground := Go.Ground.data }, { on := 5, ground := Go.Ground.chain }], guard := none }) rfl (fun K hK => ?_) AllReadyH.nil)
                (refine step_appK kPl _ (by rfl) (.tmp 48) (.tmp 54) 57 (by rfl) iz Try.underlying57 hiz hz0 hz1 hz2 4 T (.slice oa k oc) xo (by simp [Act.eval, Act.put]) HBl.out.out (some ⟨wB.heap.size, 0, none⟩) 1 1 [(((pV (rdN 4) 0 (some lr) : Nat) : Int), pV (rdN M64) 0 (pS (rdN 4) (some lr)))] (by simp [Act.eval, Act.put]) rfl (by simp) (isK_new kPl wB (((pV (rdN 4) 0 (some lr) : Nat) : Int), pV (rdN M64) 0 (pS (rdN 4) (some lr))) 83) (by simp [HXL.out]; omega) ?_; intro a' c' T' wC hoC hgC; have HC := hid9 (HBl.out.addO (s := (a', k + 1, c')) hgC (by rw [List.length_singleton, HXL.out] at hoC; exact hoC)); have yC := (hgC.cell HBl.out.box.1 (by rw [HBl.out.tE]; decide)).trans HBl.out.cells.1; have yf : ∀ j, wC.frozen? ⟨E, j, none⟩ = false := fun j => (World.frozen?_of_block (a := ⟨E, j, none⟩) (hgC.block E HBl.out.box.1 (by rw [HBl.out.tE]; decide))).trans (HBl.out.cells.2.2.2.1 j); clear hoC hgC; rw [List.length_singleton, HXL.out])
                refine hK.out _ _ ?_ (fun hHeld => ?_)
                · trivial
                clear hK K
                try simp only [Act.put, List.setIfInBounds_toArray, List.set_cons_zero, List.set_cons_succ]
                refine wpAnyH_take (i := 9) (oi := { dst := some 56, op := Go.Op.fieldAddr 61 (Go.Operand.tmp 6) 3, type := 0, pos := "screeref14.go:173", after := #[{ on := 0, ground := Go.Ground.phase }, { on := 1, ground := Go.Ground.phase }, { on := 2, ground := Go.Ground.phase }, { on := 3, ground := Go.Ground.phase }, { on := 4, ground := Go.Ground.phase }, { on := 5, ground := Go.Ground.phase }, { on := 6, ground := Go.Ground.phase }, { on := 7, ground := Go.Ground.phase }, { on := 8, ground := Go.Ground.phase }], guard := none }) (v := ?_) rfl (by kernel_rfl) (by kernel_rfl) (by kernel_rfl) (fun _ _ _ h => h) (Or.inl ⟨by rfl, ?_⟩) hHeld ?_
                rotate_left
                · (intro wq hSw; (try dsimp only at hSw); go_simp; try (with_reducible rfl))
                try simp only [Act.put, List.setIfInBounds_toArray, List.set_cons_zero, List.set_cons_succ]
                refine wpAnyH_ready (rs := [10]) (by kernel_rfl) (by simp) ?_
                refine (AllReadyH.cons (o := { dst := none, op := Go.Op.store 57 (Go.Operand.tmp 56) (Go.Operand.tmp 55), type := 0, pos := "screeref14.go:173", after := #[{ on := 9, ground := Go.Ground.data }, { on := 8, ground := Go.Ground.data }, { on := 8, ground := Go.Ground.chain }, { on := 0, ground := Go.Ground.phase }, { on := 1, ground := Go.Ground.phase }, { on := 2, ground := Go.Ground.phase }, { on := 3, ground := Go.Ground.phase }, { on := 4, ground := Go.Ground.phase }, { on := 5, ground := Go.Ground.phase }, { on := 6, ground := Go.Ground.phase }, { on := 7, ground := Go.Ground.phase }, { on := 8, ground := Go.Ground.phase }], guard := none }) rfl (fun K hK => ?_) AllReadyH.nil)
                go_simp
                refine hK.out _ _ ?_ (fun hHeld => ?_)
                · trivial
                clear hK K
                try simp only [Act.put, List.setIfInBounds_toArray, List.set_cons_zero, List.set_cons_succ]
                refine wpAnyH_done (by kernel_rfl) ?_ _
                go_wp2
                go_roundw
                case rel => exact ⟨k + 1, T', (a', k + 1, c'), xo ++ [(((pV (rdN 4) 0 (some lr) : Nat) : Int), pV (rdN M64) 0 (pS (rdN 4) (some lr)))], _, by omega, by go_num, by simp [HXL.out], HC.out, pl_step HK.out.2 hlt⟩
                case measure => simp [intOf]; omega
      · have q1 : ¬ (k : Int) < (n1 : Int) := by omega
        go_wp2_with fail
        go_meet
        case rel => exact ⟨T, o, xo, st, by omega, HK.out.1, lp_out HK.out.2 (.inl (by omega))⟩
  case rest =>
    clear HV4 HR4
    obtain ⟨T1, o1, xo, s5, hxo, HV5⟩ := hcut
    rename World => w5
    go_wp2_with fail
    refine (rbelow_any w.heap.size (w.heap.size + 1) 256 256 s5 _ HV5.out.1.rd HV5.out.1.hR (by decide) rfl).mono ?_
    rintro e w6 ⟨rfl, hr6, hk6⟩
    have HV6 := hid9 (HV5.out.1.call hr6 hk6)
    have HR6 := hid9 (HV5.out.2.trans (lp_start rdPd 256 (e2 A0 A1 A2 xo) s5))
    have hn2 := pV_cap 256 s5
    clear hr6 hk6 HV5
    generalize pV (rdN 256) 0 s5 = n2 at *
    generalize pS (rdN 256) s5 = s6 at *
    go_upto_block 2 with fail
    go_cut [9] (fun _ w' => ∃ (T : Nat → Nat) (i : Sv) (xi : List Pd) (st : Option (List Nat)), xi.length ≤ 256 ∧ Hid (Rv w T w' (w.heap.size + 1) E w.heap.size st A0 A1 A2 o1 i nS xo xi [] ∧ recR r = st.bind (e2 A0 A1 A2 xo xi)))
    case first =>
      go_wp2_with fail
      go_loopw [9] (fun i wr => ∃ (k : Nat) (T : Nat → Nat) (o : Sv) (xi : List Pd) (st : Option (List Nat)), k ≤ n2 ∧ i = .int .i64 (k : Int) ∧ xi.length = k ∧ Hid (Rv w T wr (w.heap.size + 1) E w.heap.size st A0 A1 A2 o1 o nS xo xi [] ∧ recR r = st.bind (lp rdPd (n2 - k) (e2 A0 A1 A2 xo) xi))) (fun i _ => n2 - (intOf i).toNat)
      case atStart => exact ⟨0, _, _, _, _, by omega, rfl, rfl, HV6.out, HR6.out⟩
      case round =>
        clear HV6 HR6
        obtain ⟨k, T, o, xi, st, hk, rfl, hxi, HK⟩ := hrel
        by_cases hlt : k < n2
        · have q1 : (k : Int) < (n2 : Int) := by omega
          cases st with
          | none =>
            have c1 := HK.out.1.rd.cell
            simp only [Option.isNone_none] at c1
            go_wp2_with fail
            go_meet
            case rel => exact ⟨T, o, xi, none, by omega, HK.out.1, lp_out HK.out.2 (.inr rfl)⟩
          | some lr =>
            have c1 := HK.out.1.rd.cell
            simp only [Option.isNone_some] at c1
            obtain ⟨oa, on, oc⟩ := o
            obtain rfl : k = on := ((OwnK.sk HK.out.1.inn).1.trans hxi).symm
            have HXL := hid9 hxi
            clear hxi
            go_wp2_with fail
            refine (rbelow_any w.heap.size (w.heap.size + 1) 4 4 (some lr) _ HK.out.1.rd HK.out.1.hR (by decide) rfl).mono ?_
            rintro e v1 ⟨rfl, hr7, hk7⟩
            have HW1 := hid9 (HK.out.1.call (st' := d1 (some lr)) hr7 hk7)
            clear hr7 hk7
            go_upto_region 15 with fail
            have HX1 := hid9 (And.intro (HW1.out.newX (.cells #[.int .i64 ((pV (rdN 4) 0 (some lr) : Nat) : Int), .int .u64 0, .int .i64 0, .int .i64 0, .int .i64 0, .string ⟨#[]⟩, .string ⟨#[]⟩] 87)) (And.intro (Zb.new v1 #[.int .i64 ((pV (rdN 4) 0 (some lr) : Nat) : Int), .int .u64 0, .int .i64 0, .int .i64 0, .int .i64 0, .string ⟨#[]⟩, .string ⟨#[]⟩] 87) (upd_same T v1.heap.size 7)))
            have hXR : v1.heap.size ≠ w.heap.size + 1 := fun e => by have := HW1.out.rd.lt; omega
            have HXR := hid9 hXR
            clear hXR
            generalize hq1 : v1.alloc (.cells #[.int .i64 ((pV (rdN 4) 0 (some lr) : Nat) : Int), .int .u64 0, .int .i64 0, .int .i64 0, .int .i64 0, .string ⟨#[]⟩, .string ⟨#[]⟩] 87) = v2 at *
            generalize hq2 : upd T v1.heap.size 7 = T7 at *
            generalize v1.heap.size = X at *
            clear hq1 hq2 HW1
            go_wp2_with fail
            refine (rnumber_any w.heap.size (w.heap.size + 1)  (d1 (some lr)) _ HX1.out.1.rd HX1.out.1.hR).mono ?_
            rintro e v3 ⟨rfl, hr7, hk7⟩
            have HX3 := hid9 (And.intro (HX1.out.1.call (st' := d2 (some lr)) hr7 hk7) (And.intro (HX1.out.2.1.call hk7 HXR.out) HX1.out.2.2))
            clear hr7 hk7 HX1
            have z1 := HX3.out.2.1.2.1 1 _ rfl
            have zf := HX3.out.2.1.2.2
            go_upto_region 16 with fail
            have HX4 : Hid (Rv w T7 (v3.setCell ⟨X, 1, none⟩ (.int .u64 ((pV (rdN M64) 0 (d1 (some lr)) : Nat) : Int))) (w.heap.size + 1) E w.heap.size (d2 (some lr)) A0 A1 A2 o1 (oa, k, oc) nS xo xi [] ∧ Zb (v3.setCell ⟨X, 1, none⟩ (.int .u64 ((pV (rdN M64) 0 (d1 (some lr)) : Nat) : Int))) X [.int .i64 ((pV (rdN 4) 0 (some lr) : Nat) : Int), .int .u64 ((pV (rdN M64) 0 (d1 (some lr)) : Nat) : Int), .int .i64 0, .int .i64 0, .int .i64 0, .string ⟨#[]⟩, .string ⟨#[]⟩] ∧ T7 X = 7) := ⟨(Rv.setX HX3.out.1 HX3.out.2.2 1 (.int .u64 ((pV (rdN M64) 0 (d1 (some lr)) : Nat) : Int))), (Zb.set HX3.out.2.1 1 (.int .u64 ((pV (rdN M64) 0 (d1 (some lr)) : Nat) : Int))), HX3.out.2.2⟩
            clear HX3 z1 zf
            generalize hq1 : (v3.setCell ⟨X, 1, none⟩ (.int .u64 ((pV (rdN M64) 0 (d1 (some lr)) : Nat) : Int))) = v4 at *
            clear hq1
            go_wp2_with fail
            refine (rbelow_any w.heap.size (w.heap.size + 1) M63 9223372036854775807 (d2 (some lr)) _ HX4.out.1.rd HX4.out.1.hR (by decide) rfl).mono ?_
            rintro e v5 ⟨rfl, hr7, hk7⟩
            have HX5 := hid9 (And.intro (HX4.out.1.call (st' := d3 (some lr)) hr7 hk7) (And.intro (HX4.out.2.1.call hk7 HXR.out) HX4.out.2.2))
            clear hr7 hk7 HX4
            go_wp2_with fail
            refine (rbelow_any w.heap.size (w.heap.size + 1) M63 9223372036854775807 (d3 (some lr)) _ HX5.out.1.rd HX5.out.1.hR (by decide) rfl).mono ?_
            rintro e v6 ⟨rfl, hr7, hk7⟩
            have HX6 := hid9 (And.intro (HX5.out.1.call (st' := d4 (some lr)) hr7 hk7) (And.intro (HX5.out.2.1.call hk7 HXR.out) HX5.out.2.2))
            clear hr7 hk7 HX5
            go_wp2_with fail
            refine (rbelow_any w.heap.size (w.heap.size + 1) M63 9223372036854775807 (d4 (some lr)) _ HX6.out.1.rd HX6.out.1.hR (by decide) rfl).mono ?_
            rintro e v7 ⟨rfl, hr7, hk7⟩
            have HX7 := hid9 (And.intro (HX6.out.1.call (st' := d5 (some lr)) hr7 hk7) (And.intro (HX6.out.2.1.call hk7 HXR.out) HX6.out.2.2))
            clear hr7 hk7 HX6
            have z2 := HX7.out.2.1.2.1 2 _ rfl
            have z3 := HX7.out.2.1.2.1 3 _ rfl
            have z4 := HX7.out.2.1.2.1 4 _ rfl
            have zf := HX7.out.2.1.2.2
            go_upto_region 17 with fail
            have HX8 : Hid (Rv w T7 (((v7.setCell ⟨X, 2, none⟩ (.int .i64 ((pV (rdN M63) 0 (d2 (some lr)) : Nat) : Int))).setCell ⟨X, 3, none⟩ (.int .i64 ((pV (rdN M63) 0 (d3 (some lr)) : Nat) : Int))).setCell ⟨X, 4, none⟩ (.int .i64 ((pV (rdN M63) 0 (d4 (some lr)) : Nat) : Int))) (w.heap.size + 1) E w.heap.size (d5 (some lr)) A0 A1 A2 o1 (oa, k, oc) nS xo xi [] ∧ Zb (((v7.setCell ⟨X, 2, none⟩ (.int .i64 ((pV (rdN M63) 0 (d2 (some lr)) : Nat) : Int))).setCell ⟨X, 3, none⟩ (.int .i64 ((pV (rdN M63) 0 (d3 (some lr)) : Nat) : Int))).setCell ⟨X, 4, none⟩ (.int .i64 ((pV (rdN M63) 0 (d4 (some lr)) : Nat) : Int))) X [.int .i64 ((pV (rdN 4) 0 (some lr) : Nat) : Int), .int .u64 ((pV (rdN M64) 0 (d1 (some lr)) : Nat) : Int), .int .i64 ((pV (rdN M63) 0 (d2 (some lr)) : Nat) : Int), .int .i64 ((pV (rdN M63) 0 (d3 (some lr)) : Nat) : Int), .int .i64 ((pV (rdN M63) 0 (d4 (some lr)) : Nat) : Int), .string ⟨#[]⟩, .string ⟨#[]⟩] ∧ T7 X = 7) := ⟨(Rv.setX (Rv.setX (Rv.setX HX7.out.1 HX7.out.2.2 2 (.int .i64 ((pV (rdN M63) 0 (d2 (some lr)) : Nat) : Int))) HX7.out.2.2 3 (.int .i64 ((pV (rdN M63) 0 (d3 (some lr)) : Nat) : Int))) HX7.out.2.2 4 (.int .i64 ((pV (rdN M63) 0 (d4 (some lr)) : Nat) : Int))), (Zb.set (Zb.set (Zb.set HX7.out.2.1 2 (.int .i64 ((pV (rdN M63) 0 (d2 (some lr)) : Nat) : Int))) 3 (.int .i64 ((pV (rdN M63) 0 (d3 (some lr)) : Nat) : Int))) 4 (.int .i64 ((pV (rdN M63) 0 (d4 (some lr)) : Nat) : Int))), HX7.out.2.2⟩
            clear HX7 z2 z3 z4 zf
            generalize hq1 : (((v7.setCell ⟨X, 2, none⟩ (.int .i64 ((pV (rdN M63) 0 (d2 (some lr)) : Nat) : Int))).setCell ⟨X, 3, none⟩ (.int .i64 ((pV (rdN M63) 0 (d3 (some lr)) : Nat) : Int))).setCell ⟨X, 4, none⟩ (.int .i64 ((pV (rdN M63) 0 (d4 (some lr)) : Nat) : Int))) = v8 at *
            clear hq1
            go_wp2_with fail
            refine (rtext_any w.heap.size (w.heap.size + 1)  (d5 (some lr)) _ HX8.out.1.rd HX8.out.1.hR).mono ?_
            rintro e v9 ⟨rfl, hr7, hk7⟩
            have HX9 := hid9 (And.intro (HX8.out.1.call (st' := d6 (some lr)) hr7 hk7) (And.intro (HX8.out.2.1.call hk7 HXR.out) HX8.out.2.2))
            clear hr7 hk7 HX8
            go_wp2_with fail
            refine (rtext_any w.heap.size (w.heap.size + 1)  (d6 (some lr)) _ HX9.out.1.rd HX9.out.1.hR).mono ?_
            rintro e va ⟨rfl, hr7, hk7⟩
            have HXa := hid9 (And.intro (HX9.out.1.call (st' := d7 (some lr)) hr7 hk7) (And.intro (HX9.out.2.1.call hk7 HXR.out) HX9.out.2.2))
            clear hr7 hk7 HX9
            have z5 := HXa.out.2.1.2.1 5 _ rfl
            have z6 := HXa.out.2.1.2.1 6 _ rfl
            have zf := HXa.out.2.1.2.2
            go_upto_region 18 with fail
            have HXb : Hid (Rv w T7 ((va.setCell ⟨X, 5, none⟩ (.string (pV rdK ⟨#[]⟩ (d5 (some lr))))).setCell ⟨X, 6, none⟩ (.string (pV rdK ⟨#[]⟩ (d6 (some lr))))) (w.heap.size + 1) E w.heap.size (d7 (some lr)) A0 A1 A2 o1 (oa, k, oc) nS xo xi [] ∧ Zb ((va.setCell ⟨X, 5, none⟩ (.string (pV rdK ⟨#[]⟩ (d5 (some lr))))).setCell ⟨X, 6, none⟩ (.string (pV rdK ⟨#[]⟩ (d6 (some lr))))) X [.int .i64 ((pV (rdN 4) 0 (some lr) : Nat) : Int), .int .u64 ((pV (rdN M64) 0 (d1 (some lr)) : Nat) : Int), .int .i64 ((pV (rdN M63) 0 (d2 (some lr)) : Nat) : Int), .int .i64 ((pV (rdN M63) 0 (d3 (some lr)) : Nat) : Int), .int .i64 ((pV (rdN M63) 0 (d4 (some lr)) : Nat) : Int), .string (pV rdK ⟨#[]⟩ (d5 (some lr))), .string (pV rdK ⟨#[]⟩ (d6 (some lr)))] ∧ T7 X = 7) := ⟨(Rv.setX (Rv.setX HXa.out.1 HXa.out.2.2 5 (.string (pV rdK ⟨#[]⟩ (d5 (some lr))))) HXa.out.2.2 6 (.string (pV rdK ⟨#[]⟩ (d6 (some lr))))), (Zb.set (Zb.set HXa.out.2.1 5 (.string (pV rdK ⟨#[]⟩ (d5 (some lr))))) 6 (.string (pV rdK ⟨#[]⟩ (d6 (some lr))))), HXa.out.2.2⟩
            clear HXa z5 z6 zf
            generalize hq1 : ((va.setCell ⟨X, 5, none⟩ (.string (pV rdK ⟨#[]⟩ (d5 (some lr))))).setCell ⟨X, 6, none⟩ (.string (pV rdK ⟨#[]⟩ (d6 (some lr))))) = vb at *
            clear hq1
            have y4 := HXb.out.1.cells.2.1
            have z0 := HXb.out.2.1.2.1 0 _ rfl
            have z1 := HXb.out.2.1.2.1 1 _ rfl
            have z2 := HXb.out.2.1.2.1 2 _ rfl
            have z3 := HXb.out.2.1.2.1 3 _ rfl
            have z4 := HXb.out.2.1.2.1 4 _ rfl
            have z5 := HXb.out.2.1.2.1 5 _ rfl
            have z6 := HXb.out.2.1.2.1 6 _ rfl
            have HY := hid9 (HXb.out.1.below ((Below.refl vb.heap.size vb).alloc (Nat.le_refl _) (.cells #[.int .i64 ((pV (rdN 4) 0 (some lr) : Nat) : Int), .int .u64 ((pV (rdN M64) 0 (d1 (some lr)) : Nat) : Int), .int .i64 ((pV (rdN M63) 0 (d2 (some lr)) : Nat) : Int), .int .i64 ((pV (rdN M63) 0 (d3 (some lr)) : Nat) : Int), .int .i64 ((pV (rdN M63) 0 (d4 (some lr)) : Nat) : Int), .string (pV rdK ⟨#[]⟩ (d5 (some lr))), .string (pV rdK ⟨#[]⟩ (d6 (some lr)))] 87)))
            clear HXb
            go_wp2_with (at_builtin; go_loud (refine wpList_appK kPd _ (by rfl) (.tmp 99) (.tmp 101) 58 (by rfl) jz Try.underlying58 hjz jz0 jz1 jz2 5 T7 (.slice oa k oc) xi (by rfl) HY.out.inn (some ⟨vb.heap.size, 0, none⟩) 1 1 [dV (some lr)] (by rfl) rfl (by simp) (isK_new kPd vb (dV (some lr)) 87) (by simp [HXL.out]; omega) ?_; intro a' c' T' vc hoC hgC; have HC := hid9 (HY.out.addI (s := (a', k + 1, c')) hgC (by rw [List.length_singleton, HXL.out] at hoC; exact hoC)); have yC := (hgC.cell HY.out.box.1 (by rw [HY.out.tE]; decide)).trans HY.out.cells.2.1; have yf : ∀ j, vc.frozen? ⟨E, j, none⟩ = false := fun j => (World.frozen?_of_block (a := ⟨E, j, none⟩) (hgC.block E HY.out.box.1 (by rw [HY.out.tE]; decide))).trans (HY.out.cells.2.2.2.1 j); clear hoC hgC; rw [List.length_singleton, HXL.out]))
            go_roundw
            case rel => exact ⟨k + 1, T', (a', k + 1, c'), xi ++ [dV (some lr)], d7 (some lr), by omega, by go_num, by simp [HXL.out], HC.out, pd_step HK.out.2 hlt⟩
            case measure => simp [intOf]; omega
        · have q1 : ¬ (k : Int) < (n2 : Int) := by omega
          go_wp2_with fail
          go_meet
          case rel => exact ⟨T, o, xi, st, by omega, HK.out.1, lp_out HK.out.2 (.inl (by omega))⟩
    case rest =>
      clear HV6 HR6
      obtain ⟨T2, o2, xi, s7, hxi, HV7⟩ := hcut
      rename World => w7
      go_wp2_with fail
      refine (rbelow_any w.heap.size (w.heap.size + 1) 5 5 s7 _ HV7.out.1.rd HV7.out.1.hR (by decide) rfl).mono ?_
      rintro e w8 ⟨rfl, hr8, hk8⟩
      have HV8 := hid9 (HV7.out.1.call hr8 hk8)
      have HR8 := hid9 (HV7.out.2.trans (lp_start rdK 5 (e3 A0 A1 A2 xo xi) s7))
      have hn3 := pV_cap 5 s7
      clear hr8 hk8 HV7
      generalize pV (rdN 5) 0 s7 = n3 at *
      generalize pS (rdN 5) s7 = s8 at *
      go_upto_block 4 with fail
      go_cut [11] (fun _ w' => ∃ (T : Nat → Nat) (i : Sv) (xp : List ByteArray) (st : Option (List Nat)), xp.length ≤ 5 ∧ Hid (Rv w T w' (w.heap.size + 1) E w.heap.size st A0 A1 A2 o1 o2 i xo xi xp ∧ recR r = st.bind (e3 A0 A1 A2 xo xi xp)))
      case first =>
        go_wp2_with fail
        go_loopw [11] (fun i wr => ∃ (k : Nat) (T : Nat → Nat) (o : Sv) (xp : List ByteArray) (st : Option (List Nat)), k ≤ n3 ∧ i = .int .i64 (k : Int) ∧ xp.length = k ∧ Hid (Rv w T wr (w.heap.size + 1) E w.heap.size st A0 A1 A2 o1 o2 o xo xi xp ∧ recR r = st.bind (lp rdK (n3 - k) (e3 A0 A1 A2 xo xi) xp))) (fun i _ => n3 - (intOf i).toNat)
        case atStart => exact ⟨0, _, _, _, _, by omega, rfl, rfl, HV8.out, HR8.out⟩
        case round =>
          clear HV8 HR8
          obtain ⟨k, T, o, xp, st, hk, rfl, hxp, HK⟩ := hrel
          by_cases hlt : k < n3
          · have q1 : (k : Int) < (n3 : Int) := by omega
            cases st with
            | none =>
              have c1 := HK.out.1.rd.cell
              simp only [Option.isNone_none] at c1
              go_wp2_with fail
              go_meet
              case rel => exact ⟨T, o, xp, none, by omega, HK.out.1, lp_out HK.out.2 (.inr rfl)⟩
            | some lr =>
              have c1 := HK.out.1.rd.cell
              simp only [Option.isNone_some] at c1
              obtain ⟨oa, on, oc⟩ := o
              obtain rfl : k = on := ((OwnK.sk HK.out.1.ptr).1.trans hxp).symm
              have HXL := hid9 hxp
              clear hxp
              go_wp2_with fail
              have HKd := hid9 (HK.out.1.below (Below.refl wr.heap.size wr).drew)
              have xd := HKd.out.cells.2.2.1
              refine wp_region_held_drew (S := (fun _ => True)) (by kernel_rfl) ?_ (fun hHeld => ?_)
              · exact trivial
              refine wpAnyH_take (i := 0) (oi := { dst := some 118, op := Go.Op.fieldAddr 61 (Go.Operand.tmp 6) 5, type := 0, pos := "screeref14.go:185", after := #[], guard := none }) (v := ?_) rfl (by kernel_rfl) (by kernel_rfl) (by kernel_rfl) (fun _ _ _ h => h) (Or.inl ⟨by rfl, ?_⟩) hHeld ?_
              rotate_left
              · (intro wq hSw; (try dsimp only at hSw); go_simp; try (with_reducible rfl))
              try simp only [Act.put, List.setIfInBounds_toArray, List.set_cons_zero, List.set_cons_succ]
              refine wpAnyH_take (i := 2) (oi := { dst := some 120, op := Go.Op.move (Go.Operand.tmp 5), type := 77, pos := "screeref14.go:185", after := #[], guard := none }) (v := ?_) rfl (by kernel_rfl) (by kernel_rfl) (by kernel_rfl) (fun _ _ _ h => h) (Or.inl ⟨by rfl, ?_⟩) hHeld ?_
              rotate_left
              · (intro wq hSw; (try dsimp only at hSw); go_simp; try (with_reducible rfl))
              try simp only [Act.put, List.setIfInBounds_toArray, List.set_cons_zero, List.set_cons_succ]
              refine wpAnyH_ready (rs := [1, 3]) (by kernel_rfl) (by simp) ?_
              refine (AllReadyH.cons (o := { dst := some 119, op := Go.Op.load 59 (Go.Operand.tmp 118), type := 59, pos := "screeref14.go:185", after := #[{ on := 0, ground := Go.Ground.data }], guard := none }) rfl (fun K hK => ?_) (AllReadyH.cons (o := { dst := some 121, op := Go.Op.call { callee := Go.Callee.value (Go.Operand.func 40), args := #[Go.Operand.tmp 120], argTypes := #[77] }, type := 9, pos := "screeref14.go:185", after := #[{ on := 2, ground := Go.Ground.data }], guard := none }) rfl (fun K hK => ?_) AllReadyH.nil))
              · skip
                go_simp
                refine hK.out _ _ ?_ (fun hHeld => ?_)
                · trivial
                clear hK K
                try simp only [Act.put, List.setIfInBounds_toArray, List.set_cons_zero, List.set_cons_succ]
                refine wpAnyH_ready (rs := [3]) (by kernel_rfl) (by simp) ?_
                refine (AllReadyH.cons (o := { dst := some 121, op := Go.Op.call { callee := Go.Callee.value (Go.Operand.func 40), args := #[Go.Operand.tmp 120], argTypes := #[77] }, type := 9, pos := "screeref14.go:185", after := #[{ on := 2, ground := Go.Ground.data }], guard := none }) rfl (fun K hK => ?_) AllReadyH.nil)
                go_simp
                refine (rtext_any w.heap.size (w.heap.size + 1) (some lr) _ HKd.out.rd HKd.out.hR).mono ?_
                rintro e wA ⟨rfl, hrA, hkA⟩
                have HA := hid9 (HKd.out.call hrA hkA)
                have xA := HA.out.cells.2.2.1
                have HBl := hid9 (HA.out.below ((Below.refl wA.heap.size wA).alloc (Nat.le_refl _) (.cells #[.string (pV rdK ⟨#[]⟩ (some lr))] 9)))
                have xBl := HBl.out.cells.2.2.1
                clear hrA hkA
                try dsimp only
                refine hK.out _ _ ?_ (fun hHeld => ?_)
                · trivial
                clear hK K
                try simp only [Act.put, List.setIfInBounds_toArray, List.set_cons_zero, List.set_cons_succ]
                refine wpAnyH_ready (rs := [4]) (by kernel_rfl) (by simp) ?_
                refine (AllReadyH.cons (o := { dst := some 122, op := Go.Op.buildSlice 59 1 #[(0, Go.Operand.tmp 121)], type := 59, pos := "screeref14.go:185", after := #[{ on := 3, ground := Go.Ground.data }], guard := none }) rfl (fun K hK => ?_) AllReadyH.nil)
                go_simp
                refine hK.out _ _ ?_ (fun hHeld => ?_)
                · trivial
                clear hK K
                try simp only [Act.put, List.setIfInBounds_toArray, List.set_cons_zero, List.set_cons_succ]
                refine wpAnyH_ready (rs := [5]) (by kernel_rfl) (by simp) ?_
                refine (AllReadyH.cons (o := { dst := some 123, op := Go.Op.call { callee := Go.Callee.builtin Go.Builtin.append, args := #[Go.Operand.tmp 119, Go.Operand.tmp 122], argTypes := #[59, 59] }, type := 59, pos := "screeref14.go:185", after := #[{ on := 1, ground := Go.Ground.data }, { on := 4, ground := Go.Ground.data }, { on := 3, ground := Go.Ground.chain }], guard := none }) rfl (fun K hK => ?_) AllReadyH.nil)
                (refine step_appK kT _ (by rfl) (.tmp 119) (.tmp 122) 59 (by rfl) tz Try.underlying59 htz tz0 tz1 tz2 6 T (.slice oa k oc) xp (by simp [Act.eval, Act.put]) HBl.out.ptr (some ⟨wA.heap.size, 0, none⟩) 1 1 [pV rdK ⟨#[]⟩ (some lr)] (by simp [Act.eval, Act.put]) rfl (by simp) (isK_new kT wA (pV rdK ⟨#[]⟩ (some lr)) 9) (by simp [HXL.out]; omega) ?_; intro a' c' T' wC hoC hgC; have HC := hid9 (HBl.out.addP (s := (a', k + 1, c')) hgC (by rw [List.length_singleton, HXL.out] at hoC; exact hoC)); have yC := (hgC.cell HBl.out.box.1 (by rw [HBl.out.tE]; decide)).trans HBl.out.cells.2.2.1; have yf : ∀ j, wC.frozen? ⟨E, j, none⟩ = false := fun j => (World.frozen?_of_block (a := ⟨E, j, none⟩) (hgC.block E HBl.out.box.1 (by rw [HBl.out.tE]; decide))).trans (HBl.out.cells.2.2.2.1 j); clear hoC hgC; rw [List.length_singleton, HXL.out])
                refine hK.out _ _ ?_ (fun hHeld => ?_)
                · trivial
                clear hK K
                try simp only [Act.put, List.setIfInBounds_toArray, List.set_cons_zero, List.set_cons_succ]
                refine wpAnyH_take (i := 6) (oi := { dst := some 124, op := Go.Op.fieldAddr 61 (Go.Operand.tmp 6) 5, type := 0, pos := "screeref14.go:185", after := #[{ on := 0, ground := Go.Ground.phase }, { on := 1, ground := Go.Ground.phase }, { on := 2, ground := Go.Ground.phase }, { on := 3, ground := Go.Ground.phase }, { on := 4, ground := Go.Ground.phase }, { on := 5, ground := Go.Ground.phase }], guard := none }) (v := ?_) rfl (by kernel_rfl) (by kernel_rfl) (by kernel_rfl) (fun _ _ _ h => h) (Or.inl ⟨by rfl, ?_⟩) hHeld ?_
                rotate_left
                · (intro wq hSw; (try dsimp only at hSw); go_simp; try (with_reducible rfl))
                try simp only [Act.put, List.setIfInBounds_toArray, List.set_cons_zero, List.set_cons_succ]
                refine wpAnyH_ready (rs := [7]) (by kernel_rfl) (by simp) ?_
                refine (AllReadyH.cons (o := { dst := none, op := Go.Op.store 59 (Go.Operand.tmp 124) (Go.Operand.tmp 123), type := 0, pos := "screeref14.go:185", after := #[{ on := 6, ground := Go.Ground.data }, { on := 5, ground := Go.Ground.data }, { on := 5, ground := Go.Ground.chain }, { on := 0, ground := Go.Ground.phase }, { on := 1, ground := Go.Ground.phase }, { on := 2, ground := Go.Ground.phase }, { on := 3, ground := Go.Ground.phase }, { on := 4, ground := Go.Ground.phase }, { on := 5, ground := Go.Ground.phase }], guard := none }) rfl (fun K hK => ?_) AllReadyH.nil)
                go_simp
                refine hK.out _ _ ?_ (fun hHeld => ?_)
                · trivial
                clear hK K
                try simp only [Act.put, List.setIfInBounds_toArray, List.set_cons_zero, List.set_cons_succ]
                refine wpAnyH_done (by kernel_rfl) ?_ _
                go_wp2
                go_roundw
                case rel => exact ⟨k + 1, T', (a', k + 1, c'), xp ++ [pV rdK ⟨#[]⟩ (some lr)], _, by omega, by go_num, by simp [HXL.out], HC.out, k_step HK.out.2 hlt⟩
                case measure => simp [intOf]; omega
              · skip
                go_simp
                refine (rtext_any w.heap.size (w.heap.size + 1) (some lr) _ HKd.out.rd HKd.out.hR).mono ?_
                rintro e wA ⟨rfl, hrA, hkA⟩
                have HA := hid9 (HKd.out.call hrA hkA)
                have xA := HA.out.cells.2.2.1
                have HBl := hid9 (HA.out.below ((Below.refl wA.heap.size wA).alloc (Nat.le_refl _) (.cells #[.string (pV rdK ⟨#[]⟩ (some lr))] 9)))
                have xBl := HBl.out.cells.2.2.1
                clear hrA hkA
                try dsimp only
                refine hK.out _ _ ?_ (fun hHeld => ?_)
                · trivial
                clear hK K
                try simp only [Act.put, List.setIfInBounds_toArray, List.set_cons_zero, List.set_cons_succ]
                refine wpAnyH_ready (rs := [1, 4]) (by kernel_rfl) (by simp) ?_
                refine (AllReadyH.cons (o := { dst := some 119, op := Go.Op.load 59 (Go.Operand.tmp 118), type := 59, pos := "screeref14.go:185", after := #[{ on := 0, ground := Go.Ground.data }], guard := none }) rfl (fun K hK => ?_) (AllReadyH.cons (o := { dst := some 122, op := Go.Op.buildSlice 59 1 #[(0, Go.Operand.tmp 121)], type := 59, pos := "screeref14.go:185", after := #[{ on := 3, ground := Go.Ground.data }], guard := none }) rfl (fun K hK => ?_) AllReadyH.nil))
                · skip
                  go_simp
                  refine hK.out _ _ ?_ (fun hHeld => ?_)
                  · trivial
                  clear hK K
                  try simp only [Act.put, List.setIfInBounds_toArray, List.set_cons_zero, List.set_cons_succ]
                  refine wpAnyH_ready (rs := [4]) (by kernel_rfl) (by simp) ?_
                  refine (AllReadyH.cons (o := { dst := some 122, op := Go.Op.buildSlice 59 1 #[(0, Go.Operand.tmp 121)], type := 59, pos := "screeref14.go:185", after := #[{ on := 3, ground := Go.Ground.data }], guard := none }) rfl (fun K hK => ?_) AllReadyH.nil)
                  go_simp
                  refine hK.out _ _ ?_ (fun hHeld => ?_)
                  · trivial
                  clear hK K
                  try simp only [Act.put, List.setIfInBounds_toArray, List.set_cons_zero, List.set_cons_succ]
                  refine wpAnyH_ready (rs := [5]) (by kernel_rfl) (by simp) ?_
                  refine (AllReadyH.cons (o := { dst := some 123, op := Go.Op.call { callee := Go.Callee.builtin Go.Builtin.append, args := #[Go.Operand.tmp 119, Go.Operand.tmp 122], argTypes := #[59, 59] }, type := 59, pos := "screeref14.go:185", after := #[{ on := 1, ground := Go.Ground.data }, { on := 4, ground := Go.Ground.data }, { on := 3, ground := Go.Ground.chain }], guard := none }) rfl (fun K hK => ?_) AllReadyH.nil)
                  (refine step_appK kT _ (by rfl) (.tmp 119) (.tmp 122) 59 (by rfl) tz Try.underlying59 htz tz0 tz1 tz2 6 T (.slice oa k oc) xp (by simp [Act.eval, Act.put]) HBl.out.ptr (some ⟨wA.heap.size, 0, none⟩) 1 1 [pV rdK ⟨#[]⟩ (some lr)] (by simp [Act.eval, Act.put]) rfl (by simp) (isK_new kT wA (pV rdK ⟨#[]⟩ (some lr)) 9) (by simp [HXL.out]; omega) ?_; intro a' c' T' wC hoC hgC; have HC := hid9 (HBl.out.addP (s := (a', k + 1, c')) hgC (by rw [List.length_singleton, HXL.out] at hoC; exact hoC)); have yC := (hgC.cell HBl.out.box.1 (by rw [HBl.out.tE]; decide)).trans HBl.out.cells.2.2.1; have yf : ∀ j, wC.frozen? ⟨E, j, none⟩ = false := fun j => (World.frozen?_of_block (a := ⟨E, j, none⟩) (hgC.block E HBl.out.box.1 (by rw [HBl.out.tE]; decide))).trans (HBl.out.cells.2.2.2.1 j); clear hoC hgC; rw [List.length_singleton, HXL.out])
                  refine hK.out _ _ ?_ (fun hHeld => ?_)
                  · trivial
                  clear hK K
                  try simp only [Act.put, List.setIfInBounds_toArray, List.set_cons_zero, List.set_cons_succ]
                  refine wpAnyH_take (i := 6) (oi := { dst := some 124, op := Go.Op.fieldAddr 61 (Go.Operand.tmp 6) 5, type := 0, pos := "screeref14.go:185", after := #[{ on := 0, ground := Go.Ground.phase }, { on := 1, ground := Go.Ground.phase }, { on := 2, ground := Go.Ground.phase }, { on := 3, ground := Go.Ground.phase }, { on := 4, ground := Go.Ground.phase }, { on := 5, ground := Go.Ground.phase }], guard := none }) (v := ?_) rfl (by kernel_rfl) (by kernel_rfl) (by kernel_rfl) (fun _ _ _ h => h) (Or.inl ⟨by rfl, ?_⟩) hHeld ?_
                  rotate_left
                  · (intro wq hSw; (try dsimp only at hSw); go_simp; try (with_reducible rfl))
                  try simp only [Act.put, List.setIfInBounds_toArray, List.set_cons_zero, List.set_cons_succ]
                  refine wpAnyH_ready (rs := [7]) (by kernel_rfl) (by simp) ?_
                  refine (AllReadyH.cons (o := { dst := none, op := Go.Op.store 59 (Go.Operand.tmp 124) (Go.Operand.tmp 123), type := 0, pos := "screeref14.go:185", after := #[{ on := 6, ground := Go.Ground.data }, { on := 5, ground := Go.Ground.data }, { on := 5, ground := Go.Ground.chain }, { on := 0, ground := Go.Ground.phase }, { on := 1, ground := Go.Ground.phase }, { on := 2, ground := Go.Ground.phase }, { on := 3, ground := Go.Ground.phase }, { on := 4, ground := Go.Ground.phase }, { on := 5, ground := Go.Ground.phase }], guard := none }) rfl (fun K hK => ?_) AllReadyH.nil)
                  go_simp
                  refine hK.out _ _ ?_ (fun hHeld => ?_)
                  · trivial
                  clear hK K
                  try simp only [Act.put, List.setIfInBounds_toArray, List.set_cons_zero, List.set_cons_succ]
                  refine wpAnyH_done (by kernel_rfl) ?_ _
                  go_wp2
                  go_roundw
                  case rel => exact ⟨k + 1, T', (a', k + 1, c'), xp ++ [pV rdK ⟨#[]⟩ (some lr)], _, by omega, by go_num, by simp [HXL.out], HC.out, k_step HK.out.2 hlt⟩
                  case measure => simp [intOf]; omega
                · skip
                  go_simp
                  refine hK.out _ _ ?_ (fun hHeld => ?_)
                  · trivial
                  clear hK K
                  try simp only [Act.put, List.setIfInBounds_toArray, List.set_cons_zero, List.set_cons_succ]
                  refine wpAnyH_ready (rs := [1]) (by kernel_rfl) (by simp) ?_
                  refine (AllReadyH.cons (o := { dst := some 119, op := Go.Op.load 59 (Go.Operand.tmp 118), type := 59, pos := "screeref14.go:185", after := #[{ on := 0, ground := Go.Ground.data }], guard := none }) rfl (fun K hK => ?_) AllReadyH.nil)
                  go_simp
                  refine hK.out _ _ ?_ (fun hHeld => ?_)
                  · trivial
                  clear hK K
                  try simp only [Act.put, List.setIfInBounds_toArray, List.set_cons_zero, List.set_cons_succ]
                  refine wpAnyH_ready (rs := [5]) (by kernel_rfl) (by simp) ?_
                  refine (AllReadyH.cons (o := { dst := some 123, op := Go.Op.call { callee := Go.Callee.builtin Go.Builtin.append, args := #[Go.Operand.tmp 119, Go.Operand.tmp 122], argTypes := #[59, 59] }, type := 59, pos := "screeref14.go:185", after := #[{ on := 1, ground := Go.Ground.data }, { on := 4, ground := Go.Ground.data }, { on := 3, ground := Go.Ground.chain }], guard := none }) rfl (fun K hK => ?_) AllReadyH.nil)
                  (refine step_appK kT _ (by rfl) (.tmp 119) (.tmp 122) 59 (by rfl) tz Try.underlying59 htz tz0 tz1 tz2 6 T (.slice oa k oc) xp (by simp [Act.eval, Act.put]) HBl.out.ptr (some ⟨wA.heap.size, 0, none⟩) 1 1 [pV rdK ⟨#[]⟩ (some lr)] (by simp [Act.eval, Act.put]) rfl (by simp) (isK_new kT wA (pV rdK ⟨#[]⟩ (some lr)) 9) (by simp [HXL.out]; omega) ?_; intro a' c' T' wC hoC hgC; have HC := hid9 (HBl.out.addP (s := (a', k + 1, c')) hgC (by rw [List.length_singleton, HXL.out] at hoC; exact hoC)); have yC := (hgC.cell HBl.out.box.1 (by rw [HBl.out.tE]; decide)).trans HBl.out.cells.2.2.1; have yf : ∀ j, wC.frozen? ⟨E, j, none⟩ = false := fun j => (World.frozen?_of_block (a := ⟨E, j, none⟩) (hgC.block E HBl.out.box.1 (by rw [HBl.out.tE]; decide))).trans (HBl.out.cells.2.2.2.1 j); clear hoC hgC; rw [List.length_singleton, HXL.out])
                  refine hK.out _ _ ?_ (fun hHeld => ?_)
                  · trivial
                  clear hK K
                  try simp only [Act.put, List.setIfInBounds_toArray, List.set_cons_zero, List.set_cons_succ]
                  refine wpAnyH_take (i := 6) (oi := { dst := some 124, op := Go.Op.fieldAddr 61 (Go.Operand.tmp 6) 5, type := 0, pos := "screeref14.go:185", after := #[{ on := 0, ground := Go.Ground.phase }, { on := 1, ground := Go.Ground.phase }, { on := 2, ground := Go.Ground.phase }, { on := 3, ground := Go.Ground.phase }, { on := 4, ground := Go.Ground.phase }, { on := 5, ground := Go.Ground.phase }], guard := none }) (v := ?_) rfl (by kernel_rfl) (by kernel_rfl) (by kernel_rfl) (fun _ _ _ h => h) (Or.inl ⟨by rfl, ?_⟩) hHeld ?_
                  rotate_left
                  · (intro wq hSw; (try dsimp only at hSw); go_simp; try (with_reducible rfl))
                  try simp only [Act.put, List.setIfInBounds_toArray, List.set_cons_zero, List.set_cons_succ]
                  refine wpAnyH_ready (rs := [7]) (by kernel_rfl) (by simp) ?_
                  refine (AllReadyH.cons (o := { dst := none, op := Go.Op.store 59 (Go.Operand.tmp 124) (Go.Operand.tmp 123), type := 0, pos := "screeref14.go:185", after := #[{ on := 6, ground := Go.Ground.data }, { on := 5, ground := Go.Ground.data }, { on := 5, ground := Go.Ground.chain }, { on := 0, ground := Go.Ground.phase }, { on := 1, ground := Go.Ground.phase }, { on := 2, ground := Go.Ground.phase }, { on := 3, ground := Go.Ground.phase }, { on := 4, ground := Go.Ground.phase }, { on := 5, ground := Go.Ground.phase }], guard := none }) rfl (fun K hK => ?_) AllReadyH.nil)
                  go_simp
                  refine hK.out _ _ ?_ (fun hHeld => ?_)
                  · trivial
                  clear hK K
                  try simp only [Act.put, List.setIfInBounds_toArray, List.set_cons_zero, List.set_cons_succ]
                  refine wpAnyH_done (by kernel_rfl) ?_ _
                  go_wp2
                  go_roundw
                  case rel => exact ⟨k + 1, T', (a', k + 1, c'), xp ++ [pV rdK ⟨#[]⟩ (some lr)], _, by omega, by go_num, by simp [HXL.out], HC.out, k_step HK.out.2 hlt⟩
                  case measure => simp [intOf]; omega
          · have q1 : ¬ (k : Int) < (n3 : Int) := by omega
            go_wp2_with fail
            go_meet
            case rel => exact ⟨T, o, xp, st, by omega, HK.out.1, lp_out HK.out.2 (.inl (by omega))⟩
      case rest =>
        clear HV8 HR8
        obtain ⟨T3, o3, xp, st, hxp, HV9⟩ := hcut
        rename World => w9
        have c1 := HV9.out.1.rd.cell
        have fB := HV9.out.1.res.2.2
        have y0 := HV9.out.1.res.2.1 0 _ rfl
        have y1 := HV9.out.1.res.2.1 1 _ rfl
        have y2 := HV9.out.1.res.2.1 2 _ rfl
        have y3 := HV9.out.1.res.2.1 3 _ rfl
        have y4 := HV9.out.1.res.2.1 4 _ rfl
        have y5 := HV9.out.1.res.2.1 5 _ rfl
        cases st with
        | none =>
          have hno : recR r = none := HV9.out.2
          have HNO := hid9 hno
          clear hno
          simp only [Option.isNone_none] at c1
          have HZ := hid9 (And.intro (HV9.out.1.res.sets (vs := [.int .u64 0, .int .u64 0, .int .u64 0, .slice none 0 0, .slice none 0 0, .slice none 0 0]) (by simp [evC])) (sets_below w.heap.size (Nat.le_refl _) [.int .u64 0, .int .u64 0, .int .u64 0, .slice none 0 0, .slice none 0 0, .slice none 0 0] 0 HV9.out.1.old.below))
          clear HV9
          rw [sets6] at HZ
          go_wp2_with fail
          refine bodyPost_ret (res_3 rfl _ _ w.heap.size 0 0 0 nS nS nS (by rfl) HZ.out.1) rfl ?_
          exact ⟨HZ.out.2, .inr ⟨by rw [HNO.out]; rfl, rfl⟩⟩
        | some lr =>
          simp only [Option.isNone_some] at c1
          obtain ⟨ra, rc, r0⟩ := HV9.out.1.rd.len
          by_cases hlr : lr = []
          · subst hlr
            rw [List.length_nil] at r0
            have hyes : recR r = some ⟨A0, A1, A2, xo, xi, xp⟩ := HV9.out.2
            have HYE := hid9 hyes
            have HD := hid9 (HV9.out.1.below (Below.refl w9.heap.size w9).drew)
            have c9 : w9.cell? ⟨b, off, none⟩ = some (.int .u8 (x : Int)) := by
              have z := (HI.out.below HV9.out.1.old.below).1 (by simp)
              obtain ⟨b', o', e, hr'⟩ := z
              cases e
              have := hr'.2 0 x rfl
              simpa using this
            have g3 := Goes.sets (t := (· = 3)) (T := T3) (B := w.heap.size) HV9.out.1.tB [.int .u64 (A0 : Int), .int .u64 (A1 : Int), .int .u64 (A2 : Int), .slice o1.1 o1.2.1 o1.2.2, .slice o2.1 o2.2.1 o2.2.2, .slice o3.1 o3.2.1 o3.2.2] w9 0
            have gd : Below (sets w9 w.heap.size 0 [.int .u64 (A0 : Int), .int .u64 (A1 : Int), .int .u64 (A2 : Int), .slice o1.1 o1.2.1 o1.2.2, .slice o2.1 o2.2.1 o2.2.2, .slice o3.1 o3.2.1 o3.2.2]).heap.size (sets w9 w.heap.size 0 [.int .u64 (A0 : Int), .int .u64 (A1 : Int), .int .u64 (A2 : Int), .slice o1.1 o1.2.1 o1.2.2, .slice o2.1 o2.2.1 o2.2.2, .slice o3.1 o3.2.1 o3.2.2]) (sets w9 w.heap.size 0 [.int .u64 (A0 : Int), .int .u64 (A1 : Int), .int .u64 (A2 : Int), .slice o1.1 o1.2.1 o1.2.2, .slice o2.1 o2.2.1 o2.2.2, .slice o3.1 o3.2.1 o3.2.2]).drew := (Below.refl _ _).drew
            have HZ := hid9 (And.intro ((HV9.out.1.res.sets (vs := [.int .u64 (A0 : Int), .int .u64 (A1 : Int), .int .u64 (A2 : Int), .slice o1.1 o1.2.1 o1.2.2, .slice o2.1 o2.2.1 o2.2.2, .slice o3.1 o3.2.1 o3.2.2]) (by simp [evC])).below gd) (And.intro ((HV9.out.1.old.goes g3 (by decide)).goes (Goes.below (t := fun _ => False) gd) id) (And.intro ((HV9.out.1.out.goes g3 (by decide)).below gd) (And.intro ((HV9.out.1.inn.goes g3 (by decide)).below gd) ((HV9.out.1.ptr.goes g3 (by decide)).below gd)))))
            have HE := hid9 ((HV9.out.1.box.goes g3 (by rw [HV9.out.1.tE]; decide)).below gd)
            have c9d : w9.drew.cell? ⟨b, off, none⟩ = some (.int .u8 (x : Int)) := c9
            have HC9 : Hid ((sets w9 w.heap.size 0 [.int .u64 (A0 : Int), .int .u64 (A1 : Int), .int .u64 (A2 : Int), .slice o1.1 o1.2.1 o1.2.2, .slice o2.1 o2.2.1 o2.2.2, .slice o3.1 o3.2.1 o3.2.2]).drew.cell? ⟨b, off, none⟩ = some (.int .u8 (x : Int))) := (drew_cell _ _).trans ((g3.cell (b := b) (j := off) (Nat.lt_of_lt_of_le HBK.out HV9.out.1.old.below.size) (by rw [HV9.out.1.old.zero b (.inl HBK.out)]; decide)).trans c9)
            clear gd
            clear HV9 g3 hyes
            rw [sets6] at HZ HE HC9
            go_wp2_with fail
            refine wp_region_held_drew (S := (fun V => V.cell? ⟨E, 0, none⟩ = some (.int .u64 (A0 : Int)) ∧ V.cell? ⟨E, 1, none⟩ = some (.int .u64 (A1 : Int)) ∧ V.cell? ⟨E, 2, none⟩ = some (.int .u64 (A2 : Int)) ∧ V.cell? ⟨E, 3, none⟩ = some (.slice o1.1 o1.2.1 o1.2.2) ∧ V.cell? ⟨E, 4, none⟩ = some (.slice o2.1 o2.2.1 o2.2.2) ∧ V.cell? ⟨E, 5, none⟩ = some (.slice o3.1 o3.2.1 o3.2.2) ∧ V.cell? ⟨b, off, none⟩ = some (.int .u8 (x : Int)))) (by kernel_rfl) ?_ (fun hHeld => ?_)
            · exact ⟨HD.out.box.2.1 0 _ rfl, HD.out.box.2.1 1 _ rfl, HD.out.box.2.1 2 _ rfl, HD.out.box.2.1 3 _ rfl, HD.out.box.2.1 4 _ rfl, HD.out.box.2.1 5 _ rfl, c9d⟩
            refine wpAnyH_take (i := 0) (oi := { dst := some 138, op := Go.Op.move (Go.Operand.tmp 0), type := 24, pos := "screeref14.go:190", after := #[], guard := none }) (v := ?_) rfl (by kernel_rfl) (by kernel_rfl) (by kernel_rfl) (fun _ _ _ h => h) (Or.inl ⟨by rfl, ?_⟩) hHeld ?_
            rotate_left
            · (intro wq hSw; (try dsimp only at hSw); go_simp; try (with_reducible rfl))
            try simp only [Act.put, List.setIfInBounds_toArray, List.set_cons_zero, List.set_cons_succ]
            refine wpAnyH_take (i := 1) (oi := { dst := some 139, op := Go.Op.indexAddr 24 (Go.Operand.tmp 138) (Go.Operand.const (Go.Value.int Go.IntKind.i64 0)), type := 0, pos := "screeref14.go:190", after := #[{ on := 0, ground := Go.Ground.data }], guard := none }) (v := ?_) rfl (by kernel_rfl) (by kernel_rfl) (by kernel_rfl) (fun _ _ _ h => h) (Or.inl ⟨by rfl, ?_⟩) hHeld ?_
            rotate_left
            · (intro wq hSw; (try dsimp only at hSw); go_simp; try (with_reducible rfl))
            try simp only [Act.put, List.setIfInBounds_toArray, List.set_cons_zero, List.set_cons_succ]
            refine wpAnyH_take (i := 2) (oi := { dst := some 140, op := Go.Op.load 5 (Go.Operand.tmp 139), type := 5, pos := "screeref14.go:190", after := #[{ on := 1, ground := Go.Ground.data }], guard := none }) (v := ?_) rfl (by kernel_rfl) (by kernel_rfl) (by kernel_rfl) (fun _ _ _ h => h) (Or.inl ⟨by rfl, ?_⟩) hHeld ?_
            rotate_left
            · (intro wq hSw; (try dsimp only at hSw); go_simp; try (with_reducible rfl))
            try simp only [Act.put, List.setIfInBounds_toArray, List.set_cons_zero, List.set_cons_succ]
            refine wpAnyH_take (i := 3) (oi := { dst := some 141, op := Go.Op.binOp Go.BinOp.eql 5 (Go.Operand.tmp 140) (Go.Operand.const (Go.Value.int Go.IntKind.u8 1)) 5, type := 4, pos := "screeref14.go:190", after := #[{ on := 2, ground := Go.Ground.data }], guard := none }) (v := ?_) rfl (by kernel_rfl) (by kernel_rfl) (by kernel_rfl) (fun _ _ _ h => h) (Or.inl ⟨by rfl, ?_⟩) hHeld ?_
            rotate_left
            · (intro wq hSw; (try dsimp only at hSw); go_simp; try (with_reducible rfl))
            try simp only [Act.put, List.setIfInBounds_toArray, List.set_cons_zero, List.set_cons_succ]
            refine wpAnyH_take (i := 4) (oi := { dst := some 142, op := Go.Op.load 61 (Go.Operand.tmp 6), type := 61, pos := "screeref14.go:190", after := #[{ on := 5, ground := Go.Ground.gcOnly Go.Departure.lateStores }], guard := none }) (v := ?_) rfl (by kernel_rfl) (by kernel_rfl) (by kernel_rfl) (fun _ _ _ h => h) (Or.inl ⟨by rfl, ?_⟩) hHeld ?_
            rotate_left
            · (intro wq hSw; (try dsimp only at hSw); go_simp; try (with_reducible rfl))
            try simp only [Act.put, List.setIfInBounds_toArray, List.set_cons_zero, List.set_cons_succ]
            refine wpAnyH_take (i := 5) (oi := { dst := some 2, op := Go.Op.assign (Go.Operand.tmp 141), type := 4, pos := "screeref14.go:190", after := #[{ on := 3, ground := Go.Ground.data }, { on := 0, ground := Go.Ground.phase }, { on := 1, ground := Go.Ground.phase }, { on := 2, ground := Go.Ground.phase }, { on := 3, ground := Go.Ground.phase }, { on := 4, ground := Go.Ground.textOnly Go.Departure.lateStores }], guard := none }) (v := ?_) rfl (by kernel_rfl) (by kernel_rfl) (by kernel_rfl) (fun _ _ _ h => h) (Or.inl ⟨by rfl, ?_⟩) hHeld ?_
            rotate_left
            · (intro wq hSw; (try dsimp only at hSw); go_simp; try (with_reducible rfl))
            try simp only [Act.put, List.setIfInBounds_toArray, List.set_cons_zero, List.set_cons_succ]
            refine wpAnyH_ready (rs := [6]) (by kernel_rfl) (by simp) ?_
            refine (AllReadyH.cons (o := { dst := none, op := Go.Op.store 61 (Go.Operand.tmp 3) (Go.Operand.tmp 142), type := 0, pos := "screeref14.go:190", after := #[{ on := 4, ground := Go.Ground.data }, { on := 5, ground := Go.Ground.chain }, { on := 0, ground := Go.Ground.phase }, { on := 1, ground := Go.Ground.phase }, { on := 2, ground := Go.Ground.phase }, { on := 3, ground := Go.Ground.phase }, { on := 4, ground := Go.Ground.phase }, { on := 5, ground := Go.Ground.phase }], guard := none }) rfl (fun K hK => ?_) AllReadyH.nil)
            have fBd := HD.out.res.2.2
            have yy0 := HD.out.res.2.1 0 _ rfl
            have yy1 := HD.out.res.2.1 1 _ rfl
            have yy2 := HD.out.res.2.1 2 _ rfl
            have yy3 := HD.out.res.2.1 3 _ rfl
            have yy4 := HD.out.res.2.1 4 _ rfl
            have yy5 := HD.out.res.2.1 5 _ rfl
            go_simp
            refine hK.out _ _ ?_ (fun hHeld => ?_)
            · exact ⟨HE.out.2.1 0 _ rfl, HE.out.2.1 1 _ rfl, HE.out.2.1 2 _ rfl, HE.out.2.1 3 _ rfl, HE.out.2.1 4 _ rfl, HE.out.2.1 5 _ rfl, HC9.out⟩
            clear hK K
            try simp only [Act.put, List.setIfInBounds_toArray, List.set_cons_zero, List.set_cons_succ]
            refine wpAnyH_take (i := 7) (oi := { dst := some 4, op := Go.Op.assign (Go.Operand.const (Go.Value.bool true)), type := 4, pos := "screeref14.go:190", after := #[{ on := 6, ground := Go.Ground.chain }, { on := 0, ground := Go.Ground.phase }, { on := 1, ground := Go.Ground.phase }, { on := 2, ground := Go.Ground.phase }, { on := 3, ground := Go.Ground.phase }, { on := 4, ground := Go.Ground.phase }, { on := 5, ground := Go.Ground.phase }, { on := 6, ground := Go.Ground.phase }], guard := none }) (v := ?_) rfl (by kernel_rfl) (by kernel_rfl) (by kernel_rfl) (fun _ _ _ h => h) (Or.inl ⟨by rfl, ?_⟩) hHeld ?_
            rotate_left
            · (intro wq hSw; (try dsimp only at hSw); go_simp; try (with_reducible rfl))
            try simp only [Act.put, List.setIfInBounds_toArray, List.set_cons_zero, List.set_cons_succ]
            refine wpAnyH_done (by kernel_rfl) ?_ _
            go_wp2_with fail
            refine bodyPost_ret (res_3 rfl _ _ w.heap.size A0 A1 A2 o1 o2 o3 (by rfl) HZ.out.1) rfl ?_
            refine ⟨HZ.out.2.1.below, .inl ⟨decide (x = 1), ⟨A0, A1, A2, xo, xi, xp⟩, o1, o2, o3, by rw [HYE.out]; rfl, ?_, Nl.of HZ.out.2.2.1 HZ.out.2.1 (by decide), Nl.of HZ.out.2.2.2.1 HZ.out.2.1 (by decide), Nl.of HZ.out.2.2.2.2 HZ.out.2.1 (by decide)⟩⟩
            have hxe : ((x : Int) == 1) = decide (x = 1) := by have := HXO.out; rcases (show x = 0 ∨ x = 1 by omega) with rfl | rfl <;> rfl
            rw [← hxe]
            rfl
          · have hno : recR r = none := by
              rw [HV9.out.2]
              exact if_neg hlr
            have HNO := hid9 hno
            have hl0 : 0 < lr.length := List.length_pos_iff.2 hlr
            have hl1 : ¬ (lr.length : Int) = 0 := by omega
            clear hno hlr
            generalize lr.length = LN at *
            have HZ := hid9 (And.intro (HV9.out.1.res.sets (vs := [.int .u64 0, .int .u64 0, .int .u64 0, .slice none 0 0, .slice none 0 0, .slice none 0 0]) (by simp [evC])) (sets_below w.heap.size (Nat.le_refl _) [.int .u64 0, .int .u64 0, .int .u64 0, .slice none 0 0, .slice none 0 0, .slice none 0 0] 0 HV9.out.1.old.below))
            clear HV9
            rw [sets6] at HZ
            go_wp2_with fail
            refine bodyPost_ret (res_3 rfl _ _ w.heap.size 0 0 0 nS nS nS (by rfl) HZ.out.1) rfl ?_
            exact ⟨HZ.out.2, .inr ⟨by rw [HNO.out]; rfl, rfl⟩⟩
end Mnf
end Go.Proofs.Ytanpbknjnpmmnaa
