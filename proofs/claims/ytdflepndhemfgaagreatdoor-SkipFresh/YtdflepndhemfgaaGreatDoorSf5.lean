import Derived.Test.YtdflepndhemfgaaGreatDoorSf4
namespace Go.Proofs.YtdflepndhemfgaaGreatDoor
namespace SkipFresh
open Go.RowKit Laws Irw Erw KMath Skm Byt Sk Sf
set_option linter.unusedVariables false
set_option maxRecDepth 100000
set_option linter.unusedSimpArgs false
theorem run_store_func' (P : Program) (w : World) (a : Addr) (m : Mode) (f : Fn) (x y : Array Value) : (store a (.func f x y) m).run P w = stored P w a (.func f x y) m := run_store P w a _ m rfl
attribute [local go_sem] run_store_func'
theorem hid {p : Prop} (h : p) : Hid p := h
theorem isI_of_owns {w : World} {base : Nat} {a : Option Addr} {n c : Nat} {l : List Int} (h : w.ownsRow base 3 1 (.slice a n c) n (cellsI l)) (hn : n = l.length) : IsI w a l := by
  subst hn
  have h1 : OwnL 0 (fun _ => 0) w (.slice a l.length c) l := ⟨⟨h.1, by
    rcases h.2 with h2 | ⟨g, cap, cur, hv, _, hr⟩
    · exact .inl h2
    · exact .inr ⟨g, cap, cur, hv, Nat.zero_le _, hr⟩⟩, fun _ _ => rfl⟩
  obtain ⟨a', c', e, hi, _⟩ := h1.form
  simp only [Value.slice.injEq] at e
  obtain ⟨rfl, _, _⟩ := e
  exact hi
theorem isE_take {w : World} {a : Option Addr} {l : List En} (h : IsE w a l) (k : Nat) : IsE w a (l.take k) := fun hne => by
  obtain ⟨b, off, e, hr⟩ := h (by rintro rfl; simp at hne)
  exact ⟨b, off, e, hr.1, fun i x hx => hr.2 i x (by rw [List.getElem?_take] at hx; split at hx; exact hx; cases hx)⟩
theorem infoI : (Tryz.prog.info? 3).map (fun i => (i.zero, i.size, i.bytes)) = some (some (.int .i64 0), 1, 8) := by kernel_rfl
theorem below_dN {w w' : World} (h : ∃ n, w' = w.drewN n) : Below w.heap.size w w' := by
  obtain ⟨n, rfl⟩ := h
  exact below_drewN (Below.refl _ _) _
/-- The book, with the two lists that it is to keep. -/
theorem first {w2 w3 w4 w5 : World} {gx gy n : Nat} {aw : Option Addr} {hs : List Int} (h23 : w2.heap.size ≤ gx) (hx3 : gx < w3.heap.size) (h34 : w3.heap.size ≤ gy) (hy4 : gy < w4.heap.size) (b23 : Below w2.heap.size w2 w3) (b34 : Below w3.heap.size w3 w4) (b45 : Below w4.heap.size w4 w5)
    (ox : w4.ownsRow w2.heap.size 3 1 (.slice (some ⟨gx, 0, none⟩) n n) n (cellsI hs)) (oy : w4.ownsRow w3.heap.size 3 1 (.slice (some ⟨gy, 0, none⟩) n n) n (cellsI hs)) (hn : n = hs.length) (iw : IsI w5 aw hs) (fw : ∀ ad, aw = some ad → w4.heap.size ≤ ad.block ∧ ad.block < w5.heap.size) :
    ∃ T, SS w2 w5.heap.size 0 aw hs T (w5.alloc (.cells BookI.bookZ 51)) ∧ BookI.Live 1 T (w5.alloc (.cells BookI.bookZ 51)) (some ⟨gx, 0, none⟩) n hs ∧ BookI.Live 2 T (w5.alloc (.cells BookI.bookZ 51)) (some ⟨gy, 0, none⟩) n hs := by
  have hb6 : Below w5.heap.size w5 (w5.alloc (.cells BookI.bookZ 51)) := (Below.refl _ _).alloc (Nat.le_refl _) _
  have hs6 : (w5.alloc (.cells BookI.bookZ 51)).heap.size = w5.heap.size + 1 := by simp
  have hk := BookI.Kept.first w5
  generalize (w5.alloc (.cells BookI.bookZ 51)) = W6 at *
  have z2 := b23.size
  have z3 := b34.size
  have z4 := b45.size
  have tx : BookI.upd (fun _ => 0) w5.heap.size 1 gx = 0 := BookI.upd_other _ _ (by omega)
  have k1 := hk.tag gx 1 tx (by omega)
  have ty : BookI.upd (BookI.upd (fun _ => 0) w5.heap.size 1) gx (9000000 + 1) gy = 0 := (BookI.upd_other _ _ (by omega)).trans (BookI.upd_other _ _ (by omega))
  have k2 := k1.tag gy 2 ty (by omega)
  have hT : ∀ b, b ≠ w5.heap.size → b ≠ gx → b ≠ gy → BookI.upd (BookI.upd (BookI.upd (fun _ => 0) w5.heap.size 1) gx (9000000 + 1)) gy (9000000 + 2) b = 0 := fun b h1 h2 h3 => (BookI.upd_other _ _ h3).trans ((BookI.upd_other _ _ h2).trans (BookI.upd_other _ _ h1))
  have b46 : Below w4.heap.size w4 W6 := b45.trans (hb6.mono b45.size)
  have b26 : Below w2.heap.size w2 W6 := b23.trans ((b34.trans (b46.mono b34.size)).mono b23.size)
  subst hn
  have ox6 : BookI.OwnI W6 (gx, hs.length, hs) := BookI.OwnI.of (BookI.own_base (own_keep ox (b46.block gx (by omega))) (fun _ _ => Nat.zero_le _))
  have oy6 : BookI.OwnI W6 (gy, hs.length, hs) := BookI.OwnI.of (BookI.own_base (own_keep oy (b46.block gy (by omega))) (fun _ _ => Nat.zero_le _))
  refine ⟨_, ⟨k2, b26, fun b hb => hT b (by omega) (by omega) (by omega), iw.below hb6, fun ad e => ⟨by have := (fw ad e).2; omega, hT _ (by have := (fw ad e).2; omega) (by have := (fw ad e).1; omega) (by have := (fw ad e).1; omega)⟩⟩, ⟨⟨gx, rfl, ox6, ?_⟩, Nat.le_refl _, BookI.own_cap ox⟩, ⟨⟨gy, rfl, oy6, BookI.upd_same _ _ _⟩, Nat.le_refl _, BookI.own_cap oy⟩⟩
  exact (BookI.upd_other _ _ (by omega)).trans (BookI.upd_same _ _ _)
set_option maxHeartbeats 4000000 in
theorem walk (w : World) (ad : Option Addr) (cd D : Nat) (ds : List Nat) (hD : ds.length = D) (hd : IsB w ad ds) (hdn : ad = none → cd = 0) (hd47 : ds.length ≤ 140737488355328)
    (a : Option Addr) (c N : Nat) (l : List En) (hN : l.length = N) (hl : IsE w a l) (hmx : (N : Int) ≤ 9223372036854775807) (hcap : N ≤ c) (hm : ∀ e ∈ l, e.2.1 ≤ 18446744073709551615) :
    Calls Tryz.prog 3 #[.slice ad D cd, .slice a N c] w fun e w' => e = .returned (.bool true) ∧ Below w.heap.size w w' := by
  have HD : Hid (IsB w ad ds ∧ (ad = none → cd = 0) ∧ ds.length ≤ 140737488355328 ∧ ds.length = D) := ⟨hd, hdn, hd47, hD⟩
  have HL : Hid (IsE w a l ∧ l.length = N ∧ ∀ e ∈ l, e.2.1 ≤ 18446744073709551615) := ⟨hl, hN, hm⟩
  obtain ⟨i0, hi0, hz0, hz1, hz2⟩ := info_parts infoI
  obtain ⟨M, hM⟩ : ∃ M, M = min N 60 := ⟨_, rfl⟩
  have HM : Hid (M = min N 60) := hM
  have s1 : min (N : Int) 60 = (M : Int) := by omega
  have s2 : (M : Int) ≤ (c : Int) := by omega
  have s3 : (0 : Int) ≤ (M : Int) := by omega
  have s4 : (M : Int) ≤ 60 := by omega
  clear hd hdn hd47 hD hl hN hm hM hcap
  go_enter Tryz.func3, Tryz.ntmps3
  go_wp2_with (go_at_call 4; fail)
  refine (known_any w).mono ?_
  rintro e w1 ⟨rfl, hb1⟩
  have HMD : Hid (Calls Tryz.prog 5 #[.slice ad D cd, .slice a M c] w1 fun e w' => ∃ L v, e = .returned (.tuple #[.pointer (some ⟨L, 0, none⟩), v]) ∧ MadeAns w1 ds (l.take 60) L v w') := by
    have h := made_any w1 ad cd ds (HD.out.1.below hb1) HD.out.2.1 HD.out.2.2.1 a c (l.take 60) (isE_take (HL.out.1.below hb1) 60) (by simp; omega)
    rw [HD.out.2.2.2, List.length_take, HL.out.2.1, Nat.min_comm, ← HM.out] at h
    exact h
  have HB1 : Hid (Below w.heap.size w w1) := hb1
  clear hb1
  dsimp only
  go_wp2_with (go_at_call 5; fail)
  refine HMD.out.mono ?_
  rintro e w2 ⟨L, v, rfl, T2, ns, ins, hmk, hmi⟩
  obtain ⟨va, vc, hv, _⟩ := hmk.own.form
  have hlen : ins.length = ns.length := by have := hmi.perm.length_eq; rw [List.length_map] at this; exact this.symm
  have hn60 : ns.length ≤ 60 := by have := hmi.len; rw [List.length_take] at this; omega
  have hsq : ∀ nd ∈ ns, nd.e.2.1 ≤ 18446744073709551615 := fun nd hnd => HL.out.2.2 _ (List.mem_of_mem_take (hmi.sub _ (hmi.perm.mem_iff.1 (List.mem_map.2 ⟨nd, hnd, rfl⟩))))
  rw [hlen] at hv
  obtain ⟨n, hn⟩ : ∃ n, n = ns.length := ⟨_, rfl⟩
  rw [← hn] at hv hn60
  subst hv
  have HSL : Hid (Sl 1 T2 w2 L ds ns) := hmk.sl
  have HB2 : Hid (Below w.heap.size w w2) := HB1.out.trans (hmk.old.below.mono HB1.out.size)
  have HN : Hid (n = ns.length ∧ n ≤ 60 ∧ ∀ nd ∈ ns, nd.e.2.1 ≤ 18446744073709551615) := ⟨hn, hn60, hsq⟩
  obtain ⟨hs, hhs⟩ : ∃ hs, hs = ns.map fun n => (n.h : Int) := ⟨_, rfl⟩
  have HHS : Hid (hs = (ns.map fun n => (n.h : Int)) ∧ n = hs.length) := ⟨hhs, by rw [hhs, List.length_map]; exact hn⟩
  have hn61 : (n : Int) ≤ 60 := by omega
  clear hmk hmi hlen hn60 hsq hn hhs HMD HB1
  have HTW : Hid (∀ W, Below w2.heap.size w2 W → Calls Tryz.prog 6 #[.pointer (some ⟨L, 0, none⟩)] W fun e w' => ∃ g, e = .returned (.slice (some ⟨g, 0, none⟩) n n) ∧ W.heap.size ≤ g ∧ Below W.heap.size W w' ∧ w'.ownsRow W.heap.size 3 1 (.slice (some ⟨g, 0, none⟩) n n) n (cellsI hs)) := fun W hb => by
    have h := towersO (HSL.out.below hb) (n := n) HN.out.1.symm (by have := HN.out.2.1; omega)
    rw [← HHS.out.1] at h
    exact h
  dsimp only
  go_wp2_with (go_at_call 6; fail)
  refine (HTW.out w2 (Below.refl _ _)).mono ?_
  rintro e w3 ⟨gx, rfl, hgx, hb3, hox⟩
  have H3 : Hid (w2.heap.size ≤ gx ∧ Below w2.heap.size w2 w3 ∧ w3.ownsRow w2.heap.size 3 1 (.slice (some ⟨gx, 0, none⟩) n n) n (cellsI hs)) := ⟨hgx, hb3, hox⟩
  clear hgx hb3 hox
  dsimp only
  go_wp2_with (go_at_call 6; fail)
  refine (HTW.out w3 H3.out.2.1).mono ?_
  rintro e w4 ⟨gy, rfl, hgy, hb4, hoy⟩
  have H4 : Hid (w3.heap.size ≤ gy ∧ Below w3.heap.size w3 w4 ∧ w4.ownsRow w3.heap.size 3 1 (.slice (some ⟨gy, 0, none⟩) n n) n (cellsI hs)) := ⟨hgy, hb4, hoy⟩
  clear hgy hb4 hoy
  dsimp only
  go_wp2_with (first
    | (refine BookI.wpList_book (by rfl) (by rfl) ?_)
    | (at_builtin; go_loud (refine wpList_appL _ (by rfl) (.const (.slice none 0 0)) (.tmp 35) 28 (by rfl) i0 Tryz.underlying28 hi0 hz0 hz1 hz2 1 (fun _ => 0) (.slice none 0 0) [] (by rfl) (OwnL.nil _ _ _) (some ⟨gy, 0, none⟩) n n hs (by rfl) HHS.out.2 (by simp) (isI_of_owns H4.out.2.2 HHS.out.2) (by have := HHS.out.2; simp; omega) ?_; intro aw cw T5 w5 hown5 hgo5 _; have H5 := hid (copy_i hown5 hgo5); clear hown5 hgo5))
    | (go_at_call 7; fail))
  have H6 : Hid (∃ T, SS w2 w5.heap.size 0 aw hs T (w5.alloc (.cells BookI.bookZ 51)) ∧ BookI.Live 1 T (w5.alloc (.cells BookI.bookZ 51)) (some ⟨gx, 0, none⟩) n hs ∧ BookI.Live 2 T (w5.alloc (.cells BookI.bookZ 51)) (some ⟨gy, 0, none⟩) n hs) := by
    have h5 := H5.out
    rw [List.nil_append] at h5
    exact first H3.out.1 (H3.out.2.2.lt gx rfl).2 H4.out.1 (H4.out.2.2.lt gy rfl).2 H3.out.2.1 H4.out.2.1 h5.2.2.2 (own_keep H3.out.2.2 (H4.out.2.1.block gx (H3.out.2.2.lt gx rfl).2)) H4.out.2.2 HHS.out.2 h5.1 h5.2.2.1
  obtain ⟨K, hK⟩ : ∃ K, K = w5.heap.size := ⟨_, rfl⟩
  rw [← hK] at H6
  rw [← hK]
  generalize (w5.alloc (.cells BookI.bookZ 51)) = W6 at H6 ⊢
  try simp only [List.length_nil, Nat.zero_add]
  rw [← HHS.out.2]
  clear hK H3 H4 H5
  obtain ⟨T6, hss6, hx6, hy6⟩ := H6.out
  have HS6 := hid (And.intro hss6 (And.intro hx6 hy6))
  clear hss6 hx6 hy6 H6
  have hl12 : Hid (hs.length ≤ 1000000000000) := by have := HHS.out.2; show hs.length ≤ _; omega
  refine (HS6.out.1.ints (by omega) _ HS6.out.2.1 hl12.out HHS.out.2).mono ?_
  rintro e w7 ⟨rfl, T7, hss7, hgo7⟩
  have HS7 : Hid (SS w2 K 1 aw hs T7 w7 ∧ BookI.Live 2 T7 w7 (some ⟨gy, 0, none⟩) n hs) := ⟨hss7, HS6.out.2.2.go hgo7 (by omega)⟩
  clear hss7 hgo7 HS6
  dsimp only
  go_wp2_with (go_at_call 8; fail)
  refine (sameInts_true (some ⟨gy, 0, none⟩) aw n cw n hs w7 HS7.out.2.isI HS7.out.1.row.1 HHS.out.2.symm (by omega)).mono ?_
  rintro e w8 ⟨rfl, hw8⟩
  have HS8 : Hid (SS w2 K 1 aw hs T7 w8 ∧ BookI.Live 2 T7 w8 (some ⟨gy, 0, none⟩) n hs) := ⟨HS7.out.1.below (below_dN hw8), HS7.out.2.below (below_dN hw8)⟩
  clear hw8 HS7
  dsimp only
  go_wp2_with (go_at_call 6; fail)
  refine (HTW.out w8 HS8.out.1.bl).mono ?_
  rintro e w9 ⟨gz, rfl, _, hb9, hoz⟩
  have HS9 : Hid (SS w2 K 1 aw hs T7 w9 ∧ BookI.Live 2 T7 w9 (some ⟨gy, 0, none⟩) n hs ∧ IsI w9 (some ⟨gz, 0, none⟩) hs) := ⟨HS8.out.1.below hb9, HS8.out.2.below hb9, isI_of_owns hoz HHS.out.2⟩
  clear hb9 hoz HS8
  dsimp only
  go_wp2_with (go_at_call 8; fail)
  refine (sameInts_true (some ⟨gz, 0, none⟩) aw n cw n hs w9 HS9.out.2.2 HS9.out.1.row.1 HHS.out.2.symm (by omega)).mono ?_
  rintro e w10 ⟨rfl, hw10⟩
  have HS10 : Hid (SS w2 K 1 aw hs T7 w10 ∧ BookI.Live 2 T7 w10 (some ⟨gy, 0, none⟩) n hs) := ⟨HS9.out.1.below (below_dN hw10), HS9.out.2.1.below (below_dN hw10)⟩
  clear hw10 HS9
  dsimp only
  go_wp2_with (go_at_call 9; fail)
  refine HS10.out.1.kept.hold.mono ?_
  rintro e w11 ⟨rfl, hb11⟩
  have HS11 : Hid (SS w2 K 1 aw hs T7 w11 ∧ BookI.Live 2 T7 w11 (some ⟨gy, 0, none⟩) n hs) := ⟨HS10.out.1.below hb11, HS10.out.2.below hb11⟩
  clear hb11 HS10
  dsimp only
  go_wp2_with (go_at_call 7; fail)
  refine (HS11.out.1.ints (by omega) _ HS11.out.2 hl12.out HHS.out.2).mono ?_
  rintro e w12 ⟨rfl, T12, hss12, _⟩
  have HS12 := hid hss12
  clear hss12 HS11
  dsimp only
  go_wp2_with (go_at_call 10; fail)
  refine (from_any L _ _ w12).mono ?_
  rintro e wA ⟨rfl, hwA⟩
  obtain ⟨B, hB⟩ : ∃ B, B = w12.heap.size := ⟨_, rfl⟩
  obtain ⟨pre, HWK⟩ : ∃ pre, Hid (Wk w2 L ⟨#[]⟩ 18446744073709551615 ns pre ns) := by
    obtain ⟨pre, post, hwk⟩ := Wk.of HSL.out ⟨#[]⟩ 18446744073709551615
    have hp := post_all hwk HN.out.2.2
    subst hp
    exact ⟨pre, hwk⟩
  have HA : Hid (Below w12.heap.size w12 wA ∧ wA.heap.size = B + 3 ∧ wA.cell? ⟨B, 0, none⟩ = some (.pointer (some ⟨L, 0, none⟩)) ∧ wA.cell? ⟨B + 1, 0, none⟩ = some (.string ⟨#[]⟩) ∧ wA.cell? ⟨B + 2, 0, none⟩ = some (.int .u64 18446744073709551615)) := by
    rw [hB, hwA]
    refine ⟨(((Below.refl _ _).alloc (Nat.le_refl _) _).alloc (by simp) _).alloc (by simp; omega) _, by simp, ?_, ?_, ?_⟩
    · rw [World.cell?_alloc_lt _ _ _ (by simp; omega), World.cell?_alloc_lt _ _ _ (by simp), World.cell?_alloc_at _ _ _ _ rfl]; rfl
    · rw [World.cell?_alloc_lt _ _ _ (by simp), World.cell?_alloc_at _ _ _ _ (by simp)]; rfl
    · rw [World.cell?_alloc_at _ _ _ _ (by simp)]; rfl
  rw [← hB]
  have HBK : Hid (B = w12.heap.size) := hB
  clear hwA hB
  dsimp only
  obtain ⟨WB, hWB⟩ : ∃ WB, WB = wA.alloc (.cells #[clA B] 55) := ⟨_, rfl⟩
  have hcB : WB.cell? ⟨B + 3, 0, none⟩ = some (clA B) := by rw [hWB, World.cell?_alloc_at _ _ _ _ HA.out.2.1.symm]; rfl
  have HBB : Hid (Below wA.heap.size wA WB ∧ WB.heap.size = B + 4 ∧ WB.cell? ⟨B + 3, 0, none⟩ = some (clA B)) := ⟨by rw [hWB]; exact (Below.refl _ _).alloc (Nat.le_refl _) _, by rw [hWB]; simp [HA.out.2.1], hcB⟩
  clear hcB
  go_upto_region 15 with (fail)
  rw [HA.out.2.1, ← hWB]
  clear hWB
  have hcf := HBB.out.2.2
  go_wp2_with (go_at_call 11; fail)
  have HSB : Hid (SS w2 K 2 aw hs T12 WB) := (HS12.out.below HA.out.1).below HBB.out.1
  have HKB : Hid (WB.cell? ⟨B, 0, none⟩ = some (.pointer (some ⟨L, 0, none⟩)) ∧ WB.cell? ⟨B + 1, 0, none⟩ = some (.string ⟨#[]⟩) ∧ WB.cell? ⟨B + 2, 0, none⟩ = some (.int .u64 18446744073709551615)) := ⟨(HBB.out.1.cell (p := ⟨B, 0, none⟩) (World.block_lt_of_cell? _ _ HA.out.2.2.1)).trans HA.out.2.2.1, (HBB.out.1.cell (p := ⟨B + 1, 0, none⟩) (World.block_lt_of_cell? _ _ HA.out.2.2.2.1)).trans HA.out.2.2.2.1, (HBB.out.1.cell (p := ⟨B + 2, 0, none⟩) (World.block_lt_of_cell? _ _ HA.out.2.2.2.2)).trans HA.out.2.2.2.2⟩
  have HTK : Hid (Calls Tryz.prog 11 #[clA B, .int .i64 (-1)] WB fun e w' => ∃ a c, e = .returned (.tuple #[.slice a n c, .bool true]) ∧ IsE w' a (ns.map Nd.e) ∧ (∀ b off, a = some ⟨b, off, none⟩ → WB.heap.size ≤ b) ∧ Below WB.heap.size WB w') := by
    have h := taken_fr B (B + 1) (B + 2) L ⟨#[]⟩ 18446744073709551615 ns pre ns WB (HWK.out.under HSB.out.bl) HKB.out.1 HKB.out.2.1 HKB.out.2.2 (by have := HN.out; omega)
    rw [← HN.out.1] at h
    exact h
  refine HTK.out.mono ?_
  rintro e wC ⟨aA, cA, rfl, iA, fA, hbC⟩
  obtain ⟨WD, hWD⟩ : ∃ WD, WD = wC.alloc (.cells #[.slice aA n cA] 23) := ⟨_, rfl⟩
  obtain ⟨Ba, hBa⟩ : ∃ Ba, Ba = wC.heap.size := ⟨_, rfl⟩
  have hbD : Below wC.heap.size wC WD := by rw [hWD]; exact (Below.refl _ _).alloc (Nat.le_refl _) _
  have HSD : Hid (SS w2 K 2 aw hs T12 WD) := (HSB.out.below hbC).below hbD
  have HFX : Hid (Fx T12 WD L ns pre B (B + 3) Ba aA cA n) := by
    have hz : ∀ b, w12.heap.size ≤ b → T12 b = 0 := HS12.out.kept.2
    have hbB : Below WB.heap.size WB WD := hbC.trans (hbD.mono hbC.size)
    have hbk := HBK.out
    have sB := HBB.out.2.1
    have nl : ∀ nd ∈ ns, nd.b < w2.heap.size := fun nd hnd => HWK.out.chain.lt hnd
    refine ⟨HWK.out.under HSD.out.bl, ⟨fun nd hnd => HS12.out.fr _ (nl nd hnd), HS12.out.fr _ HWK.out.lt⟩, HSD.out.kept.2, (hbB.cell (p := ⟨B, 0, none⟩) (World.block_lt_of_cell? _ _ HKB.out.1)).trans HKB.out.1, (hbB.cell (p := ⟨B + 1, 0, none⟩) (World.block_lt_of_cell? _ _ HKB.out.2.1)).trans HKB.out.2.1, (hbB.cell (p := ⟨B + 2, 0, none⟩) (World.block_lt_of_cell? _ _ HKB.out.2.2)).trans HKB.out.2.2, (hbB.cell (p := ⟨B + 3, 0, none⟩) (World.block_lt_of_cell? _ _ HBB.out.2.2)).trans HBB.out.2.2, by rw [hWD, hBa, World.cell?_alloc_at _ _ _ _ rfl]; rfl, ⟨hz _ (by omega), hz _ (by omega), hz _ (by omega), hz _ (by omega), hz _ (by have := hbC.size; omega)⟩, (EA.of iA fun b off e => hz b (by have := fA b off e; omega)).below hbD, HN.out.1.symm, by have := HN.out.2.1; omega⟩
  clear iA fA hbC hbD HTK hcf HBB HKB HSB HA HS12
  dsimp only
  go_upto_region 16 with (fail)
  rw [← hBa, ← hWD]
  clear hBa hWD
  have hca := HFX.out.ca
  go_upto_region 18 with (fail)
  clear hca
  go_upto_region 19 with (fail)
  obtain ⟨Bn, hBn⟩ : ∃ Bn, Bn = WD.heap.size := ⟨_, rfl⟩
  obtain ⟨WE, hWE⟩ : ∃ WE, WE = (WD.alloc (.cells #[.int .i64 0] 3)).alloc (.cells #[.bool true] 4) := ⟨_, rfl⟩
  have hsE : WE.heap.size = Bn + 2 := by rw [hWE, hBn]; simp
  have hbE : Below WD.heap.size WD WE := by rw [hWE]; exact ((Below.refl _ _).alloc (Nat.le_refl _) _).alloc (by simp) _
  have g1 : WE.heap[Bn]? = some (.cells #[.int .i64 0] 3) := by
    rw [hWE, Below.heap_alloc _ _ _ (by simp; omega), hBn]
    exact World.alloc_heap_new _ _
  have g2 : WE.heap[Bn + 1]? = some (.cells #[.bool true] 4) := by
    have := World.alloc_heap_new (WD.alloc (.cells #[.int .i64 0] 3)) (.cells #[.bool true] 4)
    rw [World.size_alloc] at this
    rw [hWE, hBn]
    exact this
  obtain ⟨T13, hT13⟩ : ∃ T13, T13 = Irw.upd (Irw.upd T12 Bn 9000008) (Bn + 1) 9000008 := ⟨_, rfl⟩
  have t1 : T13 Bn = 9000008 := by rw [hT13, upd_other _ _ (by omega), upd_same]
  have t2 : T13 (Bn + 1) = 9000008 := by rw [hT13, upd_same]
  have hgE : Goes (fun _ => False) T12 WD T13 WE := by
    refine ⟨hbE.os, hbE.tape, hbE.output, hbE.size, fun b hb _ => hbE.block b hb, fun b hb _ => ?_, fun b hb h0 => ?_⟩
    · rw [hT13, upd_other _ _ (by omega), upd_other _ _ (by omega)]
    · rw [hT13, upd_other _ _ (by omega), upd_other _ _ (by omega)]; exact h0
  have HSE : Hid (SS w2 K 2 aw hs T13 WE) := HSD.out.goes hgE (fun x hx => hx.elim)
  have HFE : Hid (Fx T13 WE L ns pre B (B + 3) Ba aA cA n) := HFX.out.goes hgE (fun z => z) HSE.out.kept.2
  have HG : Hid (WE.heap[Bn]? = some (.cells #[.int .i64 0] 3) ∧ WE.heap[Bn + 1]? = some (.cells #[.bool true] 4) ∧ T13 Bn = 9000008 ∧ T13 (Bn + 1) = 9000008) := ⟨g1, g2, t1, t2⟩
  rw [← hWE, ← hBn]
  clear hBn hWE hsE hbE g1 g2 hT13 t1 t2 hgE HSD HFX
  have hcf := HFE.out.cf
  go_wp2_with fail
  refine (fresh_walk HFE.out (Bn + 1) Bn (by rw [cell_of_obj HG.out.2.1]; rfl) (by rw [cell_of_obj HG.out.1]; rfl) (froz_of_obj HG.out.2.1) (froz_of_obj HG.out.1) HG.out.2.2.2 HG.out.2.2.1 (by omega)).mono ?_
  rintro e wK ⟨⟨vK, rfl⟩, hgK, y1, y2⟩
  have HSK : Hid (SS w2 K 2 aw hs T13 wK) := HSE.out.goes hgK (fun x hx => by omega)
  have y3 := (HFE.out.goes hgK (by omega) HSK.out.kept.2).ca
  clear hgK HSE HFE HG hcf
  dsimp only
  go_wp2_with (go_at_call 6; fail)
  refine (HTW.out wK HSK.out.bl).mono ?_
  rintro e v1 ⟨g9, rfl, _, hb9, ho9⟩
  have HS1 : Hid (SS w2 K 2 aw hs T13 v1 ∧ IsI v1 (some ⟨g9, 0, none⟩) hs) := ⟨HSK.out.below hb9, isI_of_owns ho9 HHS.out.2⟩
  clear hb9 ho9 HSK y1 y2 y3
  dsimp only
  go_wp2_with (go_at_call 8; fail)
  refine (sameInts_true (some ⟨g9, 0, none⟩) aw n cw n hs v1 HS1.out.2 HS1.out.1.row.1 HHS.out.2.symm (by omega)).mono ?_
  rintro e v2 ⟨rfl, hw2⟩
  have HS2 : Hid (SS w2 K 2 aw hs T13 v2) := HS1.out.1.below (below_dN hw2)
  clear hw2 HS1
  dsimp only
  go_wp2_with (go_at_call 9; fail)
  refine HS2.out.kept.hold.mono ?_
  rintro e v3 ⟨rfl, hb3⟩
  have HS3 : Hid (SS w2 K 2 aw hs T13 v3) := HS2.out.below hb3
  clear hb3 HS2
  dsimp only
  go_wp2_with (go_at_call 14; fail)
  refine (many_any v3).mono ?_
  rintro e v4 ⟨rfl, hb4⟩
  have HB4 : Hid (Below w.heap.size w v4) := HB2.out.trans ((HS3.out.bl.trans (hb4.mono HS3.out.bl.size)).mono HB2.out.size)
  clear hb4 HS3
  dsimp only
  go_wp2
  go_ret
  exact ⟨rfl, HB4.out⟩
end SkipFresh
end Go.Proofs.YtdflepndhemfgaaGreatDoor
