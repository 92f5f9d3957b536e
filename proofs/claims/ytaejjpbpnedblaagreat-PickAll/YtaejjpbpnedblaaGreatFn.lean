import Derived.Test.YtaejjpbpnedblaaGreatXn
namespace Go.Proofs.YtaejjpbpnedblaaGreat
namespace Vr
open Go.Shelf Go.RowKit Go.Lib Go.Sort Go.Maps Go.ChangeMaps Go.MapKept Laws Irw Crw
set_option linter.unusedVariables false
set_option linter.unusedSimpArgs false
set_option maxRecDepth 20000
theorem we_nil (n : Nat) : WeV (List.replicate n []) := fun l hl t ht => by
  rw [List.mem_replicate] at hl
  rw [hl.2] at ht
  cases ht
theorem bring_flat : ∀ {V V' : Lv} {l : List Pi}, bring V l = .ok V' → V'.flatten.Perm (V.flatten ++ l.map Pi.t)
  | V, V', [], h => by
    simp [bring] at h
    rw [h]
    simp
  | V, V', p :: r, h => by
    unfold bring at h
    split at h
    · rename_i hlv
      split at h
      · cases h
      · split at h
        · cases h
        · refine (bring_flat h).trans ?_
          have := (flatten_modify V p.lv.toNat p.t (by omega)).append_right (r.map Pi.t)
          refine this.trans ?_
          simp
    · cases h
theorem srt_flat : ∀ L : Lv, (L.map srt).flatten.Perm L.flatten
  | [] => List.Perm.refl _
  | l :: r => by
    show (srt l ++ (r.map srt).flatten).Perm (l ++ r.flatten)
    exact (List.mergeSort_perm l _).append (srt_flat r)
theorem ordered_flat (V : Lv) : (ordered V).flatten.Perm V.flatten := by
  unfold ordered
  rw [List.flatten_append]
  have h1 := (srt_flat (V.drop 1)).append_left (V.take 1).flatten
  refine h1.trans ?_
  rw [← List.flatten_append, List.take_append_drop]
theorem edit_flat {V V' : Lv} {l : List Pi} (h : edit V l = .ok V') : V'.flatten.Perm (V.flatten ++ l.map Pi.t) := by
  unfold edit at h
  cases hb : bring V l with
  | error e => rw [hb] at h; cases h
  | ok V1 =>
    rw [hb] at h
    dsimp only at h
    split at h
    · cases h
    · injection h with h
      rw [← h]
      exact (ordered_flat V1).trans (bring_flat hb)
theorem edit_we {V V' : Lv} {p : Pi} (h : WeV V) (he : edit V [p] = .ok V') (hp : 0 ≤ p.t.we ∧ p.t.we ≤ 2147483648) : WeV V' := fun l hl t ht => by
  have hm : t ∈ V'.flatten := List.mem_flatten.2 ⟨l, hl, ht⟩
  have := (edit_flat he).mem_iff.1 hm
  rcases List.mem_append.1 this with h1 | h1
  · obtain ⟨l', hl', ht'⟩ := List.mem_flatten.1 h1
    exact h l' hl' t ht'
  · simp at h1
    subst h1
    exact hp
/-- what is known of a version that is being built -/
structure Bw (V : Lv) (n k : Nat) : Prop where
  len : V.length = n
  no : NumOk V
  gd : Good V
  nu : (nums V).length ≤ k
  we : WeV V
theorem Bw.first (n : Nat) : Bw (List.replicate n []) n 0 := ⟨by simp, num_nil n, good_nil n, by unfold nums; simp, we_nil n⟩
theorem Bw.mono {V : Lv} {n k m : Nat} (h : Bw V n k) (hm : k ≤ m) : Bw V n m := ⟨h.len, h.no, h.gd, Nat.le_trans h.nu hm, h.we⟩
theorem Bw.edit {V V' : Lv} {n k : Nat} {p : Pi} (h : Bw V n k) (he : edit V [p] = .ok V') (hp : PiOk [p]) (hw : 0 ≤ p.t.we ∧ p.t.we ≤ 2147483648) : Bw V' n (k + 1) :=
  ⟨(edit_len he).trans h.len, (edit_sub he).2 h.no hp, edit_good h.gd.half he, by have := edit_nums he; have := h.nu; simp at *; omega, edit_we h.we he hw⟩
/-- while a version is built: the set, its tags, the configuration, the pointers -/
structure BV (w : World) (c : Cf) (n : Nat) (T : Nat → Nat) (sb mb pb : Nat) (V : Lv) (k : Nat) (W : World) : Prop where
  s : ∃ vb, SAt T W sb vb mb V
  z : ∀ b, W.heap.size ≤ b → T b = 0
  c : Lc W w.heap.size c
  cl : w.heap.size < W.heap.size ∧ T w.heap.size = 0
  p : Isk kT T W (some ⟨pb, 0, none⟩, n, n) (List.replicate n ⟨#[]⟩)
  b : RowKit.Below w.heap.size w W
  l : ∀ b, b < w.heap.size → T b = 0
  v : Bw V n k
theorem BV.below {w W W' : World} {c : Cf} {n : Nat} {T : Nat → Nat} {sb mb pb : Nat} {V : Lv} {k : Nat} (h : BV w c n T sb mb pb V k W) (hb : RowKit.Below W.heap.size W W') : BV w c n T sb mb pb V k W' := by
  obtain ⟨vb, hs⟩ := h.s
  exact ⟨⟨vb, hs.below hb⟩, fun b hb' => h.z b (Nat.le_trans hb.size hb'), h.c.keep h.cl.1 hb, ⟨Nat.lt_of_lt_of_le h.cl.1 hb.size, h.cl.2⟩, h.p.below hb, h.b.trans (hb.mono h.b.size), h.l, h.v⟩
theorem BV.turn {w W W' : World} {c : Cf} {n : Nat} {T : Nat → Nat} {sb mb pb nb : Nat} {V V' : Lv} {k : Nat} (h : BV w c n T sb mb pb V k W) (hs : SAt T W' sb nb mb V') (hg : Goes (fun t => t = 1 ∨ t = 2) T W T W') (hv : Bw V' n (k + 1)) : BV w c n T sb mb pb V' (k + 1) W' :=
  ⟨⟨nb, hs⟩, fun b hb' => h.z b (Nat.le_trans hg.size hb'), h.c.goes h.cl.1 h.cl.2 hg (by decide), ⟨Nat.lt_of_lt_of_le h.cl.1 hg.size, h.cl.2⟩, h.p.goes hg (by decide), below_goes h.b h.l hg (by decide), h.l, hv⟩
theorem apply_bv {w W : World} {c : Cf} {n : Nat} {T : Nat → Nat} {sb mb pb : Nat} {V : Lv} {k : Nat} (h : BV w c n T sb mb pb V k W) (hn : 2 ≤ n) (hk : k ≤ 400) (g : Nat) (p : Pi) (hz : Zb W g (kPi.cells [p])) (hp : p.t.no < U64) (hw : 0 ≤ p.t.we ∧ p.t.we ≤ 2147483648) :
    Calls Tryz.prog 27 #[.pointer (some ⟨sb, 0, none⟩), .agg #[.int .u64 0, .int .u64 0, .int .u64 0, .slice none 0 0, .slice (some ⟨g, 0, none⟩) 1 1, .slice (some ⟨pb, 0, none⟩) n n]] W fun e w' => ∃ (r : Int) (V' : Lv), e = .returned (.tuple #[.slice none 0 0, .int .i64 r]) ∧ BV w c n T sb mb pb V' (k + 1) w' := by
  obtain ⟨vb, hs⟩ := h.s
  have hlen := h.v.len
  have hpp : PiOk [p] := fun q hq => by simp at hq; subst hq; exact hp
  have hpt := h.p
  rw [← hlen] at hpt
  have ha := apply_any 0 0 0 (some ⟨g, 0, none⟩) 1 (some ⟨pb, 0, none⟩) n [p] (List.replicate V.length ⟨#[]⟩) hs h.z h.v.no h.v.gd.half (by omega) (by have := h.v.nu; simp; omega) ⟨isK_zb hz, rfl, by simp, Nat.le_refl _, .inr ⟨_, _, rfl⟩⟩ hpp (by rw [hlen] at hpt ⊢; exact hpt)
  rw [hlen] at ha
  refine ha.mono ?_
  intro e w' hq
  unfold ApIs at hq
  cases he : edit V [p] with
  | error x =>
    rw [he] at hq
    exact ⟨x, V, hq.1, (by
      have hb := h.below hq.2
      exact ⟨hb.s, hb.z, hb.c, hb.cl, hb.p, hb.b, hb.l, hb.v.mono (by omega)⟩)⟩
  | ok V' =>
    rw [he] at hq
    obtain ⟨h1, ⟨nb, h2⟩, h3⟩ := hq
    exact ⟨0, V', h1, h.turn h2 h3 (h.v.edit he hpp hw)⟩
def BvIs (w : World) (n : Nat) (e : Ending) (w' : World) : Prop := ∃ (vb : Nat) (V : Lv) (s : Sv), e = .returned (.tuple #[.pointer (some ⟨vb, 0, none⟩), svV s]) ∧ VAt w' vb V ∧ Bw V n 400 ∧ RowKit.Below w.heap.size w w'
set_option maxHeartbeats 4000000 in
theorem built2_any (c : Cf) (n : Nat) (hc : Cr c n) (la : Option Addr) (ll lc : Nat) (l : List Pi) (w : World) (hl : IsK kPi w la l) (hll : l.length = ll) (hmx : ll ≤ 1000000000000) (hp : PiR l) :
    Calls Tryz.prog 7 #[.agg (cfgA c), .slice la ll lc] w fun e w' => BvIs w n e w' := by
  obtain ⟨iz, hi, hz0, hz1, hz2⟩ := info_parts infoS
  have hn3 := hc.n3
  have hn5 := hc.n5
  have HL := hidV (And.intro hl (And.intro hp hll))
  have HC := hidV hc
  have hl8 : (cfgA c).toList[8]? = some (.int .i64 (n : Int)) := by rw [← hc.lv]; rfl
  have k2 := run_make_row' (P := Tryz.prog) 25 9 (.string ⟨#[]⟩) 16 Tryz.underlying25 infoT rfl .i64 .i64 n (by omega) (by omega)
  have HL8 := hidV hl8
  have hb0 : RowKit.Below w.heap.size w (w.alloc (Obj.cells (cfgA c) 23)) := (Below.refl _ _).alloc (Nat.le_refl _) _
  have hLc := lc_new w c 23
  have c8 := hLc.cell 8 hl8
  obtain ⟨W0, hW0⟩ : ∃ X, w.alloc (Obj.cells (cfgA c) 23) = X := ⟨_, rfl⟩
  have hsz : w.heap.size < W0.heap.size := by rw [← hW0]; simp
  rw [hW0] at hb0 hLc c8
  have H0 := hidV (And.intro hb0 (And.intro hLc hsz))
  have HNW : Hid (Calls Tryz.prog 26 #[.int .i64 (n : Int)] W0 fun e w' => ∃ (sb vb mb : Nat) (T : Nat → Nat), e = .returned (.pointer (some ⟨sb, 0, none⟩)) ∧ SAt T w' sb vb mb (List.replicate n []) ∧ Old W0 T w') := (new_any n W0 (by omega) (by omega)).mono fun e w' ⟨sb, vb, mb, he, hs, ho⟩ => ⟨sb, vb, mb, _, he, hs, ho⟩
  clear hc hl hp hl8 hLc hb0 hsz
  go_enter Tryz.func7, Tryz.ntmps7
  go_upto_region 1 with (fail)
  (try rw [hW0])
  clear hW0
  go_upto_region 4 with (go_at_call 26; go_loud (refine HNW.out.mono ?_; rintro e w2 ⟨sb, vb, mb, T, rfl, hs2, ho2⟩; have H2 := hidV (And.intro hs2 ho2); have d8 : w2.cell? ⟨w.heap.size, 8, none⟩ = some (.int .i64 (n : Int)) := (H2.out.2.below.cell (p := ⟨w.heap.size, 8, none⟩) H0.out.2.2).trans c8; clear hs2 ho2))
  go_upto_region 6 with (fail)
  obtain ⟨W3, hW3⟩ : ∃ X, w2.alloc (Obj.cells (madeCells #[.string ⟨#[]⟩] n) 9) = X := ⟨_, rfl⟩
  have HBS : Hid (BV w c n T sb mb w2.heap.size (List.replicate n []) 0 W3) := by
    have hb3 : RowKit.Below w2.heap.size w2 W3 := by rw [← hW3]; exact (Below.refl _ _).alloc (Nat.le_refl _) _
    have hz3 : Zb W3 w2.heap.size (kT.cells (List.replicate n ⟨#[]⟩)) := by
      have := Zb.new w2 (madeCells #[.string ⟨#[]⟩] n) 9
      rw [← hW3]
      rw [toList_madeCells_one] at this
      rw [cellsT_nil]
      exact this
    have h2b := H2.out.2.below
    have h02 := H0.out.1.trans (h2b.mono H0.out.1.size)
    have hT : ∀ b, w2.heap.size ≤ b → T b = 0 := fun b hb => H2.out.2.zero b (.inr hb)
    refine ⟨⟨vb, H2.out.1.below hb3⟩, fun b hb => hT b (Nat.le_trans hb3.size hb), (H0.out.2.1.keep H0.out.2.2 h2b).keep (Nat.lt_of_lt_of_le H0.out.2.2 h2b.size) hb3, ⟨Nat.lt_of_lt_of_le (Nat.lt_of_lt_of_le H0.out.2.2 h2b.size) hb3.size, H2.out.2.zero _ (.inl H0.out.2.2)⟩, ?_, h02.trans (hb3.mono h02.size), fun b hb => H2.out.2.zero b (.inl (Nat.lt_of_lt_of_le hb H0.out.1.size)), Bw.first n⟩
    exact ⟨isK_zb hz3, by simp, by simp, by simp, .inr ⟨_, _, rfl⟩, fun b off e => by cases e; exact ⟨hT _ (Nat.le_refl _), hz3.1⟩⟩
  rw [hW3]
  clear hW3 H2 HNW k2 d8 c8
  generalize w2.heap.size = pb at *
  go_loopw [8] (fun i wr => ∃ (k : Nat) (V : Lv), k ≤ ll ∧ k ≤ 400 ∧ i = .int .i64 (k : Int) ∧ Hid (BV w c n T sb mb pb V k wr)) (fun i _ => 400 - (intOf i).toNat)
  case atStart => exact ⟨0, _, Nat.zero_le _, Nat.zero_le _, rfl, HBS⟩
  case round =>
    obtain ⟨k, V, hk1, hk2, rfl, HX⟩ := hrel
    by_cases hlt : k < ll ∧ k < 400
    · have q1 : (k : Int) < (ll : Int) := by omega
      have q2 : (k : Int) < 400 := by omega
      have hkl : k < l.length := by rw [hll]; exact hlt.1
      obtain ⟨p, hpk⟩ : ∃ p, l[k]? = some p := ⟨_, List.getElem?_eq_getElem hkl⟩
      obtain ⟨b1, o1, e1, hr⟩ := (HL.out.1.below HX.out.b).at_ (by omega)
      subst e1
      have hc1 := hr.2 k p hpk
      have HPR := hidV (HL.out.2.1 p (List.mem_of_getElem? hpk))
      obtain ⟨lv, ⟨no, we, by1, en, le, gr⟩⟩ := p
      have z0 : wr.cell? ⟨b1, o1 + k * 7, none⟩ = some (.int .i64 lv) := hc1 0 _ rfl
      have z1 : wr.cell? ⟨b1, o1 + k * 7 + 1, none⟩ = some (.int .u64 (no : Int)) := hc1 1 _ rfl
      have z2 : wr.cell? ⟨b1, o1 + k * 7 + 2, none⟩ = some (.int .i64 we) := hc1 2 _ rfl
      have z3 : wr.cell? ⟨b1, o1 + k * 7 + 3, none⟩ = some (.int .i64 by1) := hc1 3 _ rfl
      have z4 : wr.cell? ⟨b1, o1 + k * 7 + 4, none⟩ = some (.int .i64 en) := hc1 4 _ rfl
      have z5 : wr.cell? ⟨b1, o1 + k * 7 + 5, none⟩ = some (.string le) := hc1 5 _ rfl
      have z6 : wr.cell? ⟨b1, o1 + k * 7 + 6, none⟩ = some (.string gr) := hc1 6 _ rfl
      clear hc1 hr hpk hkl
      obtain ⟨lp, hlp, hPl⟩ : ∃ q : Int, (0 ≤ q ∧ q < n) ∧ ∀ W, Calls Tryz.prog 25 #[.int .i64 lv, .int .i64 (n : Int)] W fun e w' => e = .returned (.int .i64 q) ∧ w' = W := ⟨_, plc_lt lv (by omega), fun W => place_any lv n W HPR.out.2.1 (by omega)⟩
      obtain ⟨wp, hwp, hPw⟩ : ∃ q : Int, (0 ≤ q ∧ q < 2147483648) ∧ ∀ W, Calls Tryz.prog 25 #[.int .i64 we, .int .i64 2147483648] W fun e w' => e = .returned (.int .i64 q) ∧ w' = W := ⟨_, plc_lt we (by omega), fun W => place_any we 2147483648 W HPR.out.2.2 (by omega)⟩
      have HPl := hidV (And.intro hPl hPw)
      clear hPl hPw
      have c8 := HX.out.c.cell 8 HL8.out
      obtain ⟨Wa, hWa⟩ : ∃ X, wr.alloc (Obj.cells #[.int .i64 lv, .int .u64 (no : Int), .int .i64 we, .int .i64 by1, .int .i64 en, .string le, .string gr] 78) = X := ⟨_, rfl⟩
      have Ha : Hid (RowKit.Below wr.heap.size wr Wa ∧ Zb Wa wr.heap.size [.int .i64 lv, .int .u64 (no : Int), .int .i64 we, .int .i64 by1, .int .i64 en, .string le, .string gr]) := by
        subst hWa
        exact ⟨(Below.refl _ _).alloc (Nat.le_refl _) _, Zb.new wr _ _⟩
      go_upto_region 9 with (fail)
      (try rw [hWa])
      clear hWa z0 z1 z2 z3 z4 z5 z6
      have Hb : Hid (Zb (Wa.setCell ⟨wr.heap.size, 0, none⟩ (.int .i64 lp)) wr.heap.size [.int .i64 lp, .int .u64 (no : Int), .int .i64 we, .int .i64 by1, .int .i64 en, .string le, .string gr] ∧ RowKit.Below wr.heap.size wr (Wa.setCell ⟨wr.heap.size, 0, none⟩ (.int .i64 lp))) := ⟨Ha.out.2.set 0 _, Ha.out.1.setCell (p := ⟨wr.heap.size, 0, none⟩) (Nat.le_refl _) _⟩
      have Hc : Hid (Zb ((Wa.setCell ⟨wr.heap.size, 0, none⟩ (.int .i64 lp)).setCell ⟨wr.heap.size, 2, none⟩ (.int .i64 wp)) wr.heap.size [.int .i64 lp, .int .u64 (no : Int), .int .i64 wp, .int .i64 by1, .int .i64 en, .string le, .string gr] ∧ RowKit.Below wr.heap.size wr ((Wa.setCell ⟨wr.heap.size, 0, none⟩ (.int .i64 lp)).setCell ⟨wr.heap.size, 2, none⟩ (.int .i64 wp))) := ⟨Hb.out.1.set 2 _, Hb.out.2.setCell (p := ⟨wr.heap.size, 2, none⟩) (Nat.le_refl _) _⟩
      have c8a : Wa.cell? ⟨w.heap.size, 8, none⟩ = some (.int .i64 (n : Int)) := (Ha.out.1.cell (p := ⟨w.heap.size, 8, none⟩) HX.out.cl.1).trans c8
      have a0 := Ha.out.2.2.1 0 _ rfl
      have f0 := Ha.out.2.2.2 0
      have a2 := Hb.out.1.2.1 2 _ rfl
      have f2 := Hb.out.1.2.2 2
      go_upto_region 10 with (go_at_call 25; go_loud (refine (HPl.out.1 _).mono ?_; rintro e w99 ⟨rfl, hw99⟩; have hw98 := hw99.symm; clear hw99; subst hw98))
      go_upto_region 11 with (go_at_call 25; go_loud (refine (HPl.out.2 _).mono ?_; rintro e w99 ⟨rfl, hw99⟩; have hw98 := hw99.symm; clear hw99; subst hw98))
      obtain ⟨Wc, hWc⟩ : ∃ X, ((Wa.setCell ⟨wr.heap.size, 0, none⟩ (.int .i64 lp)).setCell ⟨wr.heap.size, 2, none⟩ (.int .i64 wp)) = X := ⟨_, rfl⟩
      rw [hWc] at Hc
      rw [hWc]
      clear hWc a0 f0 a2 f2 Hb Ha c8a c8
      have x0 := Hc.out.1.2.1 0 _ rfl
      have x1 := Hc.out.1.2.1 1 _ rfl
      have x2 := Hc.out.1.2.1 2 _ rfl
      have x3 := Hc.out.1.2.1 3 _ rfl
      have x4 := Hc.out.1.2.1 4 _ rfl
      have x5 := Hc.out.1.2.1 5 _ rfl
      have x6 := Hc.out.1.2.1 6 _ rfl
      have HAp : Hid (Calls Tryz.prog 27 #[.pointer (some ⟨sb, 0, none⟩), .agg #[.int .u64 0, .int .u64 0, .int .u64 0, .slice none 0 0, .slice (some ⟨Wc.heap.size, 0, none⟩) 1 1, .slice (some ⟨pb, 0, none⟩) n n]] (Wc.alloc (Obj.cells #[.int .i64 lp, .int .u64 (no : Int), .int .i64 wp, .int .i64 by1, .int .i64 en, .string le, .string gr] 78)) fun e w' => ∃ (r : Int) (V' : Lv), e = .returned (.tuple #[.slice none 0 0, .int .i64 r]) ∧ BV w c n T sb mb pb V' (k + 1) w') := by
        have hb9 := Hc.out.2.alloc Hc.out.2.size (Obj.cells #[.int .i64 lp, .int .u64 (no : Int), .int .i64 wp, .int .i64 by1, .int .i64 en, .string le, .string gr] 78)
        exact apply_bv (HX.out.below hb9) (by omega) hk2 Wc.heap.size ⟨lp, ⟨no, wp, by1, en, le, gr⟩⟩ (Zb.new Wc _ _) HPR.out.1 (by show 0 ≤ wp ∧ wp ≤ 2147483648; omega)
      go_wp2_with (go_at_call 27; go_loud (refine HAp.out.mono ?_; rintro e wz ⟨r, V', rfl, hbs⟩; have HZ := hidV hbs; clear hbs))
      go_roundw
      case rel => exact ⟨k + 1, V', by omega, by omega, by go_num, HZ⟩
      case measure => simp [intOf]; omega
    · obtain ⟨vb2, hs2⟩ := HX.out.s
      have HS2 := hidV hs2
      clear hs2
      have HCu : Hid (Calls Tryz.prog 28 #[.pointer (some ⟨sb, 0, none⟩)] wr fun e w' => e = .returned (.pointer (some ⟨vb2, 0, none⟩)) ∧ w' = wr) := current_any HS2.out
      by_cases h1 : k < ll
      · have q1 : (k : Int) < (ll : Int) := by omega
        have q2 : ¬ (k : Int) < 400 := by omega
        go_wp2_with (go_at_call 28; go_loud (refine HCu.out.mono ?_; rintro e w99 ⟨rfl, hw99⟩; have hw98 := hw99.symm; clear hw99; subst hw98))
        go_loopw [11, 12] (fun o i wr2 => ∃ (j : Nat) (s : Sv) (T' : Nat → Nat) (vs : List Sv), j ≤ n ∧ o = .slice s.1 s.2.1 s.2.2 ∧ i = .int .i64 (j : Int) ∧ Hid (Goes (· = 3) T wr T' wr2 ∧ OwnK kS 3 T' wr2 (svV s) vs ∧ vs.length = j)) (fun _ i _ => n - (intOf i).toNat)
        case atStart => exact ⟨0, nS, T, [], Nat.zero_le _, rfl, rfl, Goes.refl _ _ _, OwnK.empty _ _ _, rfl⟩
        case round =>
          obtain ⟨j, ⟨ra, rn, rc⟩, T', vs, hj, rfl, rfl, HG⟩ := hrel
          rename World => wr2
          simp only at *
          have c8 := (HX.out.c.goes HX.out.cl.1 HX.out.cl.2 HG.out.1 (by decide)).cell 8 HL8.out
          have HVA : Hid (VAt wr2 vb2 V) := (HS2.out.ver.goes HG.out.1 (by decide)).at_
          by_cases hjn : j < n
          · have q1 : (j : Int) < (n : Int) := by omega
            have HTb : Hid (Calls Tryz.prog 16 #[.pointer (some ⟨vb2, 0, none⟩), .int .i64 (j : Int)] wr2 fun e w' => ∃ s : Sv, e = .returned (.slice s.1 s.2.1 s.2.2) ∧ RowKit.Below wr2.heap.size wr2 w') := (tables_any vb2 V j wr2 HVA.out).mono fun e w' ⟨s, he, _, hb⟩ => ⟨s, he, hb⟩
            go_wp2_with (first
              | (go_at_call 16; go_loud (refine HTb.out.mono ?_; rintro e w3 ⟨⟨ta, tn, tc⟩, rfl, hb3⟩; have H3 := hidV hb3; clear hb3; simp only))
              | (at_builtin; go_loud (refine wpList_appK kS _ (by rfl) (.tmp 61) (.tmp 65) 30 (by rfl) iz Tryz.underlying30 hi hz0 hz1 hz2 3 T' (.slice ra rn rc) vs (by rfl) ((HG.out.2.1.below H3.out).below ((Below.refl _ _).alloc (Nat.le_refl _) _)) (some ⟨w3.heap.size, 0, none⟩) 1 1 [(ta, tn, tc)] (by rfl) rfl (by simp) (isK_zb (Zb.new w3 #[.slice ta tn tc] 58)) (by have := HG.out.2.2; simp; omega) ?_; intro a' c' T9 w4 ho4 hg4; have HY : Hid (OwnK kS 3 T9 w4 (.slice a' (vs.length + 1) c') (vs ++ [(ta, tn, tc)]) ∧ Goes (· = 3) T' wr2 T9 w4) := ⟨ho4, (Goes.below (t := (· = 3)) (H3.out.alloc H3.out.size _)).trans hg4⟩; clear ho4 hg4; simp only [List.length_singleton])))
            go_roundw
            case rel =>
              have h3 := HY.out.1
              rw [HG.out.2.2] at h3
              refine ⟨j + 1, (a', j + 1, c'), T9, _, by omega, by rw [HG.out.2.2], by go_num, HG.out.1.trans HY.out.2, h3, by rw [List.length_append, HG.out.2.2]; rfl⟩
            case measure => simp [intOf]; omega
          · have q1 : ¬ (j : Int) < (n : Int) := by omega
            go_wp2
            go_ret2
            exact ⟨vb2, V, (ra, rn, rc), rfl, HVA.out, HX.out.v.mono hk2, below_goes HX.out.b HX.out.l HG.out.1 (by decide)⟩
      · have q1 : ¬ (k : Int) < (ll : Int) := by omega
        go_wp2_with (go_at_call 28; go_loud (refine HCu.out.mono ?_; rintro e w99 ⟨rfl, hw99⟩; have hw98 := hw99.symm; clear hw99; subst hw98))
        go_loopw [11, 12] (fun o i wr2 => ∃ (j : Nat) (s : Sv) (T' : Nat → Nat) (vs : List Sv), j ≤ n ∧ o = .slice s.1 s.2.1 s.2.2 ∧ i = .int .i64 (j : Int) ∧ Hid (Goes (· = 3) T wr T' wr2 ∧ OwnK kS 3 T' wr2 (svV s) vs ∧ vs.length = j)) (fun _ i _ => n - (intOf i).toNat)
        case atStart => exact ⟨0, nS, T, [], Nat.zero_le _, rfl, rfl, Goes.refl _ _ _, OwnK.empty _ _ _, rfl⟩
        case round =>
          obtain ⟨j, ⟨ra, rn, rc⟩, T', vs, hj, rfl, rfl, HG⟩ := hrel
          rename World => wr2
          simp only at *
          have c8 := (HX.out.c.goes HX.out.cl.1 HX.out.cl.2 HG.out.1 (by decide)).cell 8 HL8.out
          have HVA : Hid (VAt wr2 vb2 V) := (HS2.out.ver.goes HG.out.1 (by decide)).at_
          by_cases hjn : j < n
          · have q1 : (j : Int) < (n : Int) := by omega
            have HTb : Hid (Calls Tryz.prog 16 #[.pointer (some ⟨vb2, 0, none⟩), .int .i64 (j : Int)] wr2 fun e w' => ∃ s : Sv, e = .returned (.slice s.1 s.2.1 s.2.2) ∧ RowKit.Below wr2.heap.size wr2 w') := (tables_any vb2 V j wr2 HVA.out).mono fun e w' ⟨s, he, _, hb⟩ => ⟨s, he, hb⟩
            go_wp2_with (first
              | (go_at_call 16; go_loud (refine HTb.out.mono ?_; rintro e w3 ⟨⟨ta, tn, tc⟩, rfl, hb3⟩; have H3 := hidV hb3; clear hb3; simp only))
              | (at_builtin; go_loud (refine wpList_appK kS _ (by rfl) (.tmp 61) (.tmp 65) 30 (by rfl) iz Tryz.underlying30 hi hz0 hz1 hz2 3 T' (.slice ra rn rc) vs (by rfl) ((HG.out.2.1.below H3.out).below ((Below.refl _ _).alloc (Nat.le_refl _) _)) (some ⟨w3.heap.size, 0, none⟩) 1 1 [(ta, tn, tc)] (by rfl) rfl (by simp) (isK_zb (Zb.new w3 #[.slice ta tn tc] 58)) (by have := HG.out.2.2; simp; omega) ?_; intro a' c' T9 w4 ho4 hg4; have HY : Hid (OwnK kS 3 T9 w4 (.slice a' (vs.length + 1) c') (vs ++ [(ta, tn, tc)]) ∧ Goes (· = 3) T' wr2 T9 w4) := ⟨ho4, (Goes.below (t := (· = 3)) (H3.out.alloc H3.out.size _)).trans hg4⟩; clear ho4 hg4; simp only [List.length_singleton])))
            go_roundw
            case rel =>
              have h3 := HY.out.1
              rw [HG.out.2.2] at h3
              refine ⟨j + 1, (a', j + 1, c'), T9, _, by omega, by rw [HG.out.2.2], by go_num, HG.out.1.trans HY.out.2, h3, by rw [List.length_append, HG.out.2.2]; rfl⟩
            case measure => simp [intOf]; omega
          · have q1 : ¬ (j : Int) < (n : Int) := by omega
            go_wp2
            go_ret2
            exact ⟨vb2, V, (ra, rn, rc), rfl, HVA.out, HX.out.v.mono hk2, below_goes HX.out.b HX.out.l HG.out.1 (by decide)⟩
end Vr
end Go.Proofs.YtaejjpbpnedblaaGreat
