import Derived.Test.YtnhhalabmmcemaaDoorRnd
import Derived.Test.YtnhhalabmmcemaaDoorTaP
namespace Go.Proofs.YtnhhalabmmcemaaDoor
namespace Tbl
open Go.RowKit CMath Byt Laws Irw Crw Cod Qb
set_option linter.unusedVariables false
set_option linter.unusedSimpArgs false
set_option maxRecDepth 20000

set_option maxHeartbeats 1000000 in
theorem bclone_any (a : Addr) (cap n : Nat) (l : List Nat) (w : World) (ha : IsB w (some a) l) (hk : l.length ≤ 140737488355328) (hn : n = l.length) :
    Calls Tryd.prog 45 #[.slice (some a) n cap] w fun e w' => ∃ v, e = .returned v ∧ Byt.Own 5 w.heap.size w' v l ∧ Below w.heap.size w w' := by
  subst hn
  obtain ⟨i8, hi, hz0, hz1, hz2⟩ := info_parts info8
  have HOWN : Hid ((w.alloc (.cells #[] 5)).ownsRow w.heap.size 5 1 (.slice (some ⟨w.heap.size, 0, none⟩) 0 0) 0 (cellsB [])) := World.ownsRow_lit w #[] 0 (Nat.le_refl _) (by simp [maxLen]) (by simp)
  have HI : Hid (IsB (w.alloc (.cells #[] 5)) (some a) l) := ha.below ((Below.refl _ _).alloc (Nat.le_refl _) _)
  have HBY : Hid (∀ x ∈ l, x < 256) := ha.2
  clear ha
  have q22 : ∀ (w : World) (n c : Nat), (binOp .eql 25 (.slice (some a) n c) (.slice none 0 0)).run Tryd.prog w = .ok (.bool false) w := fun w n c => Lib.run_eql_slice_nil w _ _ (some a) n c 0 0 Tryd.underlying25
  go_enter Tryd.func45, Tryd.ntmps45
  go_wp2_with (at_builtin; refine wpList_appB (by rfl) (.tmp 5) (.tmp 6) 25 (by rfl) w.heap.size 5 i8 Tryd.underlying25 hi hz0 hz1 hz2 _ [] 0 (by rfl) HOWN.out (some a) l.length cap l (by rfl) rfl (by simp) HI.out (by omega) (by simp) ?_; intro u1 w1 hown1 hgr1 hnn1; have HG : Hid ((w.alloc (.cells #[] 5)).grownBy w1 (some w.heap.size)) := hgr1; have HO1 : Hid (w1.ownsRow w.heap.size 5 1 u1 (0 + l.length) (cellsB l)) := hown1; have HNN : Hid (u1 ≠ .slice none 0 0) := hnn1 (by simp); clear hgr1 hown1 hnn1)
  go_ret
  exact ⟨u1, rfl, Own.mk' HO1.out HBY.out HNN.out, below_of ((Below.refl _ _).alloc (Nat.le_refl _) _) HG.out (Nat.le_refl _) (by intro k hk; cases hk; exact Nat.le_refl _)⟩
/-- What is short of a foot. -/
theorem footB_len {a b c : Nat} {m : Mt} (hlo : m.lo.size ≤ 64) (hhi : m.hi.size ≤ 64) : (footB a b c m).length ≤ 180 := by
  have h1 : (num m.lo.size).length = 1 := by rw [num_small (by omega)]; rfl
  have h2 : (num m.hi.size).length = 1 := by rw [num_small (by omega)]; rfl
  unfold footB
  simp only [List.length_append, words_len']
  have := pre_len [(a : Int), b, c, m.n, m.wt] 5
  omega
theorem foot_eq {a b c : Nat} {m m' : Mt} (h1 : m.n = m'.n) (h2 : m.wt = m'.wt) (h3 : m.lo = m'.lo) (h4 : m.hi = m'.hi) : foot a b c m = foot a b c m' := by
  unfold foot footB
  rw [h1, h2, h3, h4]
theorem footB_num (a b c : Nat) (m : Mt) (ha : a < 9223372036854775808) (hb : b < 9223372036854775808) : ∃ x, footB a b c m = num a ++ (num b ++ x) := by
  refine ⟨num (u64 c) ++ (num (u64 (m.n : Int)) ++ (num (u64 m.wt) ++ [])) ++ words (strB m.lo) ++ words (strB m.hi), ?_⟩
  unfold footB pre
  rw [← u64_nat a (by omega), ← u64_nat b (by omega)]
  simp [u64_nat a (by omega), u64_nat b (by omega)]
theorem mtF_lo {es : List En} (hok : ∀ e ∈ es, e.1.size ≤ 64) : (mtF es).lo.size ≤ 64 := by
  have key : ∀ (l : List En) (m : Mt), m.lo.size ≤ 64 → (∀ e ∈ l, e.1.size ≤ 64) → (l.foldl Mt.more m).lo.size ≤ 64 := by
    intro l
    induction l with
    | nil => intro m hm _; exact hm
    | cons x l ih =>
      intro m hm hl
      rw [List.foldl_cons]
      refine ih _ ?_ (fun e he => hl e (by simp [he]))
      show (if m.n = 0 then x.1 else m.lo).size ≤ _
      split
      · exact hl x (by simp)
      · exact hm
  exact key _ _ (by simp [mt0, ByteArray.size]) hok
theorem lastE_le {es : List En} (hok : ∀ e ∈ es, e.1.size ≤ 64) : (lastE ⟨#[]⟩ es).size ≤ 64 := by
  by_cases hz : es = []
  · rw [hz]; simp [lastE, ByteArray.size]
  · obtain ⟨e, he, hl⟩ := lastE_mem hz ⟨#[]⟩
    rw [hl]; exact hok e he
/-- What is known of the whole. -/
structure Wh (R : Nat) (bits : Int) (L : Ts) (css : List (List En)) : Prop where
  inv : Inv R bits L css []
  R1 : 1 ≤ R
  ne : css ≠ []
  len : css.flatten.length ≤ 1000
theorem Wh.facts {R : Nat} {bits : Int} {L : Ts} {css : List (List En)} (h : Wh R bits L css) :
    (∀ e ∈ css.flatten, Ok e ∧ 0 ≤ e.2.1) ∧ css.length ≤ css.flatten.length ∧ chain ⟨#[]⟩ css.flatten ∧ chain ⟨#[]⟩ (ixs R 0 css) ∧ L.laid.length ≤ 712000 ∧ (blk L.idx).length ≤ 710000 ∧ (BMath.mk (L.keys.map strB) bits).length ≤ 131073 ∧ (footB L.laid.length (blk L.idx).length (BMath.mk (L.keys.map strB) bits).length L.mt).length ≤ 180 := by
  have hi := h.inv
  obtain ⟨h1, h2⟩ := hi.sizes
  have hch := hi.ch
  rw [List.append_nil] at h2 hch
  have hl := h.len
  have a3 := laid_len R css (fun e he => h2 e he) hi.ne
  have hix := ixs_chain R css 0 ⟨#[]⟩ hi.ne hch (by omega)
  have a5 := pushes_len R (ixs R 0 css) (fun e he => ⟨chain_ok hix e he, ixs_nn R e css 0 he⟩)
  have a6 := pushes_plen R (ixs R 0 css) st0
  have a7 := ixs_len R css 0
  have z1 : st0.p.length = 0 := rfl
  have hbk := blk_len L.idx
  rw [hi.idx] at hbk
  have e1 : L.laid.length = (laidOf R css).length := by rw [hi.laid]
  have e2 : (blk L.idx).length = (blk (pushes R st0 (ixs R 0 css))).length := by rw [hi.idx]
  refine ⟨h2, h1, hch, hix, by omega, by omega, BMath.mk_length_le _ _, footB_len ?_ ?_⟩
  · rw [hi.mt]; show (mtF (css.flatten ++ [])).lo.size ≤ 64; rw [List.append_nil]; exact mtF_lo (fun e he => (h2 e he).1.k2)
  · rw [hi.mt]; show (lastE ⟨#[]⟩ (css.flatten ++ [])).size ≤ 64; rw [List.append_nil]; exact lastE_le (fun e he => (h2 e he).1.k2)
theorem Wh.may {R : Nat} {bits : Int} {L : Ts} {css : List (List En)} (h : Wh R bits L css) : ∀ e ∈ css.flatten, BMath.may (BMath.mk (L.keys.map strB) bits) (strB e.1) = true := by
  intro e he
  have hk := h.inv.keys
  rw [List.append_nil] at hk
  by_cases hb : 0 < bits
  · rw [if_pos hb] at hk
    refine BMath.may_mk bits ?_
    rw [hk, List.map_map]
    exact List.mem_map.2 ⟨e, he, rfl⟩
  · have : BMath.mk (L.keys.map strB) bits = [] := by unfold BMath.mk; rw [if_pos (.inl (by omega))]
    rw [this]
    rfl

end Tbl
end Go.Proofs.YtnhhalabmmcemaaDoor
namespace Go.Proofs.YtnhhalabmmcemaaDoor
namespace Tbl
open Go.RowKit CMath Byt Laws Irw Crw Cod Qb
set_option linter.unusedVariables false
set_option linter.unusedSimpArgs false
set_option maxRecDepth 20000

/-- What is known of a table that was read. -/
def rdM (n : Int) (es : List En) : Mt := ⟨(mtF es).wt, n, es.length, (mtF es).lo, lastE ⟨#[]⟩ es⟩
theorem TbO.setBy {T : Nat → Nat} {w : World} {B : Nat} {ps : List (ByteArray × Nat)} {F : List Nat} {es : List En} (h : TbO 20 T w B ps F (mtF es)) (x : Int) : TbO 20 T (w.setCell ⟨B, 4, none⟩ (.int .i64 x)) B ps F (rdM x es) := by
  obtain ⟨pv, fa, fc, hob, hpv, hfi, hft⟩ := h.ob
  have hg : Goes (· = 20) T w T (w.setCell ⟨B, 4, none⟩ (.int .i64 x)) := Goes.setCell h.tB
  refine ⟨⟨pv, fa, fc, ?_, hpv.goes hg (by omega), (isB_goes hfi hg (fun b off e hne => by rw [hft b off e hne]; omega)).1, hft⟩, h.tB⟩
  rw [obj_set hob]
  simp [tcs, rdM, mtF_n, mtF_hi]
def FiO (bits : Int) (L : Ts) : List Nat := BMath.mk (L.keys.map strB) bits
/-- What read answers. -/
def RdIs (R : Nat) (bits : Int) (L : Ts) (css : List (List En)) (T0 : Nat → Nat) (w : World) (e : Ending) (w' : World) : Prop :=
  ∃ B T ps, (∀ b, b < w.heap.size → T b = T0 b) ∧ e = .returned (.pointer (some ⟨B, 0, none⟩)) ∧ w.heap.size ≤ B ∧ TbO 20 T w' B ps (FiO bits L) (rdM ((whole bits L).length : Int) css.flatten) ∧ PsAt R T w' ps css ∧ Below w.heap.size w w'
/-- Tags of what lies before. -/
structure Tg (T : Nat → Nat) (w : World) (g : Nat) : Prop where
  hi : Hi T w
  nc : NC T w
  h7 : ∀ b, T b = 0 ∨ T b = 7
  g0 : T g = 0
  z0 : T 0 = 0
theorem rd_in {w w2 w4 : World} {T : Nat → Nat} {R : Nat} {css : List (List En)} {ld F : List Nat} {g o gf cf Ki ri : Nat} (hb2 : Below w.heap.size w w2) (hif : IsB w2 (some ⟨gf, 0, none⟩) F) (hgf : w.heap.size ≤ gf ∧ gf < w2.heap.size) (iL : IsB w (some ⟨g, o, none⟩) ld) (hgl : g < w.heap.size) (ht : Tab w) (hlaid : ld = laidOf R css)
    (hk4 : BlkF (w2.alloc (.cells #[.slice none 0 0, .slice (some ⟨gf, 0, none⟩) F.length cf, .int .u64 0, .int .i64 0, .int .i64 0, .int .i64 0, .string ⟨#[]⟩, .string ⟨#[]⟩] 63)).heap.size w4 Ki 3 (pushes ri st0 (ixs R 0 css)).b (pushes ri st0 (ixs R 0 css)).p) (hb4 : Below (w2.alloc (.cells #[.slice none 0 0, .slice (some ⟨gf, 0, none⟩) F.length cf, .int .u64 0, .int .i64 0, .int .i64 0, .int .i64 0, .string ⟨#[]⟩, .string ⟨#[]⟩] 63)).heap.size (w2.alloc (.cells #[.slice none 0 0, .slice (some ⟨gf, 0, none⟩) F.length cf, .int .u64 0, .int .i64 0, .int .i64 0, .int .i64 0, .string ⟨#[]⟩, .string ⟨#[]⟩] 63)) w4)
    (hl : ld.length ≤ 712000) (hR : 1 ≤ R) (hne : ∀ cs ∈ css, cs ≠ []) (hch : chain ⟨#[]⟩ css.flatten) (hok : ∀ e ∈ css.flatten, Ok e ∧ 0 ≤ e.2.1) (hmay : ∀ e ∈ css.flatten, BMath.may F (strB e.1) = true) (hF : F.length ≤ 131073) (hlen : css.flatten.length ≤ 1000) (hcl : css.length ≤ css.flatten.length) (hTg : Tg T w g) :
    RqIn 20 (upd T w2.heap.size 20) w4 w2.heap.size F R css g o ld.length ld.length Ki ri ∧ Below w.heap.size w w4 := by
  have hs3 : (w2.alloc (.cells #[.slice none 0 0, .slice (some ⟨gf, 0, none⟩) F.length cf, .int .u64 0, .int .i64 0, .int .i64 0, .int .i64 0, .string ⟨#[]⟩, .string ⟨#[]⟩] 63)).heap.size = w2.heap.size + 1 := by simp
  have o3 := World.alloc_heap_new w2 (.cells #[.slice none 0 0, .slice (some ⟨gf, 0, none⟩) F.length cf, .int .u64 0, .int .i64 0, .int .i64 0, .int .i64 0, .string ⟨#[]⟩, .string ⟨#[]⟩] 63)
  have b3 : Below w2.heap.size w2 (w2.alloc (.cells #[.slice none 0 0, .slice (some ⟨gf, 0, none⟩) F.length cf, .int .u64 0, .int .i64 0, .int .i64 0, .int .i64 0, .string ⟨#[]⟩, .string ⟨#[]⟩] 63)) := (Below.refl _ _).alloc (Nat.le_refl _) _
  generalize (w2.alloc (.cells #[.slice none 0 0, .slice (some ⟨gf, 0, none⟩) F.length cf, .int .u64 0, .int .i64 0, .int .i64 0, .int .i64 0, .string ⟨#[]⟩, .string ⟨#[]⟩] 63)) = w3 at *
  have b24 := bl_step b3 hb4
  have b04 := bl_step hb2 b24
  have hs02 := hb2.size
  have hs34 := hb4.size
  have o4 : w4.heap[w2.heap.size]? = some (.cells (tcs (.slice none 0 0) (.slice (some ⟨gf, 0, none⟩) F.length cf) mt0) 63) := (hb4.block _ (by omega)).trans o3
  have hT : ∀ b, b ≠ w2.heap.size → upd T w2.heap.size 20 b = T b := fun b h => upd_other _ _ h
  refine ⟨⟨⟨⟨.slice none 0 0, some ⟨gf, 0, none⟩, cf, o4, OwnK.empty _ _ _, hif.below b24, fun b off e hne => ?_⟩, upd_same _ _ _⟩, fun b hb => (hT b (by omega)).trans (hTg.hi b (by omega)), fun b ob hbo ho => ?_, by omega, fun b => ?_, fun b => ?_, ht.below b04 ht.lt, (hT 0 (by have := ht.lt; omega)).trans hTg.z0, ?_, by rw [← hlaid]; exact iL.below b04, (hT g (by omega)).trans hTg.g0, by omega, by rw [hlaid], ⟨Nat.le_refl _, by omega⟩, by omega, hR, hne, hch, fun e he => (hok e he).2, hmay, by omega, by omega, by omega⟩, b04⟩
  · cases e
    exact (hT gf (by omega)).trans (hTg.hi gf (by omega))
  · by_cases hB : b = w2.heap.size
    · subst hB; rw [o4] at hbo; cases hbo; cases ho
    · exact (hT b hB).trans (hTg.nc.below hTg.hi b04 b ob hbo ho)
  · by_cases hB : b = w2.heap.size
    · rw [hB, upd_same]; omega
    · rw [hT b hB]; have := hTg.h7 b; omega
  · by_cases hB : b = w2.heap.size
    · rw [hB, upd_same]; omega
    · rw [hT b hB]; have := hTg.h7 b; omega
  · exact BlkAt.fresh hk4 (fun b h1 h2 z => z ((hT b (by omega)).trans (hTg.hi b (by omega))))
theorem rd_out {T : Nat → Nat} {w w4 w5 w6 : World} {R : Nat} {bits : Int} {L : Ts} {css : List (List En)} {F : List Nat} {B n : Nat} {T2 : Nat → Nat} {ps : List (ByteArray × Nat)} (hb04 : Below w.heap.size w w4) (hB : w.heap.size ≤ B) (hwl : (whole bits L).length = n + 4) (hF : FiO bits L = F) (q1 : TbO 20 T2 w5 B ps F (mtF css.flatten)) (q2 : PsAt R T2 w5 ps css) (hb5 : Below w.heap.size w w5) (hb6 : Below w5.heap.size w5 w6) (hTT : ∀ b, b < w.heap.size → T2 b = T b) : RdIs R bits L css T w (.returned (.pointer (some ⟨B, 0, none⟩))) (w6.setCell ⟨B, 4, none⟩ (.int .i64 ((n : Int) + 4))) := by
  have e : ((whole bits L).length : Int) = (n : Int) + 4 := by rw [hwl]; simp
  refine ⟨B, T2, ps, hTT, rfl, hB, ?_, ?_, ?_⟩
  · rw [e, hF]
    exact (q1.below hb6).setBy _
  · exact (q2.goes (Goes.below (t := fun _ => False) hb6) (fun z => z)).goes (Goes.setCell (t := (· = 20)) q1.tB) (by omega)
  · exact (bl_step hb5 hb6).setCell (p := ⟨B, 4, none⟩) hB _
set_option maxHeartbeats 2000000 in
theorem read_ok (T : Nat → Nat) (g o n : Nat) (R : Nat) (bits : Int) (L : Ts) (css : List (List En)) (w : World) (hTg : Tg T w g) (hW : Wh R bits L css) (ha : IsB w (some ⟨g, o, none⟩) (whole0 bits L)) (hn : n = (whole0 bits L).length) (ht : Tab w) :
    Calls Tryd.prog 26 #[.slice (some ⟨g, o, none⟩) n n] w fun e w' => RdIs R bits L css T w e w' := by
  have HTG := Qb.hid hTg
  clear hTg
  obtain ⟨hok, hcl, hch, hix, l1, l2, l3, l4⟩ := hW.facts
  have hmay := hW.may
  have hi := hW.inv
  obtain ⟨ld, hld⟩ : ∃ x, L.laid = x := ⟨_, rfl⟩
  obtain ⟨ib, hib⟩ : ∃ x, blk L.idx = x := ⟨_, rfl⟩
  obtain ⟨F, hF⟩ : ∃ x, BMath.mk (L.keys.map strB) bits = x := ⟨_, rfl⟩
  have hF2 : FiO bits L = F := hF
  obtain ⟨fb, hfb⟩ : ∃ x, footB ld.length ib.length F.length L.mt = x := ⟨_, rfl⟩
  rw [hld, hib, hF] at l4
  rw [hld] at l1
  rw [hib] at l2
  rw [hF] at l3 hmay
  rw [hfb] at l4
  have hX : whole0 bits L = ld ++ (ib ++ (F ++ (fb ++ [fb.length % 256] ++ [115, 99, 114, 49]))) := by
    rw [← hfb, ← hF, ← hib, ← hld]; rfl
  have hwl : (whole bits L).length = n + 4 := by unfold whole; rw [List.length_append, Qb.four_len, hn]
  have hlen := congrArg List.length hX
  simp only [List.length_append, List.length_cons, List.length_nil] at hlen
  have hnE : n = ld.length + ib.length + F.length + fb.length + 5 := by omega
  obtain ⟨xx, hxx⟩ := footB_num ld.length ib.length F.length L.mt (by omega) (by omega)
  rw [hfb] at hxx
  have hr1 : rd fb 0 0 = (ld.length, (num ld.length).length, 0) := by rw [hxx]; exact rd_is _ _ (by omega)
  have hr2 : rd (fb.drop (num ld.length).length) 0 0 = (ib.length, (num ib.length).length, 0) := by rw [hxx, List.drop_left]; exact rd_is _ _ (by omega)
  have hfl : (num ld.length).length + (num ib.length).length ≤ fb.length := by rw [hxx]; simp only [List.length_append]; omega
  rw [hX] at ha
  have HSP : Hid (Calls Tryd.prog 44 #[.slice (some ⟨g, o, none⟩) n n] w fun e w' => SpIs g o ld.length ib.length F.length fb.length w e w') := Qb.hid (split_ok g o n ld ib F fb (num ld.length).length (num ib.length).length w ha hnE (by omega) (by omega) hr1 hr2 (by omega) hfl)
  obtain ⟨s, hs⟩ : ∃ s, ld.length + ib.length + F.length = s := ⟨_, rfl⟩
  obtain ⟨o2, ho2⟩ : ∃ x, cutO (ld.length + ib.length + F.length) ld.length o = x := ⟨_, rfl⟩
  obtain ⟨o3, ho3⟩ : ∃ x, cutO (ib.length + F.length) ib.length o2 = x := ⟨_, rfl⟩
  unfold SpIs at HSP
  rw [ho2, ho3, hs] at HSP
  have i0 : IsB w (some ⟨g, o, none⟩) (ld ++ (ib ++ F)) := by
    have h1 := ha.take s
    have e1 : (ld ++ (ib ++ (F ++ (fb ++ [fb.length % 256] ++ [115, 99, 114, 49])))).take s = ld ++ (ib ++ F) := by
      have : ld ++ (ib ++ (F ++ (fb ++ [fb.length % 256] ++ [115, 99, 114, 49]))) = (ld ++ (ib ++ F)) ++ (fb ++ [fb.length % 256] ++ [115, 99, 114, 49]) := by simp
      rw [this]
      exact List.take_left' (by simp; omega)
    rw [e1] at h1
    exact h1
  have iL : IsB w (some ⟨g, o, none⟩) ld := by have h1 := i0.take ld.length; rw [List.take_left] at h1; exact h1
  have i2 : IsB w (some ⟨g, o2, none⟩) (ib ++ F) := by
    have h1 := cut_isB (n := ld.length) (c := ld.length + ib.length + F.length) i0 (by simp; omega)
    rw [ho2, List.drop_left] at h1
    exact h1
  have iI : IsB w (some ⟨g, o2, none⟩) ib := by have h1 := i2.take ib.length; rw [List.take_left] at h1; exact h1
  have iF : IsB w (some ⟨g, o3, none⟩) F := by
    have h1 := cut_isB (n := ib.length) (c := ib.length + F.length) i2 (by simp)
    rw [ho3, List.drop_left] at h1
    exact h1
  have iT : IsB w (some ⟨g, o + s, none⟩) (fb ++ [fb.length % 256] ++ [115, 99, 114, 49]) := by
    have h1 := isB_drop ha s
    have e1 : (ld ++ (ib ++ (F ++ (fb ++ [fb.length % 256] ++ [115, 99, 114, 49])))).drop s = fb ++ [fb.length % 256] ++ [115, 99, 114, 49] := by
      have : ld ++ (ib ++ (F ++ (fb ++ [fb.length % 256] ++ [115, 99, 114, 49]))) = (ld ++ (ib ++ F)) ++ (fb ++ [fb.length % 256] ++ [115, 99, 114, 49]) := by simp
      rw [this]
      exact List.drop_left' (by simp; omega)
    rw [e1] at h1
    exact h1
  obtain ⟨gw, _, hgw, hgl, _⟩ := ha.1 (by simp)
  cases hgw
  obtain ⟨ri, hri1, hri2, hri3⟩ := opn_mk R (ixs R 0 css) hW.R1 hix (fun e he => ixs_nn R e css 0 he) (by rw [← hi.idx]; have := blk_len L.idx; rw [hib] at this; omega) (by rw [← hi.idx]; have := blk_len L.idx; rw [hib] at this; omega) (by rw [ixs_len]; have := hW.len; omega)
  rw [← hi.idx, hib] at hri2
  have hlaid : ld = laidOf R css := by rw [← hld]; exact hi.laid
  have hpos : 0 < css.flatten.length := by
    have := List.length_pos_iff.2 hW.ne
    omega
  have hft : foot ld.length ib.length F.length (mtF css.flatten) = fb ++ [fb.length % 256] ++ [115, 99, 114, 49] := by
    have hmt := hi.mt
    rw [List.append_nil] at hmt
    rw [← hfb]
    show _ = foot ld.length ib.length F.length L.mt
    exact foot_eq (by rw [hmt, mtF_n]) (by rw [hmt]) (by rw [hmt]) (by rw [hmt, mtF_hi])
  have hlen1 := hW.len
  have hne := hi.ne
  have hT00 := ht.lt
  have hsz64 : ∀ e ∈ css.flatten, e.1.size ≤ 64 := fun e he => (hok e he).1.k2
  have hlo := mtF_lo hsz64
  have hhi : (mtF css.flatten).hi.size ≤ 64 := by rw [mtF_hi]; exact lastE_le hsz64
  have HAL := Qb.hid (And.intro iL (And.intro iI (And.intro iF (And.intro iT ht))))
  have HQ1 := Qb.hid (And.intro hri2 (And.intro hri1 (And.intro hlaid (And.intro hch (And.intro hok (And.intro hmay (And.intro hne hft)))))))
  have HWL := Qb.hid (And.intro hwl hF2)
  have HR1 := Qb.hid hW.R1
  have HNE := Qb.hid (And.intro hnE (And.intro hs (And.intro l1 (And.intro l2 (And.intro l3 (And.intro l4 (And.intro hlen1 (And.intro hcl (And.intro hlo (And.intro hhi (And.intro hgl hT00)))))))))))
  have hF140 : F.length ≤ 140737488355328 := by omega
  have hn8 : n ≤ 2000000 := by omega
  clear hnE hs ho2 ho3 hn l1 l2 l3 l4 hlen1 hcl hlo hhi hgl hT00
  clear ha hr1 hr2 hxx hX hlen i0 i2 iL iI iF iT hri2 hri3 hch hix hok hmay hft hne hwl hF2 hF hib hld hfb hW hi ht hsz64 hlaid hfl
  obtain ⟨ft, hft0⟩ : ∃ ft, fb ++ [fb.length % 256] ++ [115, 99, 114, 49] = ft := ⟨_, rfl⟩
  have hftl : ft.length = fb.length + 5 := by rw [← hft0]; simp
  rw [hft0] at HAL HQ1
  obtain ⟨mm, hmm⟩ : ∃ mm, mtF css.flatten = mm := ⟨_, rfl⟩
  have hmn : mm.n = css.flatten.length := by rw [← hmm, mtF_n]
  have hmp : 0 < mm.n := by omega
  have hmd : decide (0 < mm.n) = true := decide_eq_true hmp
  have HFO : Hid (∀ W, Calls Tryd.prog 40 #[.int .i64 (ld.length : Int), .int .i64 (ib.length : Int), .int .i64 (F.length : Int), .agg #[.int .u64 0, .int .i64 mm.wt, .int .i64 mm.by_, .int .i64 (mm.n : Int), .string mm.lo, .string mm.hi]] W fun e w' => ∃ v, e = .returned v ∧ Byt.Own 5 W.heap.size w' v ft ∧ Below W.heap.size W w') := by
    apply Qb.hid
    intro W
    have hN := HNE.out
    have h := footOf_any ld.length ib.length F.length mm W (by omega) (by omega) (by omega) (by rw [← hmm]; omega) (by rw [← hmm]; omega)
    rw [← hmm, HQ1.out.2.2.2.2.2.2.2, hmm] at h
    exact h
  have HMM := Qb.hid hmm
  have HFT := Qb.hid hftl
  clear hft0 hmm hmn hpos hftl
  go_enter Tryd.func26, Tryd.ntmps26
  go_wp2_with (first
    | (go_at_call 44; go_loud (refine HSP.out.mono ?_; rintro e w1 ⟨rfl, hb1⟩; have HB1 := Qb.hid hb1; clear hb1))
    | (go_at_call 45; go_loud (refine (bclone_any ⟨g, o3, none⟩ F.length F.length F w1 (HAL.out.2.2.1.below HB1.out) hF140 rfl).mono ?_; rintro e w2 ⟨v2, rfl, hw2, hb2⟩; have HB2 := Qb.hid (bl_step HB1.out hb2); obtain ⟨gf, cf, rfl, hgf1, hgf2, hcf, hif⟩ := hw2.isB; have HIF := Qb.hid (And.intro hif (And.intro (Nat.le_trans HB1.out.size hgf1) hgf2)); clear hb2 hw2 hif hgf1 hgf2))
    | (go_at_call 47; go_loud (refine (openBlock_ok (some ⟨g, o2, none⟩) ib.length ib.length ib (ri, ixs R 0 css) _ ((HAL.out.2.2.2.2.below HB2.out HAL.out.2.2.2.2.lt).below ((Below.refl _ _).alloc (Nat.le_refl _) _) (Nat.lt_of_lt_of_le HAL.out.2.2.2.2.lt HB2.out.size)) ((HAL.out.2.1.below HB2.out).below ((Below.refl _ _).alloc (Nat.le_refl _) _)) rfl (Nat.le_refl _) (by have := HNE.out; omega) (by have := HNE.out; omega) (by simp) HQ1.out.1).mono ?_; rintro e w4 ⟨Ki, rfl, hk4, hb4⟩; have HR := Qb.hid (rd_in HB2.out HIF.out.1 HIF.out.2 HAL.out.1 HNE.out.2.2.2.2.2.2.2.2.2.2.1 HAL.out.2.2.2.2 HQ1.out.2.2.1 hk4 hb4 HNE.out.2.2.1 HR1.out HQ1.out.2.2.2.2.2.2.1 HQ1.out.2.2.2.1 HQ1.out.2.2.2.2.1 HQ1.out.2.2.2.2.2.1 HNE.out.2.2.2.2.1 HNE.out.2.2.2.2.2.2.1 HNE.out.2.2.2.2.2.2.2.1 HTG.out); clear hk4 hb4))
    | (go_at_call 46; go_loud (refine (readBlocks_any _ _ _ _ _ _ _ _ _ _ _ _ _ HR.out.1).mono ?_; rintro e w5 ⟨rfl, T2, ps, q1, q2, q3, q4, q5, q6⟩; have HT := Qb.hid (And.intro q1 q2); have HB5 : Hid (Below w.heap.size w w5) := Qb.hid (below_goes HR.out.2 q3 (fun b hb => (by rw [upd_other _ _ (by have := HB2.out.size; omega)]; have := HTG.out.h7 b; omega))); have HTT : Hid (∀ b, b < w.heap.size → T2 b = T b) := Qb.hid (fun b hb => (q3.tag b (Nat.lt_of_lt_of_le hb HR.out.2.size) (by rw [upd_other _ _ (by have := HB2.out.size; omega)]; have := HTG.out.h7 b; omega)).trans (upd_other _ _ (by have := HB2.out.size; omega))); obtain ⟨pv5, fa5, fc5, ob5, _⟩ := q1.ob; rw [HMM.out] at ob5; have y2 := cell_of ob5 2; have y3 := cell_of ob5 3; have y4 := cell_of ob5 4; have y5 := cell_of ob5 5; have y6 := cell_of ob5 6; have y7 := cell_of ob5 7; simp only [tcs, List.getElem?_toArray, List.getElem?_cons_zero, List.getElem?_cons_succ] at y2 y3 y4 y5 y6 y7; have HOB5 := Qb.hid ob5; clear q1 q2 q3 q4 q5 q6 ob5))
    | (go_at_call 48; go_loud ((first | refine (demand_ok _).mono ?_ | (rw [hmd]; refine (demand_ok _).mono ?_)); rintro e w' ⟨rfl, hw⟩; have hw2 := hw.symm; clear hw; subst hw2))
    | (go_at_call 40; go_loud (refine (HFO.out _).mono ?_; rintro e w6 ⟨v6, rfl, ho6, hb6⟩; have HB6 := Qb.hid hb6; obtain ⟨g6, c6, rfl, _, _, _, hi6⟩ := ho6.isB; have HI6 := Qb.hid hi6; have z4 : w6.cell? ⟨w2.heap.size, 4, none⟩ = some (.int .i64 mm.by_) := (hb6.cell (p := ⟨w2.heap.size, 4, none⟩) (Array.getElem?_eq_some_iff.1 HOB5.out).1).trans y4; have f4 : w6.frozen? ⟨w2.heap.size, 4, none⟩ = false := (World.frozen?_of_block (a := ⟨w2.heap.size, 4, none⟩) (hb6.block _ (Array.getElem?_eq_some_iff.1 HOB5.out).1)).trans (froz_of HOB5.out 4); clear ho6 hb6 hi6 y2 y3 y4 y5 y6 y7))
    | (go_at_call 24; go_loud (have HEQ := Qb.hid (equal_any (some ⟨g, o + s, none⟩) (some ⟨g6, 0, none⟩) (fb.length + 5) (fb.length + 5) ft.length c6 ft ft w6 ((HAL.out.2.2.2.1.below HB5.out).below HB6.out) HI6.out HFT.out.symm rfl (by simp) (by simp)); rw [decide_eq_true (rfl : ft = ft)] at HEQ; refine HEQ.out.mono ?_; rintro e w' ⟨rfl, hw⟩; have hw2 := hw.symm; clear hw HEQ; subst hw2)))
  go_ret
  exact rd_out HR.out.2 HB2.out.size HWL.out.1 HWL.out.2 HT.out.1 HT.out.2 HB5.out HB6.out HTT.out

end Tbl
end Go.Proofs.YtnhhalabmmcemaaDoor
