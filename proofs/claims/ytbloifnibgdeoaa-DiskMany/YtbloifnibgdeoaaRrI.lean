import Derived.Test.YtbloifnibgdeoaaRrH
namespace Go.Proofs.Ytbloifnibgdeoaa
namespace Dsk
open Go.RowKit Go.Shelf Go.Maps Go.Sort Byt Laws
set_option linter.unusedVariables false
set_option maxRecDepth 100000
set_option linter.unusedSimpArgs false

/-- What stands in a disk's block stands in another one. -/
theorem fall_done {T S : Nat → Nat} {w W W' : World} {d eb : Nat} {fb : Nat → Nat} {M : Rm} {vf vn vs vc : Value} (hT : T d = 1) (hd : d < w.heap.size) (hge : w.heap.size ≤ eb) (hb : Below w.heap.size w W) (h : Rd S W eb fb M vf vn vs vc) (hlow : ∀ b, b < w.heap.size → S b = 0) (hk : Keep [d] W W') (ht : Fld 10 W' d (rcell M vf vn vs vc)) :
    ∃ T', Rd T' W' d fb M vf vn vs vc ∧ Goes T T' w W' := by
  have hSd : S d = 0 := hlow d hd
  have hSe := h.td
  have hdW : d < W.heap.size := Nat.lt_of_lt_of_le hd hb.size
  have he2 : eb < W.heap.size := h.top.1
  obtain ⟨T', hT'⟩ : ∃ T' : Nat → Nat, T' = fun b => if b = d then 1 else if b = eb then 0 else S b := ⟨_, rfl⟩
  have tg : ∀ x, S x ≠ 0 → S x ≠ 1 → T' x = S x := fun x h1 h2 => by
    rw [hT']; simp only
    rw [if_neg (fun e => by rw [e] at h1; exact h1 hSd), if_neg (fun e => by rw [e] at h2; exact h2 hSe)]
  have hx : ∀ {v : Value} {t : Nat}, 1 < t → (∀ b, v.ownBlock = some b → S b = t) → (∀ b, v.ownBlock = some b → b ∉ [d]) ∧ ∀ b, v.ownBlock = some b → T' b = t := fun h1 hv => ⟨fun b e hm => by
    have h2 := hv b e
    simp at hm
    rw [hm, hSd] at h2
    omega, fun b e => by
    have h2 := hv b e
    rw [tg b (by omega) (by omega)]
    exact h2⟩
  refine ⟨T', ⟨ht, by rw [hT']; simp, fun b hb' => ?_, hk.own h.fls (hx (by omega) h.tf).1, (hx (by omega) h.tf).2, hk.own h.dir (hx (by omega) h.tn).1, (hx (by omega) h.tn).2, hk.own h.sur (hx (by omega) h.ts).1, (hx (by omega) h.ts).2, hk.own h.chg (hx (by omega) h.tc).1, (hx (by omega) h.tc).2, fun i f hf => ?_, h.rises, h.risesS, h.ids, h.idsS, h.room, h.most, h.mostS, h.mostF, h.rok⟩, ?_⟩
  · have hs := hk.size
    rw [hT']; simp only
    rw [if_neg (by omega), if_neg (by omega)]
    exact h.fresh b (by omega)
  · obtain ⟨a, c, hf⟩ := h.file i f hf
    have hf' : FileAt T' W (fb i) i f a c := ⟨by rw [tg _ (by rw [hf.tag]; omega) (by rw [hf.tag]; omega)]; exact hf.tag, hf.fld, hf.own, fun ad e => by have z := hf.mine ad e; rw [tg _ (by rw [z]; omega) (by rw [z]; omega)]; exact z, hf.sure, hf.big⟩
    have hTd : T' d = 1 := by rw [hT']; simp
    exact ⟨a, c, hf'.keep hk (fun x hx => by simp at hx; subst hx; rw [hTd]; omega) (fun x hx => by simp at hx; subst hx; rw [hTd]; omega)⟩
  · refine ⟨hk.os.trans hb.os, hk.tape.trans hb.tape, hk.output.trans hb.output, Nat.le_trans hb.size hk.size, fun b hlt h0 => ⟨(hk.block b (Nat.lt_of_lt_of_le hlt hb.size) (fun hm => ?_)).trans (hb.block b hlt), ?_⟩⟩
    · simp at hm
      rw [hm, hT] at h0
      omega
    · rw [hT']; simp only
      rw [if_neg (fun e => by rw [e, hT] at h0; omega), if_neg (by omega)]
      exact hlow b hlt
theorem low_of {w wr : World} {eb room L cl k kn : Nat} {IM : List Fi} {rs : List (Key × Nat)} {al : Option Addr} {ds : List (Option Addr × Nat)} {S : Nat → Nat} {fb : Nat → Nat} {vf vn : Value} (h : FallI w eb room L IM rs al cl ds k kn S fb vf vn wr) (hk : k ≤ IM.length) : ∀ b, b < w.heap.size → S b = 0 := fun b hb => by
  refine Decidable.byContradiction fun hn => ?_
  obtain ⟨j, x, ad, hj, hx, e, e2⟩ := h.low b (Nat.lt_of_lt_of_le hb h.ge) hn
  have := ((h.fa.data j _ x (List.getElem?_eq_getElem (by omega)) hx).1.row.lt ad.block (by rw [e]; rfl)).1
  omega

set_option maxHeartbeats 4000000 in
theorem rfall_any {T : Nat → Nat} {w : World} {d : Nat} {m : Rm} (h : Re T w d m) (hch : m.ch.length ≤ 900000) (hkd : ∀ c ∈ m.ch, c.kind = 1 ∨ c.kind = 2 ∨ c.kind = 3) (dir : Int) (hdir : dir ≤ 9223372036854775807) (hids : ∀ p ∈ m.rest dir, p.2 < m.fl.length) (hrl : (m.rest dir).length ≤ 8999998) (ak : Option Addr) (ck : Nat) (ks : List Int) (hk : IntsAt w ak ks) (hck : ks.length ≤ ck) (hck2 : ck ≤ 9223372036854775807) (hkw : ∀ x ∈ ks, x ≤ 9223372036854775807) :
    Calls Try.prog 22 #[.pointer (some ⟨d, 0, none⟩), .int .i64 dir, .slice ak ks.length ck] w fun e w' => e = .returned (.tuple #[]) ∧ ∃ T', Re T' w' d (m.fall dir ks) ∧ Goes T T' w w' := by
  have HIMG : Hid (Calls Try.prog 18 #[.pointer (some ⟨d, 0, none⟩), .int .i64 dir, .slice ak ks.length ck] w fun e w' => ∃ v ds, e = .returned v ∧ FilesAt w.heap.size w' v (m.image dir ks) ds ∧ Below w.heap.size w w' ∧ Inc ds w') := rimage_any h hch hkd dir hdir hids ak ck ks hk hck hck2 hkw
  obtain ⟨fb0, vf0, vn0, vs0, vc0, h⟩ := h
  obtain ⟨i4, hi4, x0, x1, x2⟩ := info_parts infoE
  obtain ⟨iP, hiP, y0, y1, y2⟩ := info_parts infoPG
  have HH : Hid (Rd T w d fb0 m vf0 vn0 vs0 vc0) := h
  have HRS : Hid (Rises (m.rest dir)) := (dk_facts h.risesS _).1
  have HIML : Hid ((m.image dir ks).length = (m.rest dir).length) := by show _ = _; rw [Rm.image, told_length]
  have HBIG : Hid (∀ (k : Nat) (p : Key × Nat), (m.rest dir)[k]? = some p → ∃ f, (m.image dir ks)[k]? = some f ∧ f.name = ofK p.1 ∧ f.sure = f.data.length ∧ f.data.length ≤ 2147483648) := fun k p hp => by
    obtain ⟨g, hg⟩ : ∃ g, m.fl[p.2]? = some g := ⟨_, List.getElem?_eq_getElem (hids p (List.mem_of_getElem? hp))⟩
    obtain ⟨a, c, hfa⟩ := h.file _ _ hg
    refine ⟨_, told_get hp, rfl, rfl, ?_⟩
    show (leftD m.fl p.2 (amongN ks k)).length ≤ _
    have := hfa.big
    simp only [leftD, dataOf, hg, Option.map_some, Option.getD_some, List.length_take]
    omega
  have HROOM : Hid (m.room ≤ 9223372036854775807) := h.room
  have HFALL : Hid (m.fall dir ks = ⟨Rig.zero, m.room, fls (m.image dir ks), nos (m.rest dir), nos (m.rest dir), [], false⟩) := rfl
  obtain ⟨L, hL⟩ : ∃ L, (m.rest dir).length = L := ⟨_, rfl⟩
  have HL : Hid ((m.rest dir).length = L) := hL
  rw [hL] at HIML hrl
  have hdlt : d < w.heap.size := h.top.1
  clear h hk hkw hids hkd hL hch hck hck2
  rw [HFALL.out]
  generalize m.image dir ks = IM at *
  generalize m.rest dir = rs at *
  clear HFALL
  go_enter Try.func22, Try.ntmps22
  go_upto_region 2 with (go_at_call 18; refine Calls.mono HIMG.out ?_; rintro e w1 ⟨v1, ds, rfl, hf1, hb1, hi1⟩; obtain ⟨al, cl, rfl⟩ := own_slice hf1.row; rw [HIML.out]; have H1 : Hid (FilesAt w.heap.size w1 (.slice al L cl) IM ds ∧ Below w.heap.size w w1 ∧ Inc ds w1) := ⟨(by have z := hf1; rw [HIML.out] at z; exact z), hb1, hi1⟩; have t0 : w1.cell? ⟨d, 0, none⟩ = some (.int .i64 (m.room : Nat)) := ((HH.out.below hb1).top.2 0 (by omega)).1; clear hf1 hb1 hi1)
  have HAL : Hid (∀ ad, al = some ad → ad.block < w1.heap.size) := fun ad e => (H1.out.1.row.lt ad.block (by rw [e]; rfl)).2
  have HF0 : Hid (FallI w w1.heap.size m.room L IM rs al cl ds 0 0 (upd (fun _ => 0) w1.heap.size 1) (fun _ => 0) (.slice none 0 0) (.slice none 0 0) (w1.alloc (.cells #[.int .i64 m.room, .slice none 0 0, .slice none 0 0, .slice none 0 0, .slice none 0 0, .int .i64 0, .int .i64 0, .int .i64 0, .int .i64 0, .bool false] 95))) := ⟨(rn_first w1 m.room HROOM.out).rd, H1.out.1.below ((Below.refl _ _).alloc (Nat.le_refl _) _), fun b hb hn => absurd (upd_other _ _ (by omega)) hn, H1.out.2.1.trans (((Below.refl w1.heap.size w1).alloc (Nat.le_refl _) _).mono H1.out.2.1.size), H1.out.2.1.size, fun b e => (by cases e), fun b e => (by cases e)⟩
  have HINC : Hid (Inc ds w1) := H1.out.2.2
  clear t0
  obtain ⟨eb, hebe⟩ : ∃ eb, w1.heap.size = eb := ⟨_, rfl⟩
  have HEB : Hid (w1.heap.size = eb) := hebe
  rw [hebe] at HAL HF0 ⊢
  clear hebe H1
  generalize w1.alloc (.cells #[.int .i64 m.room, .slice none 0 0, .slice none 0 0, .slice none 0 0, .slice none 0 0, .int .i64 0, .int .i64 0, .int .i64 0, .int .i64 0, .bool false] 95) = W0 at *
  go_wp2_with fail
  go_loopw [8] (fun iv wr => ∃ (k : Nat) (S : Nat → Nat) (fb : Nat → Nat) (vf vn : Value), k ≤ L ∧ iv = .int .i64 (k : Int) ∧ Hid (FallI w eb m.room L IM rs al cl ds k k S fb vf vn wr)) (fun iv _ => L - (intOf iv).toNat)
  case atStart => exact ⟨0, _, _, _, _, Nat.zero_le _, rfl, HF0.out⟩
  case round =>
    clear HF0
    obtain ⟨k, S, fb, vf, vn, hk, rfl, F⟩ := hrel
    rename World => W
    by_cases hlt : k < L
    · have hlt' : (k : Int) < (L : Int) := by omega
      obtain ⟨p, hp⟩ : ∃ p, rs[k]? = some p := ⟨_, List.getElem?_eq_getElem (by rw [HL.out]; exact hlt)⟩
      obtain ⟨f, hf, hfn, hfs, hfb⟩ := HBIG.out k p hp
      obtain ⟨x, hx⟩ : ∃ x, ds[k]? = some x := ⟨_, List.getElem?_eq_getElem (by rw [F.out.fa.len, HIML.out]; exact hlt)⟩
      have HP : Hid (rs[k]? = some p ∧ IM[k]? = some f ∧ ds[k]? = some x ∧ f.name = ofK p.1 ∧ f.sure = f.data.length ∧ f.data.length ≤ 2147483648) := ⟨hp, hf, hx, hfn, hfs, hfb⟩
      have hfls := F.out.rd.fls
      rw [show (⟨Rig.zero, m.room, fls (IM.take k), nos (rs.take k), [], [], false⟩ : Rm).fl.length = k from fls_len (by rw [HIML.out]; exact hk)] at hfls
      obtain ⟨af, cf, rfl⟩ := own_slice hfls
      have hdirr := F.out.rd.dir
      rw [show (⟨Rig.zero, m.room, fls (IM.take k), nos (rs.take k), [], [], false⟩ : Rm).now.length = k from by show (nos (rs.take k)).length = k; rw [nos_length, List.length_take, HL.out]; omega] at hdirr
      obtain ⟨an, cn, rfl⟩ := own_slice hdirr
      obtain ⟨gl, capl, eql, q1, q2, c0, c1, c2⟩ := F.out.fa.cells hf hx
      obtain ⟨rfl, hzz, rfl⟩ := Value.slice.inj eql
      clear hzz
      rw [HIML.out] at q1
      have HFR : Hid (W.ownsRow 0 96 1 (.slice af k cf) k (ptrRow fb k)) := hfls
      have t1 : W.cell? ⟨eb, 1, none⟩ = some (.slice af k cf) := (F.out.rd.top.2 1 (by omega)).1
      have he9 : eb < W.heap.size := F.out.rd.top.1
      have hgl9 : gl < W.heap.size := Nat.lt_trans (HAL.out _ rfl) he9
      have HDT : Hid (eb ∉ (Value.slice af k cf).ownBlock.toList) := fun hm => by have h0 : (Value.slice af k cf).ownBlock = some eb := (by simpa using hm); have h1 := F.out.rd.tf eb h0; have := F.out.rd.td; omega
      clear hp hf hx hfn hfls hdirr eql hfs hfb
      go_wp2_with fail
      go_region_law (go_loud (refine step_app _ (by rfl) (.tmp 29) (.tmp 42) 91 (by rfl) 0 96 iP _ 1 8 Try.underlying91 hiP y0 y1 y2 rfl (by omega) (.slice af k cf) k (ptrRow fb k) (by rfl) (((Keep.alloc [] W.drew _).trans (Keep.alloc [] _ _)).own ((Keep.below (bs := []) (Below.refl _ _).drew).own HFR.out (by simp)) (by simp)) ⟨W.heap.size + 1, 0, none⟩ 1 1 [.pointer (some ⟨W.heap.size, 0, none⟩)] (by rfl) (by rfl) (news_2 W.drew _ _ _) (by intro u hu; simp at hu; subst hu; rfl) (by intro _; omega) (by unfold maxLen; omega) (by omega) (Nat.zero_le _) (W.heap.size + 2) (by simp) ?_; intro g7 c7 w7 hown7 hgr7 hat7 hlt7; have H7 : Hid (∃ S', FallI w eb m.room L IM rs (some ⟨gl, 0, none⟩) cl ds (k + 1) k S' (upd fb k W.heap.size) (.slice (some ⟨g7, 0, none⟩) (k + 1) c7) (.slice an k cn) (w7.setCell ⟨eb, 1, none⟩ (.slice (some ⟨g7, 0, none⟩) (k + 1) c7))) := F.out.file (f := f) (x := x) HINC.out HEB.out HAL.out HP.out.2.1 HP.out.2.2.1 (by omega) (by rw [HP.out.2.2.2.2.1]; exact Nat.le_refl _) HP.out.2.2.2.2.2 (((Keep.below (bs := []) (Below.refl W.heap.size W).drew).trans (Keep.alloc [] W.drew _)).trans (Keep.alloc [] _ _)) (by simp; omega) ((Below.heap_alloc _ _ _ (by simp)).trans (heap_alloc_new W.drew _)) hown7 hgr7 (hat7.imp id (by intro e; omega)); obtain ⟨u1, u1'⟩ := (F.out.rd.top.keep ((((Keep.below (bs := []) (Below.refl W.heap.size W).drew).mono (by simp)).trans ((Keep.alloc (Value.slice af k cf).ownBlock.toList W.drew _).trans (Keep.alloc _ _ _))).trans (Keep.grown hgr7)) HDT.out).2 1 (by omega); simp only [rcell] at u1; clear hown7 hgr7 hat7 hlt7))
      all_goals (
        clear u1 u1' t1 c0 c1 c2 hgl9 he9
        generalize w7.setCell ⟨eb, 1, none⟩ (.slice (some ⟨g7, 0, none⟩) (k + 1) c7) = W5 at *
        generalize upd fb k W.heap.size = fb5 at *
        obtain ⟨S5, F5⟩ := H7.out
        have HF5 : Hid (FallI w eb m.room L IM rs (some ⟨gl, 0, none⟩) cl ds (k + 1) k S5 fb5 (.slice (some ⟨g7, 0, none⟩) (k + 1) c7) (.slice an k cn) W5) := F5
        clear F5 H7
        obtain ⟨gl2, cap2, eq2, zz1, zz2, c0, zz3, zz4⟩ := HF5.out.fa.cells HP.out.2.1 HP.out.2.2.1
        obtain ⟨e1, zz5, zz6⟩ := Value.slice.inj eq2
        cases e1
        rw [HP.out.2.2.2.1] at c0
        clear eq2 zz1 zz2 zz3 zz4 zz5 zz6
        have hdirr := HF5.out.rd.dir
        rw [show (⟨Rig.zero, m.room, fls (IM.take (k + 1)), nos (rs.take k), [], [], false⟩ : Rm).now.length = k from by show (nos (rs.take k)).length = k; rw [nos_length, List.length_take, HL.out]; omega] at hdirr
        have HDR : Hid (W5.ownsRow 0 98 2 (.slice an k cn) k (enRow (nos (rs.take k)))) := hdirr
        have t2 : W5.cell? ⟨eb, 2, none⟩ = some (.slice an k cn) := (HF5.out.rd.top.2 2 (by omega)).1
        have he9 : eb < W5.heap.size := HF5.out.rd.top.1
        have hgl9 : gl < W5.heap.size := Nat.lt_trans (HAL.out _ rfl) he9
        have HDT2 : Hid (eb ∉ (Value.slice an k cn).ownBlock.toList) := fun hm => by have h0 : (Value.slice an k cn).ownBlock = some eb := (by simpa using hm); have h1 := HF5.out.rd.tn eb h0; have := HF5.out.rd.td; omega
        clear hdirr
        go_wp2_with fail
        go_region_law (go_loud (refine step_app _ (by rfl) (.tmp 50) (.tmp 58) 92 (by rfl) 0 98 i4 _ 2 24 Try.underlying92 hi4 x0 x1 x2 rfl (by omega) (.slice an k cn) k (enRow (nos (rs.take k))) (by rfl) ((Keep.alloc [] W5.drew _).own ((Keep.below (bs := []) (Below.refl _ _).drew).own HDR.out (by simp)) (by simp)) ⟨W5.heap.size, 0, none⟩ 1 1 [.string (ofK p.1), .int .i64 (k : Nat)] (by rfl) (by rfl) (World.news_of_block (heap_alloc_new W5.drew _)) (by intro u hu; simp at hu; rcases hu with rfl | rfl <;> rfl) (by intro _; omega) (by unfold maxLen; omega) (by omega) (Nat.zero_le _) (W5.heap.size + 1) (by simp) ?_; intro g8 c8 w8 hown8 hgr8 hat8 hlt8; have k8 : Keep (Value.slice an k cn).ownBlock.toList W5 w8 := (((Keep.below (bs := []) (Below.refl W5.heap.size W5).drew).mono (by simp)).trans (Keep.alloc (Value.slice an k cn).ownBlock.toList W5.drew _)).trans (Keep.grown hgr8); have H8 : Hid (∃ S', FallI w eb m.room L IM rs (some ⟨gl, 0, none⟩) cl ds (k + 1) (k + 1) S' fb5 (.slice (some ⟨g7, 0, none⟩) (k + 1) c7) (.slice (some ⟨g8, 0, none⟩) (k + 1) c8) (w8.setCell ⟨eb, 2, none⟩ (.slice (some ⟨g8, 0, none⟩) (k + 1) c8))) := HF5.out.name (p := p) HINC.out HEB.out HAL.out (by rw [HIML.out]; exact hlt) HP.out.1 HRS.out (by omega) hown8 k8 (hat8.imp id (by intro e; omega)); obtain ⟨u2, u2'⟩ := (HF5.out.rd.top.keep k8 HDT2.out).2 2 (by omega); simp only [rcell] at u2; clear hown8 hgr8 hat8 hlt8 k8))
        all_goals (
          go_wp2
          obtain ⟨S9, F9⟩ := H8.out
          go_roundw
          case rel => exact ⟨k + 1, S9, fb5, _, _, by omega, by go_num, F9⟩
          case measure => simp [intOf]; omega))
    · have hk' : k = L := by omega
      subst hk'
      have e1 : IM.take k = IM := List.take_of_length_le (by rw [HIML.out]; exact Nat.le_refl _)
      have e2 : rs.take k = rs := List.take_of_length_le (by rw [HL.out]; exact Nat.le_refl _)
      have hrd := F.out.rd
      rw [e1, e2] at hrd
      have HRD : Hid (Rd S W eb fb ⟨Rig.zero, m.room, fls IM, nos rs, [], [], false⟩ vf vn (.slice none 0 0) (.slice none 0 0)) := hrd
      have HLOW : Hid (∀ b, b < w.heap.size → S b = 0) := low_of F.out (by rw [HIML.out]; exact Nat.le_refl _)
      have hnl : (⟨Rig.zero, m.room, fls IM, nos rs, [], [], false⟩ : Rm).now.length = k := by show (nos rs).length = k; rw [nos_length, HL.out]
      obtain ⟨an, cn, rfl⟩ := own_slice hrd.dir
      rw [hnl] at HRD
      have t2 : W.cell? ⟨eb, 2, none⟩ = some (.slice an k cn) := (HRD.out.top.2 2 (by omega)).1
      have HTW : Hid (Calls Try.prog 58 #[.slice an k cn] W fun e w' => ∃ v', e = .returned v' ∧ w'.ownsRow W.heap.size 98 2 v' k (enRow (nos rs)) ∧ Below W.heap.size W w') := by
        have z := HRD.out.dir
        rw [hnl] at z
        exact rtwin_any 0 (.slice an k cn) k (nos rs) W z (by omega)
      clear hrd e1 e2
      go_upto_region 8 with (go_at_call 58; refine HTW.out.mono ?_; rintro e w2 ⟨v2, rfl, h2, b2⟩; obtain ⟨a2, c2, rfl⟩ := own_slice h2; obtain ⟨u3, u3'⟩ := ((HRD.out.below b2).top.2 3 (by omega)); simp only [rcell] at u3; have H2 : Hid (w2.ownsRow W.heap.size 98 2 (.slice a2 k c2) k (enRow (nos rs)) ∧ Below W.heap.size W w2) := ⟨h2, b2⟩; clear h2 b2)
      have hsu := HRD.out.sured2 (w2 := w2) (v' := .slice a2 k c2) (by rw [hnl]; exact H2.out.1) H2.out.2
      obtain ⟨S6, h6, g6⟩ := hsu
      have HBL : Hid (Below w.heap.size w (w2.setCell ⟨eb, 3, none⟩ (.slice a2 k c2))) := below_keep (F.out.below.trans (H2.out.2.mono F.out.below.size)) (Keep.set w2 eb 3 (.slice a2 k c2)) (fun b hb => by simp at hb; subst hb; exact F.out.ge)
      have HL6 : Hid (∀ b, b < w.heap.size → S6 b = 0) := fun b hb => (g6.block b (Nat.lt_of_lt_of_le hb F.out.below.size) (HLOW.out b hb)).2
      obtain ⟨af, cf, rfl⟩ := own_slice h6.fls
      have H6 : Hid (Rd S6 (w2.setCell ⟨eb, 3, none⟩ (.slice a2 k c2)) eb fb ⟨Rig.zero, m.room, fls IM, nos rs, nos rs, [], false⟩ _ (.slice an k cn) (.slice a2 k c2) (.slice none 0 0)) := h6
      have HGE : Hid (w.heap.size ≤ eb) := F.out.ge
      clear h6 g6 u3 u3' H2 HRD F HLOW HTW hnl t2
      generalize w2.setCell ⟨eb, 3, none⟩ (.slice a2 k c2) = W6 at *
      have HD : Hid (Fld 10 W6 d (rcell m vf0 vn0 vs0 vc0)) := (HH.out.below HBL.out).top
      have e0 := (H6.out.top.2 0 (by omega)).1
      have e1 := (H6.out.top.2 1 (by omega)).1
      have e2 := (H6.out.top.2 2 (by omega)).1
      have e3 := (H6.out.top.2 3 (by omega)).1
      have e4 := (H6.out.top.2 4 (by omega)).1
      have e5 := (H6.out.top.2 5 (by omega)).1
      have e6 := (H6.out.top.2 6 (by omega)).1
      have e7 := (H6.out.top.2 7 (by omega)).1
      have e8 := (H6.out.top.2 8 (by omega)).1
      have e9 := (H6.out.top.2 9 (by omega)).1
      obtain ⟨d0, f0⟩ := HD.out.2 0 (by omega)
      obtain ⟨d1, f1⟩ := HD.out.2 1 (by omega)
      obtain ⟨d2, f2⟩ := HD.out.2 2 (by omega)
      obtain ⟨d3, f3⟩ := HD.out.2 3 (by omega)
      obtain ⟨d4, f4⟩ := HD.out.2 4 (by omega)
      obtain ⟨d5, f5⟩ := HD.out.2 5 (by omega)
      obtain ⟨d6, f6⟩ := HD.out.2 6 (by omega)
      obtain ⟨d7, f7⟩ := HD.out.2 7 (by omega)
      obtain ⟨d8, f8⟩ := HD.out.2 8 (by omega)
      obtain ⟨d9, f9⟩ := HD.out.2 9 (by omega)
      simp only [rcell] at e0 e1 e2 e3 e4 e5 e6 e7 e8 e9 d0 d1 d2 d3 d4 d5 d6 d7 d8 d9
      go_wp2
      go_end0
      refine ⟨rfl, ?_⟩
      obtain ⟨T', r1, r2⟩ := fall_done HH.out.td hdlt HGE.out HBL.out H6.out HL6.out ((((((((((Keep.set W6 d 0 (.int .i64 (m.room : Nat))).trans (Keep.set _ d 1 (.slice af (fls IM).length cf))).trans (Keep.set _ d 2 (.slice an k cn))).trans (Keep.set _ d 3 (.slice a2 k c2))).trans (Keep.set _ d 4 (.slice none 0 0))).trans (Keep.set _ d 5 (.int .i64 0))).trans (Keep.set _ d 6 (.int .i64 0))).trans (Keep.set _ d 7 (.int .i64 0))).trans (Keep.set _ d 8 (.int .i64 0))).trans (Keep.set _ d 9 (.bool false))) (((((((((((HD.out.set 0 (by omega) (.int .i64 (m.room : Nat))).set 1 (by omega) (.slice af (fls IM).length cf)).set 2 (by omega) (.slice an k cn)).set 3 (by omega) (.slice a2 k c2)).set 4 (by omega) (.slice none 0 0)).set 5 (by omega) (.int .i64 0)).set 6 (by omega) (.int .i64 0)).set 7 (by omega) (.int .i64 0)).set 8 (by omega) (.int .i64 0)).set 9 (by omega) (.bool false)).eq (ten rfl rfl rfl rfl rfl rfl rfl rfl rfl rfl))
      exact ⟨T', Re.of r1, r2⟩
end Dsk
end Go.Proofs.Ytbloifnibgdeoaa
