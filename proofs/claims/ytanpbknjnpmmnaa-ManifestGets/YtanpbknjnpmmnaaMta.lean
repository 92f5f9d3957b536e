import Derived.Test.YtanpbknjnpmmnaaMt9
import Derived.Deep.DeepCutAuto
import Derived.Deep.RegionLaw
namespace Go.Proofs.Ytanpbknjnpmmnaa
namespace Mnf
open Go.RowKit CMath Byt Cod Crw Irw Laws
set_option linter.unusedVariables false
set_option linter.unusedSimpArgs false
set_option maxRecDepth 20000
theorem fit_no {l : List Nat} {last : Bool} {ed : Ed} (h : recA l = some (last, ed)) (hf : fitR last ed = false) : rdRec l = none := by
  rw [rdRec_A, h]
  simp [hf]
theorem fit_yes {l : List Nat} {last : Bool} {ed : Ed} (h : recA l = some (last, ed)) (hf : fitR last ed = true) : rdRec l = some (last, ed) := by
  rw [rdRec_A, h]
  simp [hf]
theorem fol_no {b r : Ed} (hb : 0 < tabs b) (h : ¬ (0 < tabs r ∧ r.log = b.log ∧ r.nxt = b.nxt ∧ r.seq = b.seq ∧ (b.inn.length = 0 ∨ r.out.length = 0))) : follows b r = false := by
  cases hf : follows b r with
  | false => rfl
  | true =>
    exfalso
    apply h
    unfold follows same3 at hf
    simp only [Bool.or_eq_true, Bool.and_eq_true, decide_eq_true_eq] at hf
    rcases hf with hf | ⟨⟨h1, h2, h3⟩, h4, h5⟩
    · omega
    · exact ⟨h4, h1, h2, h3, h5⟩
theorem fol_yes {b r : Ed} (h1 : 0 < tabs r) (h2 : r.log = b.log) (h3 : r.nxt = b.nxt) (h4 : r.seq = b.seq) (h5 : b.inn.length = 0 ∨ r.out.length = 0) : follows b r = true := by
  unfold follows same3
  rw [decide_eq_true h1, decide_eq_true h2, decide_eq_true h3, decide_eq_true h4]
  rcases h5 with h5 | h5 <;> rw [decide_eq_true h5] <;> simp
theorem fit_iff {last : Bool} {ed : Ed} : fitR last ed = true ↔ (tabs ed ≤ 256 ∧ (last = true ∨ (tabs ed = 256 ∧ ed.ptr.length = 0))) := by
  unfold fitR
  simp only [Bool.and_eq_true, Bool.or_eq_true, decide_eq_true_eq]
theorem fit_neg {last : Bool} {ed : Ed} (h : ¬ (tabs ed ≤ 256 ∧ (last = true ∨ (tabs ed = 256 ∧ ed.ptr.length = 0)))) : fitR last ed = false := by
  cases hf : fitR last ed with
  | false => rfl
  | true => exact absurd (fit_iff.1 hf) h
theorem fol_first (r : Ed) : follows noE r = true := by
  unfold follows
  simp [tabs, noE]
theorem join_new (r : Ed) (x y z : Nat) : joinE ⟨x, y, z, [], [], []⟩ r = joinE noE r := rfl
set_option maxHeartbeats 8000000 in
theorem rget_any (a : Option Addr) (n c : Nat) (recs : List (List Nat)) (w : World) (h : IsD w a recs) (hn : recs.length = n) (hmx : n ≤ 1000000) :
    Calls Try.prog 6 #[.slice a n c] w fun e w' => GtIs (gets recs noE) w e w' := by
  obtain ⟨ez, hez, ez0, ez1, ez2⟩ := info_parts infoE
  obtain ⟨iz, hiz, hz0, hz1, hz2⟩ := info_parts infoPl
  obtain ⟨jz, hjz, jz0, jz1, jz2⟩ := info_parts infoPd
  have HD := hid9 h
  have HN := hid9 hn
  clear h hn
  go_enter Try.func6, Try.ntmps6
  go_wp2
  have HS0 := hid9 (Gf.start w)
  generalize hW0 : w.alloc (.cells #[.int .u64 0, .int .u64 0, .int .u64 0, .slice none 0 0, .slice none 0 0, .slice none 0 0] 61) = W0 at *
  clear hW0
  go_loopw [4, 6, 7] (fun s4 f i wr => ∃ (k : Nat) (T : Nat → Nat) (es : List Ed) (s : Sv) (fst : Bool) (b : Ed) (o i2 p : Sv), k ≤ n ∧ s4 = .slice s.1 s.2.1 s.2.2 ∧ f = .bool fst ∧ i = .int .i64 (k : Int) ∧ (b.out.length ≤ 256 * k ∧ b.inn.length ≤ 256 * k ∧ es.length ≤ k) ∧ Hid ((fst = true ∧ b = noE ∧ Gf w T wr es s ∧ Gk recs k b es) ∨ (fst = false ∧ Gs w T wr b es s o i2 p ∧ 0 < tabs b ∧ Gk recs k b es))) (fun _ _ i _ => n - (intOf i).toNat)
  case atStart => exact ⟨0, _, [], nS, true, noE, nS, nS, nS, by omega, rfl, rfl, rfl, ⟨by simp [noE], by simp [noE], by simp⟩, .inl ⟨rfl, rfl, HS0.out, Gk.start _⟩⟩
  case round =>
    clear HS0
    obtain ⟨k, T, es, s, fst, b, o, i, p, hk, rfl, rfl, rfl, hbd, HX⟩ := hrel
    by_cases hlt : k < n
    · have q1 : (k : Int) < (n : Int) := by omega
      rcases HX.out with ⟨rfl, rfl, hgf, hgk⟩ | ⟨rfl, hgs, htb, hgk⟩
      · clear HX
        have hkl : k < recs.length := by rw [HN.out]; exact hlt
        obtain ⟨rb, roff, ra, rc, r, rfl, hx, hbl, c0, hi1, hn1, hl1, hm1⟩ := (HD.out.below hgf.old.below).at_ hkl
        have HR := hid9 hx
        have HGF := hid9 hgf
        have HGK := hid9 hgk
        have HC := hid9 (record_any ra rc r.length r wr hi1 rfl hl1 hm1)
        clear hx hkl hi1 hn1 hgf hgk
        cases hrd : recA r with
        | none =>
          have HNO := hid9 (show rdRec r = none by rw [rdRec_A, hrd]; rfl)
          have HRD := hid9 hrd
          clear hrd
          go_wp2_with fail
          refine HC.out.mono ?_
          rintro e w1 ⟨hb1, hp⟩
          have he : e = .returned (.tuple #[.bool false, evV 0 0 0 nS nS nS, .bool false]) := by
            rcases hp with ⟨last, ed, o', i', p', hq, _⟩ | ⟨_, he⟩
            · rw [HRD.out] at hq; cases hq
            · exact he
          subst he
          unfold evV nS
          dsimp only
          have HBB := hid9 (HGF.out.old.below.trans (hb1.mono HGF.out.old.below.size))
          clear hb1 hp
          have HG := hid9 (HGK.out.no HR.out (.inl HNO.out))
          go_wp2_with fail
          go_ret2
          exact .inr ⟨HG.out, rfl, HBB.out.alloc HBB.out.size _⟩
        | some y =>
          obtain ⟨last, ed⟩ := y
          obtain ⟨le1, le2, le3⟩ := recA_le hrd
          have HRD := hid9 hrd
          clear hrd
          go_wp2_with fail
          refine HC.out.mono ?_
          rintro e w1 ⟨hb1, hp⟩
          have hq9 : ∃ o' i' p', e = .returned (.tuple #[.bool last, evV ed.log ed.nxt ed.seq o' i' p', .bool true]) ∧ Nl kPl wr w1 o' ed.out ∧ Nl kPd wr w1 i' ed.inn ∧ Nl kT wr w1 p' ed.ptr := by
            rcases hp with ⟨last', ed', o', i', p', hq, he, h1, h2, h3⟩ | ⟨hq, _⟩
            · rw [HRD.out] at hq
              cases hq
              exact ⟨o', i', p', he, h1, h2, h3⟩
            · rw [HRD.out] at hq; cases hq
          obtain ⟨⟨oa, on, oc⟩, ⟨ia, ni, ic⟩, ⟨pa, np, pc⟩, he, h1, h2, h3⟩ := hq9
          subst he
          obtain rfl : on = ed.out.length := h1.2.1
          obtain rfl : ni = ed.inn.length := h2.2.1
          obtain rfl : np = ed.ptr.length := h3.2.1
          unfold evV
          dsimp only
          have HBB := hid9 (HGF.out.old.below.trans (hb1.mono HGF.out.old.below.size))
          have HF1 := hid9 (HGF.out.below hb1)
          have HL := hid9 (And.intro (h1.isk HGF.out.high) (And.intro (h2.isk HGF.out.high) (h3.isk HGF.out.high)))
          clear hb1 hp h1 h2 h3 HGF HC
          by_cases h256 : ed.out.length + ed.inn.length ≤ 256
          · have z1 : ¬ (256 : Int) < (ed.out.length : Int) + (ed.inn.length : Int) := by omega
            cases last with
            | true =>
              have HFT := hid9 (fit_yes HRD.out (fit_iff.2 ⟨by unfold tabs; omega, .inl rfl⟩))
              have hb2 := (Below.refl w1.heap.size w1).alloc (Nat.le_refl _) (.cells #[.int .u64 (ed.log : Int), .int .u64 (ed.nxt : Int), .int .u64 (ed.seq : Int), .slice oa ed.out.length oc, .slice ia ed.inn.length ic, .slice pa ed.ptr.length pc] 61)
              have HF2 := hid9 (HF1.out.below hb2)
              have HX2 := hid9 (Zb.new w1 #[.int .u64 (ed.log : Int), .int .u64 (ed.nxt : Int), .int .u64 (ed.seq : Int), .slice oa ed.out.length oc, .slice ia ed.inn.length ic, .slice pa ed.ptr.length pc] 61)
              have HL2 := hid9 (And.intro (HL.out.1.below hb2) (And.intro (HL.out.2.1.below hb2) (HL.out.2.2.below hb2)))
              have hX0 : T w1.heap.size = 0 := HF1.out.high _ (Nat.le_refl _)
              have hXN : w1.heap.size ≠ w.heap.size := fun e => by have := HF1.out.tag; rw [← e, hX0] at this; cases this
              have g2 := Goes.sets (t := (· = 2)) (T := T) (B := w.heap.size) HF2.out.tag [.int .u64 (ed.log : Int), .int .u64 (ed.nxt : Int), .int .u64 (ed.seq : Int), .slice none 0 0, .slice none 0 0, .slice none 0 0] (w1.alloc (.cells #[.int .u64 (ed.log : Int), .int .u64 (ed.nxt : Int), .int .u64 (ed.seq : Int), .slice oa ed.out.length oc, .slice ia ed.inn.length ic, .slice pa ed.ptr.length pc] 61)) 0
              obtain ⟨b, hb⟩ : ∃ b : Ed, b = ⟨ed.log, ed.nxt, ed.seq, [], [], []⟩ := ⟨_, rfl⟩
              obtain ⟨nn, hnn⟩ : ∃ nn : Sv, nn = nS := ⟨_, rfl⟩
              have HQ : Hid (Gs w T (((((((w1.alloc (.cells #[.int .u64 (ed.log : Int), .int .u64 (ed.nxt : Int), .int .u64 (ed.seq : Int), .slice oa ed.out.length oc, .slice ia ed.inn.length ic, .slice pa ed.ptr.length pc] 61)).setCell ⟨w.heap.size, 0, none⟩ (.int .u64 (ed.log : Int))).setCell ⟨w.heap.size, 1, none⟩ (.int .u64 (ed.nxt : Int))).setCell ⟨w.heap.size, 2, none⟩ (.int .u64 (ed.seq : Int))).setCell ⟨w.heap.size, 3, none⟩ (.slice none 0 0)).setCell ⟨w.heap.size, 4, none⟩ (.slice none 0 0)).setCell ⟨w.heap.size, 5, none⟩ (.slice none 0 0)) b es s nn nn nn ∧ Zb (((((((w1.alloc (.cells #[.int .u64 (ed.log : Int), .int .u64 (ed.nxt : Int), .int .u64 (ed.seq : Int), .slice oa ed.out.length oc, .slice ia ed.inn.length ic, .slice pa ed.ptr.length pc] 61)).setCell ⟨w.heap.size, 0, none⟩ (.int .u64 (ed.log : Int))).setCell ⟨w.heap.size, 1, none⟩ (.int .u64 (ed.nxt : Int))).setCell ⟨w.heap.size, 2, none⟩ (.int .u64 (ed.seq : Int))).setCell ⟨w.heap.size, 3, none⟩ (.slice none 0 0)).setCell ⟨w.heap.size, 4, none⟩ (.slice none 0 0)).setCell ⟨w.heap.size, 5, none⟩ (.slice none 0 0)) w1.heap.size (evC ed.log ed.nxt ed.seq (oa, ed.out.length, oc) (ia, ed.inn.length, ic) (pa, ed.ptr.length, pc)) ∧ Isk kPl T (((((((w1.alloc (.cells #[.int .u64 (ed.log : Int), .int .u64 (ed.nxt : Int), .int .u64 (ed.seq : Int), .slice oa ed.out.length oc, .slice ia ed.inn.length ic, .slice pa ed.ptr.length pc] 61)).setCell ⟨w.heap.size, 0, none⟩ (.int .u64 (ed.log : Int))).setCell ⟨w.heap.size, 1, none⟩ (.int .u64 (ed.nxt : Int))).setCell ⟨w.heap.size, 2, none⟩ (.int .u64 (ed.seq : Int))).setCell ⟨w.heap.size, 3, none⟩ (.slice none 0 0)).setCell ⟨w.heap.size, 4, none⟩ (.slice none 0 0)).setCell ⟨w.heap.size, 5, none⟩ (.slice none 0 0)) (oa, ed.out.length, oc) ed.out ∧ Isk kPd T (((((((w1.alloc (.cells #[.int .u64 (ed.log : Int), .int .u64 (ed.nxt : Int), .int .u64 (ed.seq : Int), .slice oa ed.out.length oc, .slice ia ed.inn.length ic, .slice pa ed.ptr.length pc] 61)).setCell ⟨w.heap.size, 0, none⟩ (.int .u64 (ed.log : Int))).setCell ⟨w.heap.size, 1, none⟩ (.int .u64 (ed.nxt : Int))).setCell ⟨w.heap.size, 2, none⟩ (.int .u64 (ed.seq : Int))).setCell ⟨w.heap.size, 3, none⟩ (.slice none 0 0)).setCell ⟨w.heap.size, 4, none⟩ (.slice none 0 0)).setCell ⟨w.heap.size, 5, none⟩ (.slice none 0 0)) (ia, ed.inn.length, ic) ed.inn ∧ Isk kT T (((((((w1.alloc (.cells #[.int .u64 (ed.log : Int), .int .u64 (ed.nxt : Int), .int .u64 (ed.seq : Int), .slice oa ed.out.length oc, .slice ia ed.inn.length ic, .slice pa ed.ptr.length pc] 61)).setCell ⟨w.heap.size, 0, none⟩ (.int .u64 (ed.log : Int))).setCell ⟨w.heap.size, 1, none⟩ (.int .u64 (ed.nxt : Int))).setCell ⟨w.heap.size, 2, none⟩ (.int .u64 (ed.seq : Int))).setCell ⟨w.heap.size, 3, none⟩ (.slice none 0 0)).setCell ⟨w.heap.size, 4, none⟩ (.slice none 0 0)).setCell ⟨w.heap.size, 5, none⟩ (.slice none 0 0)) (pa, ed.ptr.length, pc) ed.ptr ∧ T w1.heap.size = 0) := by
                rw [hb, hnn]
                exact ⟨HF2.out.init ed.log ed.nxt ed.seq, HX2.out.goes g2 (by rw [hX0]; decide), HL2.out.1.goes g2 (by decide), HL2.out.2.1.goes g2 (by decide), HL2.out.2.2.goes g2 (by decide), hX0⟩
              have HSM : Hid (b.log = ed.log ∧ b.nxt = ed.nxt ∧ b.seq = ed.seq) := by rw [hb]; exact ⟨rfl, rfl, rfl⟩
              have HBD : Hid (b.out.length + ed.out.length ≤ 1000000000000 ∧ b.inn.length + ed.inn.length ≤ 1000000000000) := by rw [hb]; exact ⟨by simp; omega, by simp; omega⟩
              have HBL : Hid (b.out.length + ed.out.length ≤ 256 * (k + 1) ∧ b.inn.length + ed.inn.length ≤ 256 * (k + 1)) := by rw [hb]; exact ⟨by simp; omega, by simp; omega⟩
              have HNX : Hid (Gk recs (k + 1) noE (es ++ [joinE b ed])) := by rw [hb, join_new]; exact HGK.out.last HR.out HFT.out (fol_first _)

              obtain ⟨bx, by_, bz, bo, bi, bp, hbx⟩ := HF2.out.box
              have y0 := hbx.2.1 0 _ rfl
              have y1 := hbx.2.1 1 _ rfl
              have y2 := hbx.2.1 2 _ rfl
              have y3 := hbx.2.1 3 _ rfl
              have y4 := hbx.2.1 4 _ rfl
              have y5 := hbx.2.1 5 _ rfl
              have fN := hbx.2.2
              clear hb hnn g2 hX0 hb2 hbx HF1 HF2 HX2 HL HL2
              generalize hX9 : w1.heap.size = X at HQ hXN
              go_upto_region 15 with fail
              clear y0 y1 y2 y3 y4 y5 fN hXN
              try rw [hX9]
              clear hX9
              generalize hWq : (((((((w1.alloc (.cells #[.int .u64 (ed.log : Int), .int .u64 (ed.nxt : Int), .int .u64 (ed.seq : Int), .slice oa ed.out.length oc, .slice ia ed.inn.length ic, .slice pa ed.ptr.length pc] 61)).setCell ⟨w.heap.size, 0, none⟩ (.int .u64 (ed.log : Int))).setCell ⟨w.heap.size, 1, none⟩ (.int .u64 (ed.nxt : Int))).setCell ⟨w.heap.size, 2, none⟩ (.int .u64 (ed.seq : Int))).setCell ⟨w.heap.size, 3, none⟩ (.slice none 0 0)).setCell ⟨w.heap.size, 4, none⟩ (.slice none 0 0)).setCell ⟨w.heap.size, 5, none⟩ (.slice none 0 0)) = W at *
              clear hWq
              have hX := HQ.out.2.1
              have y3 := HQ.out.1.box.2.1 3 _ rfl
              have y4 := HQ.out.1.box.2.1 4 _ rfl
              have y5 := HQ.out.1.box.2.1 5 _ rfl
              have fN := HQ.out.1.box.2.2
              have x3 := hX.2.1 3 _ rfl
              have x4 := hX.2.1 4 _ rfl
              have x5 := hX.2.1 5 _ rfl
              have hTN := HQ.out.1.tag
              have HTN := hid9 hTN
              have HXL := hid9 hX.1
              have HXT := hid9 HQ.out.2.2.2.2.2
              clear hX hTN
              dsimp only at x3 x4 x5
              go_upto_region 15 with fail
              go_upto_region 20 with (first
                | (at_builtin; go_loud (refine wpList_appK kPl _ (by rfl) (.tmp 102) (.tmp 104) 57 (by rfl) iz Try.underlying57 hiz hz0 hz1 hz2 4 T (.slice nn.1 nn.2.1 nn.2.2) b.out (by rfl) HQ.out.1.out oa ed.out.length oc ed.out (by rfl) rfl HQ.out.2.2.1.2.2.1 HQ.out.2.2.1.1 (by have := HBD.out; omega) ?_; intro a2 c2 T2 w2 ho2 hg2; have H2 := hid9 (And.intro hg2 ho2); have m3 := (hg2.cell HQ.out.1.box.1 (by rw [HTN.out]; decide)).trans y3; have m4 := (hg2.cell HQ.out.1.box.1 (by rw [HTN.out]; decide)).trans y4; have m5 := (hg2.cell HQ.out.1.box.1 (by rw [HTN.out]; decide)).trans y5; have mf : ∀ j, w2.frozen? ⟨w.heap.size, j, none⟩ = false := fun j => (World.frozen?_of_block (a := ⟨w.heap.size, j, none⟩) (hg2.block _ HQ.out.1.box.1 (by rw [HTN.out]; decide))).trans (fN j); have n4 := (hg2.cell HXL.out (by rw [HXT.out]; decide)).trans x4; have n5 := (hg2.cell HXL.out (by rw [HXT.out]; decide)).trans x5; clear ho2 hg2 y3 y4 y5 fN x3 x4 x5))
                | (at_builtin; go_loud (refine wpList_appK kPd _ (by rfl) (.tmp 108) (.tmp 110) 58 (by rfl) jz Try.underlying58 hjz jz0 jz1 jz2 5 T2 (.slice nn.1 nn.2.1 nn.2.2) b.inn (by rfl) ((HQ.out.1.inn.goes H2.out.1 (by decide)).goes (Goes.setCell (t := (· = 2)) ((H2.out.1.tag _ HQ.out.1.box.1 (by rw [HTN.out]; decide)).trans HTN.out)) (by decide)) ia ed.inn.length ic ed.inn (by rfl) rfl HQ.out.2.2.2.1.2.2.1 ((HQ.out.2.2.2.1.goes H2.out.1 (by decide)).goes (Goes.setCell (t := (· = 2)) ((H2.out.1.tag _ HQ.out.1.box.1 (by rw [HTN.out]; decide)).trans HTN.out)) (by decide)).1 (by have := HBD.out; omega) ?_; intro a3 c3 T3 w3 ho3 hg3; have HJ := hid9 (Gs.joinR (o2 := (a2, _, c2)) (i2 := (a3, _, c3)) HQ.out.1 HSM.out H2.out.1 H2.out.2 hg3 ho3 HQ.out.2.2.2.2.1); have hTN2 := (H2.out.1.tag _ HQ.out.1.box.1 (by rw [HTN.out]; decide)).trans HTN.out; have hl2 : w.heap.size < (w2.setCell ⟨w.heap.size, 3, none⟩ (.slice a2 (b.out.length + ed.out.length) c2)).heap.size := (by have := HQ.out.1.box.1; have := H2.out.1.size; simp; omega); have k4 := (hg3.cell (j := 4) hl2 (by rw [hTN2]; decide)).trans ((World.cell?_setCell_other _ _ _ _ (by intro z; cases z)).trans m4); have k5 := (hg3.cell (j := 5) hl2 (by rw [hTN2]; decide)).trans ((World.cell?_setCell_other _ _ _ _ (by intro z; cases z)).trans m5); have kf : ∀ j, w3.frozen? ⟨w.heap.size, j, none⟩ = false := fun j => (World.frozen?_of_block (a := ⟨w.heap.size, j, none⟩) (hg3.block _ hl2 (by rw [hTN2]; decide))).trans (by rw [World.frozen?_setCell]; exact mf j); have hx2 : X < (w2.setCell ⟨w.heap.size, 3, none⟩ (.slice a2 (b.out.length + ed.out.length) c2)).heap.size := (by have := HXL.out; have := H2.out.1.size; simp; omega); have l5 := (hg3.cell (j := 5) hx2 (by rw [(H2.out.1.tag X HXL.out (by rw [HXT.out]; decide)).trans HXT.out]; decide)).trans ((World.cell?_setCell_other _ _ _ _ (by intro z; injection z with z1 z2; cases z2)).trans n5); clear ho3 hg3 m3 m4 m5 mf n4 n5 hTN2 hl2 hx2)))
              have HJ2 : Hid (Gs w T3 ((w3.setCell ⟨w.heap.size, 4, none⟩ (.slice a3 (b.inn.length + ed.inn.length) c3)).setCell ⟨w.heap.size, 5, none⟩ (.slice pa ed.ptr.length pc)) (joinE b ed) es s (a2, b.out.length + ed.out.length, c2) (a3, b.inn.length + ed.inn.length, c3) (pa, ed.ptr.length, pc)) := HJ.out
              clear HJ k4 k5 kf l5
              generalize hWj : ((w3.setCell ⟨w.heap.size, 4, none⟩ (.slice a3 (b.inn.length + ed.inn.length) c3)).setCell ⟨w.heap.size, 5, none⟩ (.slice pa ed.ptr.length pc)) = W3 at *
              clear hWj
              have v0 : W3.cell? ⟨w.heap.size, 0, none⟩ = some (.int .u64 (ed.log : Int)) := HJ2.out.box.2.1 0 _ rfl
              have v1 : W3.cell? ⟨w.heap.size, 1, none⟩ = some (.int .u64 (ed.nxt : Int)) := HJ2.out.box.2.1 1 _ rfl
              have v2 : W3.cell? ⟨w.heap.size, 2, none⟩ = some (.int .u64 (ed.seq : Int)) := HJ2.out.box.2.1 2 _ rfl
              have v3 : W3.cell? ⟨w.heap.size, 3, none⟩ = some (.slice a2 (b.out.length + ed.out.length) c2) := HJ2.out.box.2.1 3 _ rfl
              have v4 : W3.cell? ⟨w.heap.size, 4, none⟩ = some (.slice a3 (b.inn.length + ed.inn.length) c3) := HJ2.out.box.2.1 4 _ rfl
              have v5 : W3.cell? ⟨w.heap.size, 5, none⟩ = some (.slice pa ed.ptr.length pc) := HJ2.out.box.2.1 5 _ rfl
              obtain ⟨vs, hv1, hv2, hv3⟩ := HJ2.out.own
              have HVS := hid9 (And.intro hv1 (And.intro hv2 hv3))
              have hvl : vs.length ≤ k := by omega
              clear hv1 hv2 hv3
              have hb4 := (Below.refl W3.heap.size W3).alloc (Nat.le_refl _) (.cells #[.int .u64 (ed.log : Int), .int .u64 (ed.nxt : Int), .int .u64 (ed.seq : Int), .slice a2 (b.out.length + ed.out.length) c2, .slice a3 (b.inn.length + ed.inn.length) c3, .slice pa ed.ptr.length pc] 61)
              have HB4 := hid9 hb4
              clear hb4
              go_wp2_with (at_builtin; go_loud (refine wpList_appK kE _ (by rfl) (.tmp 118) (.tmp 120) 43 (by rfl) ez Try.underlying43 hez ez0 ez1 ez2 1 (fin T3) (.slice s.1 s.2.1 s.2.2) vs (by rfl) ((own_fin HVS.out.1).below HB4.out) (some ⟨W3.heap.size, 0, none⟩) 1 1 [(ed.log, ed.nxt, ed.seq, (a2, b.out.length + ed.out.length, c2), (a3, b.inn.length + ed.inn.length, c3), (pa, ed.ptr.length, pc))] (by rfl) rfl (by simp) (isK_new kE W3 (ed.log, ed.nxt, ed.seq, (a2, b.out.length + ed.out.length, c2), (a3, b.inn.length + ed.inn.length, c3), (pa, ed.ptr.length, pc)) 61) (by simp; omega) ?_; intro a4 c4 T4 w4 ho4 hg4; have HL4 := hid9 (HJ2.out.lastR (s2 := (a4, vs.length + 1, c4)) ((Goes.below (t := (· = 1)) HB4.out).trans hg4) vs HVS.out.2.1 HVS.out.2.2 ho4); clear ho4 hg4; rw [List.length_singleton]))
              go_roundw
              case rel => exact ⟨k + 1, T4, es ++ [joinE b ed], (a4, vs.length + 1, c4), true, noE, nS, nS, nS, by omega, rfl, rfl, by go_num, ⟨by simp [noE], by simp [noE], by simp; omega⟩, .inl ⟨rfl, rfl, HL4.out, HNX.out⟩⟩
              case measure => simp [intOf]; omega
            | false =>
              by_cases h2 : ed.out.length + ed.inn.length = 256
              · have z2 : (ed.out.length : Int) + (ed.inn.length : Int) = 256 := by omega
                have HH2 := hid9 h2
                clear h2
                by_cases h3 : ed.ptr.length = 0
                · have z3 : (ed.ptr.length : Int) = 0 := by omega
                  have HH3 := hid9 h3
                  clear h3
                  have HFT := hid9 (fit_yes HRD.out (fit_iff.2 ⟨by unfold tabs; omega, .inr ⟨by have := HH2.out; unfold tabs; omega, HH3.out⟩⟩))
                  have hb2 := (Below.refl w1.heap.size w1).alloc (Nat.le_refl _) (.cells #[.int .u64 (ed.log : Int), .int .u64 (ed.nxt : Int), .int .u64 (ed.seq : Int), .slice oa ed.out.length oc, .slice ia ed.inn.length ic, .slice pa ed.ptr.length pc] 61)
                  have HF2 := hid9 (HF1.out.below hb2)
                  have HX2 := hid9 (Zb.new w1 #[.int .u64 (ed.log : Int), .int .u64 (ed.nxt : Int), .int .u64 (ed.seq : Int), .slice oa ed.out.length oc, .slice ia ed.inn.length ic, .slice pa ed.ptr.length pc] 61)
                  have HL2 := hid9 (And.intro (HL.out.1.below hb2) (And.intro (HL.out.2.1.below hb2) (HL.out.2.2.below hb2)))
                  have hX0 : T w1.heap.size = 0 := HF1.out.high _ (Nat.le_refl _)
                  have hXN : w1.heap.size ≠ w.heap.size := fun e => by have := HF1.out.tag; rw [← e, hX0] at this; cases this
                  have g2 := Goes.sets (t := (· = 2)) (T := T) (B := w.heap.size) HF2.out.tag [.int .u64 (ed.log : Int), .int .u64 (ed.nxt : Int), .int .u64 (ed.seq : Int), .slice none 0 0, .slice none 0 0, .slice none 0 0] (w1.alloc (.cells #[.int .u64 (ed.log : Int), .int .u64 (ed.nxt : Int), .int .u64 (ed.seq : Int), .slice oa ed.out.length oc, .slice ia ed.inn.length ic, .slice pa ed.ptr.length pc] 61)) 0
                  obtain ⟨b, hb⟩ : ∃ b : Ed, b = ⟨ed.log, ed.nxt, ed.seq, [], [], []⟩ := ⟨_, rfl⟩
                  obtain ⟨nn, hnn⟩ : ∃ nn : Sv, nn = nS := ⟨_, rfl⟩
                  have HQ : Hid (Gs w T (((((((w1.alloc (.cells #[.int .u64 (ed.log : Int), .int .u64 (ed.nxt : Int), .int .u64 (ed.seq : Int), .slice oa ed.out.length oc, .slice ia ed.inn.length ic, .slice pa ed.ptr.length pc] 61)).setCell ⟨w.heap.size, 0, none⟩ (.int .u64 (ed.log : Int))).setCell ⟨w.heap.size, 1, none⟩ (.int .u64 (ed.nxt : Int))).setCell ⟨w.heap.size, 2, none⟩ (.int .u64 (ed.seq : Int))).setCell ⟨w.heap.size, 3, none⟩ (.slice none 0 0)).setCell ⟨w.heap.size, 4, none⟩ (.slice none 0 0)).setCell ⟨w.heap.size, 5, none⟩ (.slice none 0 0)) b es s nn nn nn ∧ Zb (((((((w1.alloc (.cells #[.int .u64 (ed.log : Int), .int .u64 (ed.nxt : Int), .int .u64 (ed.seq : Int), .slice oa ed.out.length oc, .slice ia ed.inn.length ic, .slice pa ed.ptr.length pc] 61)).setCell ⟨w.heap.size, 0, none⟩ (.int .u64 (ed.log : Int))).setCell ⟨w.heap.size, 1, none⟩ (.int .u64 (ed.nxt : Int))).setCell ⟨w.heap.size, 2, none⟩ (.int .u64 (ed.seq : Int))).setCell ⟨w.heap.size, 3, none⟩ (.slice none 0 0)).setCell ⟨w.heap.size, 4, none⟩ (.slice none 0 0)).setCell ⟨w.heap.size, 5, none⟩ (.slice none 0 0)) w1.heap.size (evC ed.log ed.nxt ed.seq (oa, ed.out.length, oc) (ia, ed.inn.length, ic) (pa, ed.ptr.length, pc)) ∧ Isk kPl T (((((((w1.alloc (.cells #[.int .u64 (ed.log : Int), .int .u64 (ed.nxt : Int), .int .u64 (ed.seq : Int), .slice oa ed.out.length oc, .slice ia ed.inn.length ic, .slice pa ed.ptr.length pc] 61)).setCell ⟨w.heap.size, 0, none⟩ (.int .u64 (ed.log : Int))).setCell ⟨w.heap.size, 1, none⟩ (.int .u64 (ed.nxt : Int))).setCell ⟨w.heap.size, 2, none⟩ (.int .u64 (ed.seq : Int))).setCell ⟨w.heap.size, 3, none⟩ (.slice none 0 0)).setCell ⟨w.heap.size, 4, none⟩ (.slice none 0 0)).setCell ⟨w.heap.size, 5, none⟩ (.slice none 0 0)) (oa, ed.out.length, oc) ed.out ∧ Isk kPd T (((((((w1.alloc (.cells #[.int .u64 (ed.log : Int), .int .u64 (ed.nxt : Int), .int .u64 (ed.seq : Int), .slice oa ed.out.length oc, .slice ia ed.inn.length ic, .slice pa ed.ptr.length pc] 61)).setCell ⟨w.heap.size, 0, none⟩ (.int .u64 (ed.log : Int))).setCell ⟨w.heap.size, 1, none⟩ (.int .u64 (ed.nxt : Int))).setCell ⟨w.heap.size, 2, none⟩ (.int .u64 (ed.seq : Int))).setCell ⟨w.heap.size, 3, none⟩ (.slice none 0 0)).setCell ⟨w.heap.size, 4, none⟩ (.slice none 0 0)).setCell ⟨w.heap.size, 5, none⟩ (.slice none 0 0)) (ia, ed.inn.length, ic) ed.inn ∧ Isk kT T (((((((w1.alloc (.cells #[.int .u64 (ed.log : Int), .int .u64 (ed.nxt : Int), .int .u64 (ed.seq : Int), .slice oa ed.out.length oc, .slice ia ed.inn.length ic, .slice pa ed.ptr.length pc] 61)).setCell ⟨w.heap.size, 0, none⟩ (.int .u64 (ed.log : Int))).setCell ⟨w.heap.size, 1, none⟩ (.int .u64 (ed.nxt : Int))).setCell ⟨w.heap.size, 2, none⟩ (.int .u64 (ed.seq : Int))).setCell ⟨w.heap.size, 3, none⟩ (.slice none 0 0)).setCell ⟨w.heap.size, 4, none⟩ (.slice none 0 0)).setCell ⟨w.heap.size, 5, none⟩ (.slice none 0 0)) (pa, ed.ptr.length, pc) ed.ptr ∧ T w1.heap.size = 0) := by
                    rw [hb, hnn]
                    exact ⟨HF2.out.init ed.log ed.nxt ed.seq, HX2.out.goes g2 (by rw [hX0]; decide), HL2.out.1.goes g2 (by decide), HL2.out.2.1.goes g2 (by decide), HL2.out.2.2.goes g2 (by decide), hX0⟩
                  have HSM : Hid (b.log = ed.log ∧ b.nxt = ed.nxt ∧ b.seq = ed.seq) := by rw [hb]; exact ⟨rfl, rfl, rfl⟩
                  have HBD : Hid (b.out.length + ed.out.length ≤ 1000000000000 ∧ b.inn.length + ed.inn.length ≤ 1000000000000) := by rw [hb]; exact ⟨by simp; omega, by simp; omega⟩
                  have HBL : Hid (b.out.length + ed.out.length ≤ 256 * (k + 1) ∧ b.inn.length + ed.inn.length ≤ 256 * (k + 1)) := by rw [hb]; exact ⟨by simp; omega, by simp; omega⟩
                  have HNX : Hid (Gk recs (k + 1) (joinE b ed) es) := by rw [hb, join_new]; exact HGK.out.step HR.out HFT.out (fol_first _)
                  have HTP : Hid (0 < tabs ed) := by show 0 < tabs ed; have := HH2.out; unfold tabs; omega
                  obtain ⟨bx, by_, bz, bo, bi, bp, hbx⟩ := HF2.out.box
                  have y0 := hbx.2.1 0 _ rfl
                  have y1 := hbx.2.1 1 _ rfl
                  have y2 := hbx.2.1 2 _ rfl
                  have y3 := hbx.2.1 3 _ rfl
                  have y4 := hbx.2.1 4 _ rfl
                  have y5 := hbx.2.1 5 _ rfl
                  have fN := hbx.2.2
                  clear hb hnn g2 hX0 hb2 hbx HF1 HF2 HX2 HL HL2
                  generalize hX9 : w1.heap.size = X at HQ hXN
                  go_upto_region 15 with fail
                  clear y0 y1 y2 y3 y4 y5 fN hXN
                  try rw [hX9]
                  clear hX9
                  generalize hWq : (((((((w1.alloc (.cells #[.int .u64 (ed.log : Int), .int .u64 (ed.nxt : Int), .int .u64 (ed.seq : Int), .slice oa ed.out.length oc, .slice ia ed.inn.length ic, .slice pa ed.ptr.length pc] 61)).setCell ⟨w.heap.size, 0, none⟩ (.int .u64 (ed.log : Int))).setCell ⟨w.heap.size, 1, none⟩ (.int .u64 (ed.nxt : Int))).setCell ⟨w.heap.size, 2, none⟩ (.int .u64 (ed.seq : Int))).setCell ⟨w.heap.size, 3, none⟩ (.slice none 0 0)).setCell ⟨w.heap.size, 4, none⟩ (.slice none 0 0)).setCell ⟨w.heap.size, 5, none⟩ (.slice none 0 0)) = W at *
                  clear hWq
                  have hX := HQ.out.2.1
                  have y3 := HQ.out.1.box.2.1 3 _ rfl
                  have y4 := HQ.out.1.box.2.1 4 _ rfl
                  have y5 := HQ.out.1.box.2.1 5 _ rfl
                  have fN := HQ.out.1.box.2.2
                  have x3 := hX.2.1 3 _ rfl
                  have x4 := hX.2.1 4 _ rfl
                  have x5 := hX.2.1 5 _ rfl
                  have hTN := HQ.out.1.tag
                  have HTN := hid9 hTN
                  have HXL := hid9 hX.1
                  have HXT := hid9 HQ.out.2.2.2.2.2
                  clear hX hTN
                  dsimp only at x3 x4 x5
                  go_upto_region 15 with fail
                  go_wp2_with (first
                    | (at_builtin; go_loud (refine wpList_appK kPl _ (by rfl) (.tmp 102) (.tmp 104) 57 (by rfl) iz Try.underlying57 hiz hz0 hz1 hz2 4 T (.slice nn.1 nn.2.1 nn.2.2) b.out (by rfl) HQ.out.1.out oa ed.out.length oc ed.out (by rfl) rfl HQ.out.2.2.1.2.2.1 HQ.out.2.2.1.1 (by have := HBD.out; omega) ?_; intro a2 c2 T2 w2 ho2 hg2; have H2 := hid9 (And.intro hg2 ho2); have m3 := (hg2.cell HQ.out.1.box.1 (by rw [HTN.out]; decide)).trans y3; have m4 := (hg2.cell HQ.out.1.box.1 (by rw [HTN.out]; decide)).trans y4; have m5 := (hg2.cell HQ.out.1.box.1 (by rw [HTN.out]; decide)).trans y5; have mf : ∀ j, w2.frozen? ⟨w.heap.size, j, none⟩ = false := fun j => (World.frozen?_of_block (a := ⟨w.heap.size, j, none⟩) (hg2.block _ HQ.out.1.box.1 (by rw [HTN.out]; decide))).trans (fN j); have n4 := (hg2.cell HXL.out (by rw [HXT.out]; decide)).trans x4; have n5 := (hg2.cell HXL.out (by rw [HXT.out]; decide)).trans x5; clear ho2 hg2 y3 y4 y5 fN x3 x4 x5))
                    | (at_builtin; go_loud (refine wpList_appK kPd _ (by rfl) (.tmp 108) (.tmp 110) 58 (by rfl) jz Try.underlying58 hjz jz0 jz1 jz2 5 T2 (.slice nn.1 nn.2.1 nn.2.2) b.inn (by rfl) ((HQ.out.1.inn.goes H2.out.1 (by decide)).goes (Goes.setCell (t := (· = 2)) ((H2.out.1.tag _ HQ.out.1.box.1 (by rw [HTN.out]; decide)).trans HTN.out)) (by decide)) ia ed.inn.length ic ed.inn (by rfl) rfl HQ.out.2.2.2.1.2.2.1 ((HQ.out.2.2.2.1.goes H2.out.1 (by decide)).goes (Goes.setCell (t := (· = 2)) ((H2.out.1.tag _ HQ.out.1.box.1 (by rw [HTN.out]; decide)).trans HTN.out)) (by decide)).1 (by have := HBD.out; omega) ?_; intro a3 c3 T3 w3 ho3 hg3; have HJ := hid9 (Gs.joinR (o2 := (a2, _, c2)) (i2 := (a3, _, c3)) HQ.out.1 HSM.out H2.out.1 H2.out.2 hg3 ho3 HQ.out.2.2.2.2.1); have hTN2 := (H2.out.1.tag _ HQ.out.1.box.1 (by rw [HTN.out]; decide)).trans HTN.out; have hl2 : w.heap.size < (w2.setCell ⟨w.heap.size, 3, none⟩ (.slice a2 (b.out.length + ed.out.length) c2)).heap.size := (by have := HQ.out.1.box.1; have := H2.out.1.size; simp; omega); have k4 := (hg3.cell (j := 4) hl2 (by rw [hTN2]; decide)).trans ((World.cell?_setCell_other _ _ _ _ (by intro z; cases z)).trans m4); have k5 := (hg3.cell (j := 5) hl2 (by rw [hTN2]; decide)).trans ((World.cell?_setCell_other _ _ _ _ (by intro z; cases z)).trans m5); have kf : ∀ j, w3.frozen? ⟨w.heap.size, j, none⟩ = false := fun j => (World.frozen?_of_block (a := ⟨w.heap.size, j, none⟩) (hg3.block _ hl2 (by rw [hTN2]; decide))).trans (by rw [World.frozen?_setCell]; exact mf j); have hx2 : X < (w2.setCell ⟨w.heap.size, 3, none⟩ (.slice a2 (b.out.length + ed.out.length) c2)).heap.size := (by have := HXL.out; have := H2.out.1.size; simp; omega); have l5 := (hg3.cell (j := 5) hx2 (by rw [(H2.out.1.tag X HXL.out (by rw [HXT.out]; decide)).trans HXT.out]; decide)).trans ((World.cell?_setCell_other _ _ _ _ (by intro z; injection z with z1 z2; cases z2)).trans n5); clear ho3 hg3 m3 m4 m5 mf n4 n5 hTN2 hl2 hx2)))
                  go_roundw
                  case rel => exact ⟨k + 1, T3, es, s, false, joinE b ed, _, _, _, by omega, rfl, rfl, by go_num, ⟨by have := HBL.out; show (b.out ++ ed.out).length ≤ _; rw [List.length_append]; omega, by have := HBL.out; show (b.inn ++ ed.inn).length ≤ _; rw [List.length_append]; omega, by omega⟩, .inr ⟨rfl, HJ.out, by have := HTP.out; rw [tabs_join]; unfold tabs at *; omega, HNX.out⟩⟩
                  case measure => simp [intOf]; omega
                · have z3 : ¬ (ed.ptr.length : Int) = 0 := by omega
                  have HG := hid9 (HGK.out.no HR.out (.inl (fit_no HRD.out (fit_neg (by unfold tabs; rintro ⟨z7, z8 | ⟨z8, z9⟩⟩ <;> first | (cases z8; done) | omega)))))
                  go_wp2_with fail
                  go_ret2
                  exact .inr ⟨HG.out, rfl, HBB.out.alloc HBB.out.size _⟩
              · have z2 : ¬ (ed.out.length : Int) + (ed.inn.length : Int) = 256 := by omega
                have HG := hid9 (HGK.out.no HR.out (.inl (fit_no HRD.out (fit_neg (by unfold tabs; rintro ⟨z7, z8 | ⟨z8, z9⟩⟩ <;> first | (cases z8; done) | omega)))))
                go_wp2_with fail
                go_ret2
                exact .inr ⟨HG.out, rfl, HBB.out.alloc HBB.out.size _⟩
          · have z1 : (256 : Int) < (ed.out.length : Int) + (ed.inn.length : Int) := by omega
            have HG := hid9 (HGK.out.no HR.out (.inl (fit_no HRD.out (fit_neg (by unfold tabs; rintro ⟨z7, z8 | ⟨z8, z9⟩⟩ <;> first | (cases z8; done) | omega)))))
            go_wp2_with fail
            go_ret2
            exact .inr ⟨HG.out, rfl, HBB.out.alloc HBB.out.size _⟩
      · clear HX
        have HTB := hid9 htb
        have HBQ := hid9 hbd
        clear htb
        have hkl : k < recs.length := by rw [HN.out]; exact hlt
        obtain ⟨rb, roff, ra, rc, r, rfl, hx, hbl, c0, hi1, hn1, hl1, hm1⟩ := (HD.out.below hgs.old.below).at_ hkl
        have HR := hid9 hx
        have HGF := hid9 hgs
        have HGK := hid9 hgk
        have HC := hid9 (record_any ra rc r.length r wr hi1 rfl hl1 hm1)
        clear hx hkl hi1 hn1 hgs hgk
        cases hrd : recA r with
        | none =>
          have HNO := hid9 (show rdRec r = none by rw [rdRec_A, hrd]; rfl)
          have HRD := hid9 hrd
          clear hrd
          go_wp2_with fail
          refine HC.out.mono ?_
          rintro e w1 ⟨hb1, hp⟩
          have he : e = .returned (.tuple #[.bool false, evV 0 0 0 nS nS nS, .bool false]) := by
            rcases hp with ⟨last, ed, o', i', p', hq, _⟩ | ⟨_, he⟩
            · rw [HRD.out] at hq; cases hq
            · exact he
          subst he
          unfold evV nS
          dsimp only
          have HBB := hid9 (HGF.out.old.below.trans (hb1.mono HGF.out.old.below.size))
          clear hb1 hp
          have HG := hid9 (HGK.out.no HR.out (.inl HNO.out))
          go_wp2_with fail
          go_ret2
          exact .inr ⟨HG.out, rfl, HBB.out.alloc HBB.out.size _⟩
        | some y =>
          obtain ⟨last, ed⟩ := y
          obtain ⟨le1, le2, le3⟩ := recA_le hrd
          have HRD := hid9 hrd
          clear hrd
          go_wp2_with fail
          refine HC.out.mono ?_
          rintro e w1 ⟨hb1, hp⟩
          have hq9 : ∃ o' i' p', e = .returned (.tuple #[.bool last, evV ed.log ed.nxt ed.seq o' i' p', .bool true]) ∧ Nl kPl wr w1 o' ed.out ∧ Nl kPd wr w1 i' ed.inn ∧ Nl kT wr w1 p' ed.ptr := by
            rcases hp with ⟨last', ed', o', i', p', hq, he, h1, h2, h3⟩ | ⟨hq, _⟩
            · rw [HRD.out] at hq
              cases hq
              exact ⟨o', i', p', he, h1, h2, h3⟩
            · rw [HRD.out] at hq; cases hq
          obtain ⟨⟨oa, on, oc⟩, ⟨ia, ni, ic⟩, ⟨pa, np, pc⟩, he, h1, h2, h3⟩ := hq9
          subst he
          obtain rfl : on = ed.out.length := h1.2.1
          obtain rfl : ni = ed.inn.length := h2.2.1
          obtain rfl : np = ed.ptr.length := h3.2.1
          unfold evV
          dsimp only
          have HBB := hid9 (HGF.out.old.below.trans (hb1.mono HGF.out.old.below.size))
          have HF1 := hid9 (HGF.out.below hb1)
          have HL := hid9 (And.intro (h1.isk HGF.out.high) (And.intro (h2.isk HGF.out.high) (h3.isk HGF.out.high)))
          clear hb1 hp h1 h2 h3 HGF HC
          by_cases h256 : ed.out.length + ed.inn.length ≤ 256
          · have z1 : ¬ (256 : Int) < (ed.out.length : Int) + (ed.inn.length : Int) := by omega
            cases last with
            | true =>
              have HFT := hid9 (fit_yes HRD.out (fit_iff.2 ⟨by unfold tabs; omega, .inl rfl⟩))
              have hb2 := (Below.refl w1.heap.size w1).alloc (Nat.le_refl _) (.cells #[.int .u64 (ed.log : Int), .int .u64 (ed.nxt : Int), .int .u64 (ed.seq : Int), .slice oa ed.out.length oc, .slice ia ed.inn.length ic, .slice pa ed.ptr.length pc] 61)
              have HF2 := hid9 (HF1.out.below hb2)
              have HX2 := hid9 (Zb.new w1 #[.int .u64 (ed.log : Int), .int .u64 (ed.nxt : Int), .int .u64 (ed.seq : Int), .slice oa ed.out.length oc, .slice ia ed.inn.length ic, .slice pa ed.ptr.length pc] 61)
              have HL2 := hid9 (And.intro (HL.out.1.below hb2) (And.intro (HL.out.2.1.below hb2) (HL.out.2.2.below hb2)))
              have y0 := HF2.out.box.2.1 0 _ rfl
              have y1 := HF2.out.box.2.1 1 _ rfl
              have y2 := HF2.out.box.2.1 2 _ rfl
              have y3 := HF2.out.box.2.1 3 _ rfl
              have y4 := HF2.out.box.2.1 4 _ rfl
              have y5 := HF2.out.box.2.1 5 _ rfl
              have fN := HF2.out.box.2.2
              have hil : i.2.1 = b.inn.length := (OwnK.sk HF2.out.inn).1
              have HIL := hid9 hil
              clear hil hb2
              by_cases t0 : 0 < ed.out.length + ed.inn.length
              · have z4 : ¬ (ed.out.length : Int) + (ed.inn.length : Int) = 0 := by omega
                have HH0 : Hid (0 < tabs ed) := t0
                by_cases e1 : ed.log = b.log
                · have z51 : ((ed.log : Int) != (b.log : Int)) = false := by simp; omega
                  have HE1 := hid9 e1
                  clear e1
                  by_cases e2 : ed.nxt = b.nxt
                  · have z52 : ((ed.nxt : Int) != (b.nxt : Int)) = false := by simp; omega
                    have HE2 := hid9 e2
                    clear e2
                    by_cases e3 : ed.seq = b.seq
                    · have z53 : ((ed.seq : Int) != (b.seq : Int)) = false := by simp; omega
                      have HE3 := hid9 e3
                      clear e3
                      by_cases h5 : b.inn.length = 0
                      · have z8 : ¬ (0 : Int) < (i.2.1 : Int) := by have := HIL.out; omega
                        have HH5 : Hid (b.inn.length = 0 ∨ ed.out.length = 0) := .inl h5
                        clear h5
                        have HFO := hid9 (fol_yes (b := b) (r := ed) HH0.out HE1.out HE2.out HE3.out HH5.out)
                        have HQ : Hid (Gs w T (w1.alloc (.cells #[.int .u64 (ed.log : Int), .int .u64 (ed.nxt : Int), .int .u64 (ed.seq : Int), .slice oa ed.out.length oc, .slice ia ed.inn.length ic, .slice pa ed.ptr.length pc] 61)) b es s o i p ∧ Zb (w1.alloc (.cells #[.int .u64 (ed.log : Int), .int .u64 (ed.nxt : Int), .int .u64 (ed.seq : Int), .slice oa ed.out.length oc, .slice ia ed.inn.length ic, .slice pa ed.ptr.length pc] 61)) w1.heap.size (evC ed.log ed.nxt ed.seq (oa, ed.out.length, oc) (ia, ed.inn.length, ic) (pa, ed.ptr.length, pc)) ∧ Isk kPl T (w1.alloc (.cells #[.int .u64 (ed.log : Int), .int .u64 (ed.nxt : Int), .int .u64 (ed.seq : Int), .slice oa ed.out.length oc, .slice ia ed.inn.length ic, .slice pa ed.ptr.length pc] 61)) (oa, ed.out.length, oc) ed.out ∧ Isk kPd T (w1.alloc (.cells #[.int .u64 (ed.log : Int), .int .u64 (ed.nxt : Int), .int .u64 (ed.seq : Int), .slice oa ed.out.length oc, .slice ia ed.inn.length ic, .slice pa ed.ptr.length pc] 61)) (ia, ed.inn.length, ic) ed.inn ∧ Isk kT T (w1.alloc (.cells #[.int .u64 (ed.log : Int), .int .u64 (ed.nxt : Int), .int .u64 (ed.seq : Int), .slice oa ed.out.length oc, .slice ia ed.inn.length ic, .slice pa ed.ptr.length pc] 61)) (pa, ed.ptr.length, pc) ed.ptr ∧ T w1.heap.size = 0) := ⟨HF2.out, HX2.out, HL2.out.1, HL2.out.2.1, HL2.out.2.2, HF1.out.high _ (Nat.le_refl _)⟩
                        have HSM : Hid (b.log = ed.log ∧ b.nxt = ed.nxt ∧ b.seq = ed.seq) := ⟨HE1.out.symm, HE2.out.symm, HE3.out.symm⟩
                        have HBD : Hid (b.out.length + ed.out.length ≤ 1000000000000 ∧ b.inn.length + ed.inn.length ≤ 1000000000000) := by have := HBQ.out; exact ⟨by omega, by omega⟩
                        have HBL : Hid (b.out.length + ed.out.length ≤ 256 * (k + 1) ∧ b.inn.length + ed.inn.length ≤ 256 * (k + 1)) := by have := HBQ.out; exact ⟨by omega, by omega⟩
                        have HNX : Hid (Gk recs (k + 1) noE (es ++ [joinE b ed])) := HGK.out.last HR.out HFT.out HFO.out

                        clear HF1 HF2 HX2 HL HL2
                        generalize hX9 : w1.heap.size = X at HQ
                        go_upto_region 15 with fail
                        clear y0 y1 y2 y3 y4 y5 fN
                        try rw [hX9]
                        clear hX9
                        generalize hWq : (w1.alloc (.cells #[.int .u64 (ed.log : Int), .int .u64 (ed.nxt : Int), .int .u64 (ed.seq : Int), .slice oa ed.out.length oc, .slice ia ed.inn.length ic, .slice pa ed.ptr.length pc] 61)) = W at *
                        clear hWq
                        have hX := HQ.out.2.1
                        have y3 := HQ.out.1.box.2.1 3 _ rfl
                        have y4 := HQ.out.1.box.2.1 4 _ rfl
                        have y5 := HQ.out.1.box.2.1 5 _ rfl
                        have fN := HQ.out.1.box.2.2
                        have x3 := hX.2.1 3 _ rfl
                        have x4 := hX.2.1 4 _ rfl
                        have x5 := hX.2.1 5 _ rfl
                        have hTN := HQ.out.1.tag
                        have HTN := hid9 hTN
                        have HXL := hid9 hX.1
                        have HXT := hid9 HQ.out.2.2.2.2.2
                        clear hX hTN
                        dsimp only at x3 x4 x5
                        go_upto_region 15 with fail
                        go_upto_region 20 with (first
                          | (at_builtin; go_loud (refine wpList_appK kPl _ (by rfl) (.tmp 102) (.tmp 104) 57 (by rfl) iz Try.underlying57 hiz hz0 hz1 hz2 4 T (.slice o.1 o.2.1 o.2.2) b.out (by rfl) HQ.out.1.out oa ed.out.length oc ed.out (by rfl) rfl HQ.out.2.2.1.2.2.1 HQ.out.2.2.1.1 (by have := HBD.out; omega) ?_; intro a2 c2 T2 w2 ho2 hg2; have H2 := hid9 (And.intro hg2 ho2); have m3 := (hg2.cell HQ.out.1.box.1 (by rw [HTN.out]; decide)).trans y3; have m4 := (hg2.cell HQ.out.1.box.1 (by rw [HTN.out]; decide)).trans y4; have m5 := (hg2.cell HQ.out.1.box.1 (by rw [HTN.out]; decide)).trans y5; have mf : ∀ j, w2.frozen? ⟨w.heap.size, j, none⟩ = false := fun j => (World.frozen?_of_block (a := ⟨w.heap.size, j, none⟩) (hg2.block _ HQ.out.1.box.1 (by rw [HTN.out]; decide))).trans (fN j); have n4 := (hg2.cell HXL.out (by rw [HXT.out]; decide)).trans x4; have n5 := (hg2.cell HXL.out (by rw [HXT.out]; decide)).trans x5; clear ho2 hg2 y3 y4 y5 fN x3 x4 x5))
                          | (at_builtin; go_loud (refine wpList_appK kPd _ (by rfl) (.tmp 108) (.tmp 110) 58 (by rfl) jz Try.underlying58 hjz jz0 jz1 jz2 5 T2 (.slice i.1 i.2.1 i.2.2) b.inn (by rfl) ((HQ.out.1.inn.goes H2.out.1 (by decide)).goes (Goes.setCell (t := (· = 2)) ((H2.out.1.tag _ HQ.out.1.box.1 (by rw [HTN.out]; decide)).trans HTN.out)) (by decide)) ia ed.inn.length ic ed.inn (by rfl) rfl HQ.out.2.2.2.1.2.2.1 ((HQ.out.2.2.2.1.goes H2.out.1 (by decide)).goes (Goes.setCell (t := (· = 2)) ((H2.out.1.tag _ HQ.out.1.box.1 (by rw [HTN.out]; decide)).trans HTN.out)) (by decide)).1 (by have := HBD.out; omega) ?_; intro a3 c3 T3 w3 ho3 hg3; have HJ := hid9 (Gs.joinR (o2 := (a2, _, c2)) (i2 := (a3, _, c3)) HQ.out.1 HSM.out H2.out.1 H2.out.2 hg3 ho3 HQ.out.2.2.2.2.1); have hTN2 := (H2.out.1.tag _ HQ.out.1.box.1 (by rw [HTN.out]; decide)).trans HTN.out; have hl2 : w.heap.size < (w2.setCell ⟨w.heap.size, 3, none⟩ (.slice a2 (b.out.length + ed.out.length) c2)).heap.size := (by have := HQ.out.1.box.1; have := H2.out.1.size; simp; omega); have k4 := (hg3.cell (j := 4) hl2 (by rw [hTN2]; decide)).trans ((World.cell?_setCell_other _ _ _ _ (by intro z; cases z)).trans m4); have k5 := (hg3.cell (j := 5) hl2 (by rw [hTN2]; decide)).trans ((World.cell?_setCell_other _ _ _ _ (by intro z; cases z)).trans m5); have kf : ∀ j, w3.frozen? ⟨w.heap.size, j, none⟩ = false := fun j => (World.frozen?_of_block (a := ⟨w.heap.size, j, none⟩) (hg3.block _ hl2 (by rw [hTN2]; decide))).trans (by rw [World.frozen?_setCell]; exact mf j); have hx2 : X < (w2.setCell ⟨w.heap.size, 3, none⟩ (.slice a2 (b.out.length + ed.out.length) c2)).heap.size := (by have := HXL.out; have := H2.out.1.size; simp; omega); have l5 := (hg3.cell (j := 5) hx2 (by rw [(H2.out.1.tag X HXL.out (by rw [HXT.out]; decide)).trans HXT.out]; decide)).trans ((World.cell?_setCell_other _ _ _ _ (by intro z; injection z with z1 z2; cases z2)).trans n5); clear ho3 hg3 m3 m4 m5 mf n4 n5 hTN2 hl2 hx2)))
                        have HJ2 : Hid (Gs w T3 ((w3.setCell ⟨w.heap.size, 4, none⟩ (.slice a3 (b.inn.length + ed.inn.length) c3)).setCell ⟨w.heap.size, 5, none⟩ (.slice pa ed.ptr.length pc)) (joinE b ed) es s (a2, b.out.length + ed.out.length, c2) (a3, b.inn.length + ed.inn.length, c3) (pa, ed.ptr.length, pc)) := HJ.out
                        clear HJ k4 k5 kf l5
                        generalize hWj : ((w3.setCell ⟨w.heap.size, 4, none⟩ (.slice a3 (b.inn.length + ed.inn.length) c3)).setCell ⟨w.heap.size, 5, none⟩ (.slice pa ed.ptr.length pc)) = W3 at *
                        clear hWj
                        have v0 : W3.cell? ⟨w.heap.size, 0, none⟩ = some (.int .u64 (ed.log : Int)) := HJ2.out.box.2.1 0 _ rfl
                        have v1 : W3.cell? ⟨w.heap.size, 1, none⟩ = some (.int .u64 (ed.nxt : Int)) := HJ2.out.box.2.1 1 _ rfl
                        have v2 : W3.cell? ⟨w.heap.size, 2, none⟩ = some (.int .u64 (ed.seq : Int)) := HJ2.out.box.2.1 2 _ rfl
                        have v3 : W3.cell? ⟨w.heap.size, 3, none⟩ = some (.slice a2 (b.out.length + ed.out.length) c2) := HJ2.out.box.2.1 3 _ rfl
                        have v4 : W3.cell? ⟨w.heap.size, 4, none⟩ = some (.slice a3 (b.inn.length + ed.inn.length) c3) := HJ2.out.box.2.1 4 _ rfl
                        have v5 : W3.cell? ⟨w.heap.size, 5, none⟩ = some (.slice pa ed.ptr.length pc) := HJ2.out.box.2.1 5 _ rfl
                        obtain ⟨vs, hv1, hv2, hv3⟩ := HJ2.out.own
                        have HVS := hid9 (And.intro hv1 (And.intro hv2 hv3))
                        have hvl : vs.length ≤ k := by omega
                        clear hv1 hv2 hv3
                        have hb4 := (Below.refl W3.heap.size W3).alloc (Nat.le_refl _) (.cells #[.int .u64 (ed.log : Int), .int .u64 (ed.nxt : Int), .int .u64 (ed.seq : Int), .slice a2 (b.out.length + ed.out.length) c2, .slice a3 (b.inn.length + ed.inn.length) c3, .slice pa ed.ptr.length pc] 61)
                        have HB4 := hid9 hb4
                        clear hb4
                        go_wp2_with (at_builtin; go_loud (refine wpList_appK kE _ (by rfl) (.tmp 118) (.tmp 120) 43 (by rfl) ez Try.underlying43 hez ez0 ez1 ez2 1 (fin T3) (.slice s.1 s.2.1 s.2.2) vs (by rfl) ((own_fin HVS.out.1).below HB4.out) (some ⟨W3.heap.size, 0, none⟩) 1 1 [(ed.log, ed.nxt, ed.seq, (a2, b.out.length + ed.out.length, c2), (a3, b.inn.length + ed.inn.length, c3), (pa, ed.ptr.length, pc))] (by rfl) rfl (by simp) (isK_new kE W3 (ed.log, ed.nxt, ed.seq, (a2, b.out.length + ed.out.length, c2), (a3, b.inn.length + ed.inn.length, c3), (pa, ed.ptr.length, pc)) 61) (by simp; omega) ?_; intro a4 c4 T4 w4 ho4 hg4; have HL4 := hid9 (HJ2.out.lastR (s2 := (a4, vs.length + 1, c4)) ((Goes.below (t := (· = 1)) HB4.out).trans hg4) vs HVS.out.2.1 HVS.out.2.2 ho4); clear ho4 hg4; rw [List.length_singleton]))
                        go_roundw
                        case rel => exact ⟨k + 1, T4, es ++ [joinE b ed], (a4, vs.length + 1, c4), true, noE, nS, nS, nS, by omega, rfl, rfl, by go_num, ⟨by simp [noE], by simp [noE], by simp; omega⟩, .inl ⟨rfl, rfl, HL4.out, HNX.out⟩⟩
                        case measure => simp [intOf]; omega
                      · have z8 : (0 : Int) < (i.2.1 : Int) := by have := HIL.out; omega
                        by_cases h6 : ed.out.length = 0
                        · have z9 : (ed.out.length : Int) = 0 := by omega
                          have z10 : ((ed.inn.length : Int) == 0) = false := by have := HH0.out; unfold tabs at this; simp only [beq_eq_false_iff_ne, ne_eq]; omega
                          have z11 : ¬ (ed.inn.length : Int) = 0 := by have := HH0.out; unfold tabs at this; omega
                          have HH5 : Hid (b.inn.length = 0 ∨ ed.out.length = 0) := .inr h6
                          clear h6 h5
                          have HFO := hid9 (fol_yes (b := b) (r := ed) HH0.out HE1.out HE2.out HE3.out HH5.out)
                          have HQ : Hid (Gs w T (w1.alloc (.cells #[.int .u64 (ed.log : Int), .int .u64 (ed.nxt : Int), .int .u64 (ed.seq : Int), .slice oa ed.out.length oc, .slice ia ed.inn.length ic, .slice pa ed.ptr.length pc] 61)) b es s o i p ∧ Zb (w1.alloc (.cells #[.int .u64 (ed.log : Int), .int .u64 (ed.nxt : Int), .int .u64 (ed.seq : Int), .slice oa ed.out.length oc, .slice ia ed.inn.length ic, .slice pa ed.ptr.length pc] 61)) w1.heap.size (evC ed.log ed.nxt ed.seq (oa, ed.out.length, oc) (ia, ed.inn.length, ic) (pa, ed.ptr.length, pc)) ∧ Isk kPl T (w1.alloc (.cells #[.int .u64 (ed.log : Int), .int .u64 (ed.nxt : Int), .int .u64 (ed.seq : Int), .slice oa ed.out.length oc, .slice ia ed.inn.length ic, .slice pa ed.ptr.length pc] 61)) (oa, ed.out.length, oc) ed.out ∧ Isk kPd T (w1.alloc (.cells #[.int .u64 (ed.log : Int), .int .u64 (ed.nxt : Int), .int .u64 (ed.seq : Int), .slice oa ed.out.length oc, .slice ia ed.inn.length ic, .slice pa ed.ptr.length pc] 61)) (ia, ed.inn.length, ic) ed.inn ∧ Isk kT T (w1.alloc (.cells #[.int .u64 (ed.log : Int), .int .u64 (ed.nxt : Int), .int .u64 (ed.seq : Int), .slice oa ed.out.length oc, .slice ia ed.inn.length ic, .slice pa ed.ptr.length pc] 61)) (pa, ed.ptr.length, pc) ed.ptr ∧ T w1.heap.size = 0) := ⟨HF2.out, HX2.out, HL2.out.1, HL2.out.2.1, HL2.out.2.2, HF1.out.high _ (Nat.le_refl _)⟩
                          have HSM : Hid (b.log = ed.log ∧ b.nxt = ed.nxt ∧ b.seq = ed.seq) := ⟨HE1.out.symm, HE2.out.symm, HE3.out.symm⟩
                          have HBD : Hid (b.out.length + ed.out.length ≤ 1000000000000 ∧ b.inn.length + ed.inn.length ≤ 1000000000000) := by have := HBQ.out; exact ⟨by omega, by omega⟩
                          have HBL : Hid (b.out.length + ed.out.length ≤ 256 * (k + 1) ∧ b.inn.length + ed.inn.length ≤ 256 * (k + 1)) := by have := HBQ.out; exact ⟨by omega, by omega⟩
                          have HNX : Hid (Gk recs (k + 1) noE (es ++ [joinE b ed])) := HGK.out.last HR.out HFT.out HFO.out

                          clear HF1 HF2 HX2 HL HL2
                          generalize hX9 : w1.heap.size = X at HQ
                          go_upto_region 15 with fail
                          clear y0 y1 y2 y3 y4 y5 fN
                          try rw [hX9]
                          clear hX9
                          generalize hWq : (w1.alloc (.cells #[.int .u64 (ed.log : Int), .int .u64 (ed.nxt : Int), .int .u64 (ed.seq : Int), .slice oa ed.out.length oc, .slice ia ed.inn.length ic, .slice pa ed.ptr.length pc] 61)) = W at *
                          clear hWq
                          have hX := HQ.out.2.1
                          have y3 := HQ.out.1.box.2.1 3 _ rfl
                          have y4 := HQ.out.1.box.2.1 4 _ rfl
                          have y5 := HQ.out.1.box.2.1 5 _ rfl
                          have fN := HQ.out.1.box.2.2
                          have x3 := hX.2.1 3 _ rfl
                          have x4 := hX.2.1 4 _ rfl
                          have x5 := hX.2.1 5 _ rfl
                          have hTN := HQ.out.1.tag
                          have HTN := hid9 hTN
                          have HXL := hid9 hX.1
                          have HXT := hid9 HQ.out.2.2.2.2.2
                          clear hX hTN
                          dsimp only at x3 x4 x5
                          go_upto_region 15 with fail
                          go_upto_region 20 with (first
                            | (at_builtin; go_loud (refine wpList_appK kPl _ (by rfl) (.tmp 102) (.tmp 104) 57 (by rfl) iz Try.underlying57 hiz hz0 hz1 hz2 4 T (.slice o.1 o.2.1 o.2.2) b.out (by rfl) HQ.out.1.out oa ed.out.length oc ed.out (by rfl) rfl HQ.out.2.2.1.2.2.1 HQ.out.2.2.1.1 (by have := HBD.out; omega) ?_; intro a2 c2 T2 w2 ho2 hg2; have H2 := hid9 (And.intro hg2 ho2); have m3 := (hg2.cell HQ.out.1.box.1 (by rw [HTN.out]; decide)).trans y3; have m4 := (hg2.cell HQ.out.1.box.1 (by rw [HTN.out]; decide)).trans y4; have m5 := (hg2.cell HQ.out.1.box.1 (by rw [HTN.out]; decide)).trans y5; have mf : ∀ j, w2.frozen? ⟨w.heap.size, j, none⟩ = false := fun j => (World.frozen?_of_block (a := ⟨w.heap.size, j, none⟩) (hg2.block _ HQ.out.1.box.1 (by rw [HTN.out]; decide))).trans (fN j); have n4 := (hg2.cell HXL.out (by rw [HXT.out]; decide)).trans x4; have n5 := (hg2.cell HXL.out (by rw [HXT.out]; decide)).trans x5; clear ho2 hg2 y3 y4 y5 fN x3 x4 x5))
                            | (at_builtin; go_loud (refine wpList_appK kPd _ (by rfl) (.tmp 108) (.tmp 110) 58 (by rfl) jz Try.underlying58 hjz jz0 jz1 jz2 5 T2 (.slice i.1 i.2.1 i.2.2) b.inn (by rfl) ((HQ.out.1.inn.goes H2.out.1 (by decide)).goes (Goes.setCell (t := (· = 2)) ((H2.out.1.tag _ HQ.out.1.box.1 (by rw [HTN.out]; decide)).trans HTN.out)) (by decide)) ia ed.inn.length ic ed.inn (by rfl) rfl HQ.out.2.2.2.1.2.2.1 ((HQ.out.2.2.2.1.goes H2.out.1 (by decide)).goes (Goes.setCell (t := (· = 2)) ((H2.out.1.tag _ HQ.out.1.box.1 (by rw [HTN.out]; decide)).trans HTN.out)) (by decide)).1 (by have := HBD.out; omega) ?_; intro a3 c3 T3 w3 ho3 hg3; have HJ := hid9 (Gs.joinR (o2 := (a2, _, c2)) (i2 := (a3, _, c3)) HQ.out.1 HSM.out H2.out.1 H2.out.2 hg3 ho3 HQ.out.2.2.2.2.1); have hTN2 := (H2.out.1.tag _ HQ.out.1.box.1 (by rw [HTN.out]; decide)).trans HTN.out; have hl2 : w.heap.size < (w2.setCell ⟨w.heap.size, 3, none⟩ (.slice a2 (b.out.length + ed.out.length) c2)).heap.size := (by have := HQ.out.1.box.1; have := H2.out.1.size; simp; omega); have k4 := (hg3.cell (j := 4) hl2 (by rw [hTN2]; decide)).trans ((World.cell?_setCell_other _ _ _ _ (by intro z; cases z)).trans m4); have k5 := (hg3.cell (j := 5) hl2 (by rw [hTN2]; decide)).trans ((World.cell?_setCell_other _ _ _ _ (by intro z; cases z)).trans m5); have kf : ∀ j, w3.frozen? ⟨w.heap.size, j, none⟩ = false := fun j => (World.frozen?_of_block (a := ⟨w.heap.size, j, none⟩) (hg3.block _ hl2 (by rw [hTN2]; decide))).trans (by rw [World.frozen?_setCell]; exact mf j); have hx2 : X < (w2.setCell ⟨w.heap.size, 3, none⟩ (.slice a2 (b.out.length + ed.out.length) c2)).heap.size := (by have := HXL.out; have := H2.out.1.size; simp; omega); have l5 := (hg3.cell (j := 5) hx2 (by rw [(H2.out.1.tag X HXL.out (by rw [HXT.out]; decide)).trans HXT.out]; decide)).trans ((World.cell?_setCell_other _ _ _ _ (by intro z; injection z with z1 z2; cases z2)).trans n5); clear ho3 hg3 m3 m4 m5 mf n4 n5 hTN2 hl2 hx2)))
                          have HJ2 : Hid (Gs w T3 ((w3.setCell ⟨w.heap.size, 4, none⟩ (.slice a3 (b.inn.length + ed.inn.length) c3)).setCell ⟨w.heap.size, 5, none⟩ (.slice pa ed.ptr.length pc)) (joinE b ed) es s (a2, b.out.length + ed.out.length, c2) (a3, b.inn.length + ed.inn.length, c3) (pa, ed.ptr.length, pc)) := HJ.out
                          clear HJ k4 k5 kf l5
                          generalize hWj : ((w3.setCell ⟨w.heap.size, 4, none⟩ (.slice a3 (b.inn.length + ed.inn.length) c3)).setCell ⟨w.heap.size, 5, none⟩ (.slice pa ed.ptr.length pc)) = W3 at *
                          clear hWj
                          have v0 : W3.cell? ⟨w.heap.size, 0, none⟩ = some (.int .u64 (ed.log : Int)) := HJ2.out.box.2.1 0 _ rfl
                          have v1 : W3.cell? ⟨w.heap.size, 1, none⟩ = some (.int .u64 (ed.nxt : Int)) := HJ2.out.box.2.1 1 _ rfl
                          have v2 : W3.cell? ⟨w.heap.size, 2, none⟩ = some (.int .u64 (ed.seq : Int)) := HJ2.out.box.2.1 2 _ rfl
                          have v3 : W3.cell? ⟨w.heap.size, 3, none⟩ = some (.slice a2 (b.out.length + ed.out.length) c2) := HJ2.out.box.2.1 3 _ rfl
                          have v4 : W3.cell? ⟨w.heap.size, 4, none⟩ = some (.slice a3 (b.inn.length + ed.inn.length) c3) := HJ2.out.box.2.1 4 _ rfl
                          have v5 : W3.cell? ⟨w.heap.size, 5, none⟩ = some (.slice pa ed.ptr.length pc) := HJ2.out.box.2.1 5 _ rfl
                          obtain ⟨vs, hv1, hv2, hv3⟩ := HJ2.out.own
                          have HVS := hid9 (And.intro hv1 (And.intro hv2 hv3))
                          have hvl : vs.length ≤ k := by omega
                          clear hv1 hv2 hv3
                          have hb4 := (Below.refl W3.heap.size W3).alloc (Nat.le_refl _) (.cells #[.int .u64 (ed.log : Int), .int .u64 (ed.nxt : Int), .int .u64 (ed.seq : Int), .slice a2 (b.out.length + ed.out.length) c2, .slice a3 (b.inn.length + ed.inn.length) c3, .slice pa ed.ptr.length pc] 61)
                          have HB4 := hid9 hb4
                          clear hb4
                          go_wp2_with (at_builtin; go_loud (refine wpList_appK kE _ (by rfl) (.tmp 118) (.tmp 120) 43 (by rfl) ez Try.underlying43 hez ez0 ez1 ez2 1 (fin T3) (.slice s.1 s.2.1 s.2.2) vs (by rfl) ((own_fin HVS.out.1).below HB4.out) (some ⟨W3.heap.size, 0, none⟩) 1 1 [(ed.log, ed.nxt, ed.seq, (a2, b.out.length + ed.out.length, c2), (a3, b.inn.length + ed.inn.length, c3), (pa, ed.ptr.length, pc))] (by rfl) rfl (by simp) (isK_new kE W3 (ed.log, ed.nxt, ed.seq, (a2, b.out.length + ed.out.length, c2), (a3, b.inn.length + ed.inn.length, c3), (pa, ed.ptr.length, pc)) 61) (by simp; omega) ?_; intro a4 c4 T4 w4 ho4 hg4; have HL4 := hid9 (HJ2.out.lastR (s2 := (a4, vs.length + 1, c4)) ((Goes.below (t := (· = 1)) HB4.out).trans hg4) vs HVS.out.2.1 HVS.out.2.2 ho4); clear ho4 hg4; rw [List.length_singleton]))
                          go_roundw
                          case rel => exact ⟨k + 1, T4, es ++ [joinE b ed], (a4, vs.length + 1, c4), true, noE, nS, nS, nS, by omega, rfl, rfl, by go_num, ⟨by simp [noE], by simp [noE], by simp; omega⟩, .inl ⟨rfl, rfl, HL4.out, HNX.out⟩⟩
                          case measure => simp [intOf]; omega
                        · have z9 : (0 : Int) < (ed.out.length : Int) := by omega
                          have HG := hid9 (HGK.out.no HR.out (.inr ⟨_, _, HFT.out, fol_no HTB.out (by rintro ⟨a1, a2, a3, a4, a5⟩; omega)⟩))
                          go_wp2_with fail
                          go_ret2
                          exact .inr ⟨HG.out, rfl, HBB.out.alloc HBB.out.size _⟩
                    · have z53 : ((ed.seq : Int) != (b.seq : Int)) = true := by simp; omega
                      have HG := hid9 (HGK.out.no HR.out (.inr ⟨_, _, HFT.out, fol_no HTB.out (by rintro ⟨a1, a2, a3, a4, a5⟩; exact e3 a4)⟩))
                      go_wp2_with fail
                      go_ret2
                      exact .inr ⟨HG.out, rfl, HBB.out.alloc HBB.out.size _⟩
                  · have z52 : ((ed.nxt : Int) != (b.nxt : Int)) = true := by simp; omega
                    have HG := hid9 (HGK.out.no HR.out (.inr ⟨_, _, HFT.out, fol_no HTB.out (by rintro ⟨a1, a2, a3, a4, a5⟩; exact e2 a3)⟩))
                    go_wp2_with fail
                    go_ret2
                    exact .inr ⟨HG.out, rfl, HBB.out.alloc HBB.out.size _⟩
                · have z51 : ((ed.log : Int) != (b.log : Int)) = true := by simp; omega
                  have HG := hid9 (HGK.out.no HR.out (.inr ⟨_, _, HFT.out, fol_no HTB.out (by rintro ⟨a1, a2, a3, a4, a5⟩; exact e1 a2)⟩))
                  go_wp2_with fail
                  go_ret2
                  exact .inr ⟨HG.out, rfl, HBB.out.alloc HBB.out.size _⟩
              · have z4 : (ed.out.length : Int) + (ed.inn.length : Int) = 0 := by omega
                have HG := hid9 (HGK.out.no HR.out (.inr ⟨_, _, HFT.out, fol_no HTB.out (by rintro ⟨a1, a2, a3, a4, a5⟩; unfold tabs at a1; omega)⟩))
                go_wp2_with fail
                go_ret2
                exact .inr ⟨HG.out, rfl, HBB.out.alloc HBB.out.size _⟩
            | false =>
              by_cases h2 : ed.out.length + ed.inn.length = 256
              · have z2 : (ed.out.length : Int) + (ed.inn.length : Int) = 256 := by omega
                have HH2 := hid9 h2
                clear h2
                by_cases h3 : ed.ptr.length = 0
                · have z3 : (ed.ptr.length : Int) = 0 := by omega
                  have HH3 := hid9 h3
                  clear h3
                  have HFT := hid9 (fit_yes HRD.out (fit_iff.2 ⟨by unfold tabs; omega, .inr ⟨by have := HH2.out; unfold tabs; omega, HH3.out⟩⟩))
                  have hb2 := (Below.refl w1.heap.size w1).alloc (Nat.le_refl _) (.cells #[.int .u64 (ed.log : Int), .int .u64 (ed.nxt : Int), .int .u64 (ed.seq : Int), .slice oa ed.out.length oc, .slice ia ed.inn.length ic, .slice pa ed.ptr.length pc] 61)
                  have HF2 := hid9 (HF1.out.below hb2)
                  have HX2 := hid9 (Zb.new w1 #[.int .u64 (ed.log : Int), .int .u64 (ed.nxt : Int), .int .u64 (ed.seq : Int), .slice oa ed.out.length oc, .slice ia ed.inn.length ic, .slice pa ed.ptr.length pc] 61)
                  have HL2 := hid9 (And.intro (HL.out.1.below hb2) (And.intro (HL.out.2.1.below hb2) (HL.out.2.2.below hb2)))
                  have y0 := HF2.out.box.2.1 0 _ rfl
                  have y1 := HF2.out.box.2.1 1 _ rfl
                  have y2 := HF2.out.box.2.1 2 _ rfl
                  have y3 := HF2.out.box.2.1 3 _ rfl
                  have y4 := HF2.out.box.2.1 4 _ rfl
                  have y5 := HF2.out.box.2.1 5 _ rfl
                  have fN := HF2.out.box.2.2
                  have hil : i.2.1 = b.inn.length := (OwnK.sk HF2.out.inn).1
                  have HIL := hid9 hil
                  clear hil hb2
                  have HH0 : Hid (0 < tabs ed) := by have := HH2.out; show 0 < tabs ed; unfold tabs; omega
                  by_cases e1 : ed.log = b.log
                  · have z51 : ((ed.log : Int) != (b.log : Int)) = false := by simp; omega
                    have HE1 := hid9 e1
                    clear e1
                    by_cases e2 : ed.nxt = b.nxt
                    · have z52 : ((ed.nxt : Int) != (b.nxt : Int)) = false := by simp; omega
                      have HE2 := hid9 e2
                      clear e2
                      by_cases e3 : ed.seq = b.seq
                      · have z53 : ((ed.seq : Int) != (b.seq : Int)) = false := by simp; omega
                        have HE3 := hid9 e3
                        clear e3
                        by_cases h5 : b.inn.length = 0
                        · have z8 : ¬ (0 : Int) < (i.2.1 : Int) := by have := HIL.out; omega
                          have HH5 : Hid (b.inn.length = 0 ∨ ed.out.length = 0) := .inl h5
                          clear h5
                          have HFO := hid9 (fol_yes (b := b) (r := ed) HH0.out HE1.out HE2.out HE3.out HH5.out)
                          have HQ : Hid (Gs w T (w1.alloc (.cells #[.int .u64 (ed.log : Int), .int .u64 (ed.nxt : Int), .int .u64 (ed.seq : Int), .slice oa ed.out.length oc, .slice ia ed.inn.length ic, .slice pa ed.ptr.length pc] 61)) b es s o i p ∧ Zb (w1.alloc (.cells #[.int .u64 (ed.log : Int), .int .u64 (ed.nxt : Int), .int .u64 (ed.seq : Int), .slice oa ed.out.length oc, .slice ia ed.inn.length ic, .slice pa ed.ptr.length pc] 61)) w1.heap.size (evC ed.log ed.nxt ed.seq (oa, ed.out.length, oc) (ia, ed.inn.length, ic) (pa, ed.ptr.length, pc)) ∧ Isk kPl T (w1.alloc (.cells #[.int .u64 (ed.log : Int), .int .u64 (ed.nxt : Int), .int .u64 (ed.seq : Int), .slice oa ed.out.length oc, .slice ia ed.inn.length ic, .slice pa ed.ptr.length pc] 61)) (oa, ed.out.length, oc) ed.out ∧ Isk kPd T (w1.alloc (.cells #[.int .u64 (ed.log : Int), .int .u64 (ed.nxt : Int), .int .u64 (ed.seq : Int), .slice oa ed.out.length oc, .slice ia ed.inn.length ic, .slice pa ed.ptr.length pc] 61)) (ia, ed.inn.length, ic) ed.inn ∧ Isk kT T (w1.alloc (.cells #[.int .u64 (ed.log : Int), .int .u64 (ed.nxt : Int), .int .u64 (ed.seq : Int), .slice oa ed.out.length oc, .slice ia ed.inn.length ic, .slice pa ed.ptr.length pc] 61)) (pa, ed.ptr.length, pc) ed.ptr ∧ T w1.heap.size = 0) := ⟨HF2.out, HX2.out, HL2.out.1, HL2.out.2.1, HL2.out.2.2, HF1.out.high _ (Nat.le_refl _)⟩
                          have HSM : Hid (b.log = ed.log ∧ b.nxt = ed.nxt ∧ b.seq = ed.seq) := ⟨HE1.out.symm, HE2.out.symm, HE3.out.symm⟩
                          have HBD : Hid (b.out.length + ed.out.length ≤ 1000000000000 ∧ b.inn.length + ed.inn.length ≤ 1000000000000) := by have := HBQ.out; exact ⟨by omega, by omega⟩
                          have HBL : Hid (b.out.length + ed.out.length ≤ 256 * (k + 1) ∧ b.inn.length + ed.inn.length ≤ 256 * (k + 1)) := by have := HBQ.out; exact ⟨by omega, by omega⟩
                          have HNX : Hid (Gk recs (k + 1) (joinE b ed) es) := HGK.out.step HR.out HFT.out HFO.out
                          have HTP := HH0
                          clear HF1 HF2 HX2 HL HL2
                          generalize hX9 : w1.heap.size = X at HQ
                          go_upto_region 15 with fail
                          clear y0 y1 y2 y3 y4 y5 fN
                          try rw [hX9]
                          clear hX9
                          generalize hWq : (w1.alloc (.cells #[.int .u64 (ed.log : Int), .int .u64 (ed.nxt : Int), .int .u64 (ed.seq : Int), .slice oa ed.out.length oc, .slice ia ed.inn.length ic, .slice pa ed.ptr.length pc] 61)) = W at *
                          clear hWq
                          have hX := HQ.out.2.1
                          have y3 := HQ.out.1.box.2.1 3 _ rfl
                          have y4 := HQ.out.1.box.2.1 4 _ rfl
                          have y5 := HQ.out.1.box.2.1 5 _ rfl
                          have fN := HQ.out.1.box.2.2
                          have x3 := hX.2.1 3 _ rfl
                          have x4 := hX.2.1 4 _ rfl
                          have x5 := hX.2.1 5 _ rfl
                          have hTN := HQ.out.1.tag
                          have HTN := hid9 hTN
                          have HXL := hid9 hX.1
                          have HXT := hid9 HQ.out.2.2.2.2.2
                          clear hX hTN
                          dsimp only at x3 x4 x5
                          go_upto_region 15 with fail
                          go_wp2_with (first
                            | (at_builtin; go_loud (refine wpList_appK kPl _ (by rfl) (.tmp 102) (.tmp 104) 57 (by rfl) iz Try.underlying57 hiz hz0 hz1 hz2 4 T (.slice o.1 o.2.1 o.2.2) b.out (by rfl) HQ.out.1.out oa ed.out.length oc ed.out (by rfl) rfl HQ.out.2.2.1.2.2.1 HQ.out.2.2.1.1 (by have := HBD.out; omega) ?_; intro a2 c2 T2 w2 ho2 hg2; have H2 := hid9 (And.intro hg2 ho2); have m3 := (hg2.cell HQ.out.1.box.1 (by rw [HTN.out]; decide)).trans y3; have m4 := (hg2.cell HQ.out.1.box.1 (by rw [HTN.out]; decide)).trans y4; have m5 := (hg2.cell HQ.out.1.box.1 (by rw [HTN.out]; decide)).trans y5; have mf : ∀ j, w2.frozen? ⟨w.heap.size, j, none⟩ = false := fun j => (World.frozen?_of_block (a := ⟨w.heap.size, j, none⟩) (hg2.block _ HQ.out.1.box.1 (by rw [HTN.out]; decide))).trans (fN j); have n4 := (hg2.cell HXL.out (by rw [HXT.out]; decide)).trans x4; have n5 := (hg2.cell HXL.out (by rw [HXT.out]; decide)).trans x5; clear ho2 hg2 y3 y4 y5 fN x3 x4 x5))
                            | (at_builtin; go_loud (refine wpList_appK kPd _ (by rfl) (.tmp 108) (.tmp 110) 58 (by rfl) jz Try.underlying58 hjz jz0 jz1 jz2 5 T2 (.slice i.1 i.2.1 i.2.2) b.inn (by rfl) ((HQ.out.1.inn.goes H2.out.1 (by decide)).goes (Goes.setCell (t := (· = 2)) ((H2.out.1.tag _ HQ.out.1.box.1 (by rw [HTN.out]; decide)).trans HTN.out)) (by decide)) ia ed.inn.length ic ed.inn (by rfl) rfl HQ.out.2.2.2.1.2.2.1 ((HQ.out.2.2.2.1.goes H2.out.1 (by decide)).goes (Goes.setCell (t := (· = 2)) ((H2.out.1.tag _ HQ.out.1.box.1 (by rw [HTN.out]; decide)).trans HTN.out)) (by decide)).1 (by have := HBD.out; omega) ?_; intro a3 c3 T3 w3 ho3 hg3; have HJ := hid9 (Gs.joinR (o2 := (a2, _, c2)) (i2 := (a3, _, c3)) HQ.out.1 HSM.out H2.out.1 H2.out.2 hg3 ho3 HQ.out.2.2.2.2.1); have hTN2 := (H2.out.1.tag _ HQ.out.1.box.1 (by rw [HTN.out]; decide)).trans HTN.out; have hl2 : w.heap.size < (w2.setCell ⟨w.heap.size, 3, none⟩ (.slice a2 (b.out.length + ed.out.length) c2)).heap.size := (by have := HQ.out.1.box.1; have := H2.out.1.size; simp; omega); have k4 := (hg3.cell (j := 4) hl2 (by rw [hTN2]; decide)).trans ((World.cell?_setCell_other _ _ _ _ (by intro z; cases z)).trans m4); have k5 := (hg3.cell (j := 5) hl2 (by rw [hTN2]; decide)).trans ((World.cell?_setCell_other _ _ _ _ (by intro z; cases z)).trans m5); have kf : ∀ j, w3.frozen? ⟨w.heap.size, j, none⟩ = false := fun j => (World.frozen?_of_block (a := ⟨w.heap.size, j, none⟩) (hg3.block _ hl2 (by rw [hTN2]; decide))).trans (by rw [World.frozen?_setCell]; exact mf j); have hx2 : X < (w2.setCell ⟨w.heap.size, 3, none⟩ (.slice a2 (b.out.length + ed.out.length) c2)).heap.size := (by have := HXL.out; have := H2.out.1.size; simp; omega); have l5 := (hg3.cell (j := 5) hx2 (by rw [(H2.out.1.tag X HXL.out (by rw [HXT.out]; decide)).trans HXT.out]; decide)).trans ((World.cell?_setCell_other _ _ _ _ (by intro z; injection z with z1 z2; cases z2)).trans n5); clear ho3 hg3 m3 m4 m5 mf n4 n5 hTN2 hl2 hx2)))
                          go_roundw
                          case rel => exact ⟨k + 1, T3, es, s, false, joinE b ed, _, _, _, by omega, rfl, rfl, by go_num, ⟨by have := HBL.out; show (b.out ++ ed.out).length ≤ _; rw [List.length_append]; omega, by have := HBL.out; show (b.inn ++ ed.inn).length ≤ _; rw [List.length_append]; omega, by omega⟩, .inr ⟨rfl, HJ.out, by have := HTP.out; rw [tabs_join]; unfold tabs at *; omega, HNX.out⟩⟩
                          case measure => simp [intOf]; omega
                        · have z8 : (0 : Int) < (i.2.1 : Int) := by have := HIL.out; omega
                          by_cases h6 : ed.out.length = 0
                          · have z9 : (ed.out.length : Int) = 0 := by omega
                            have z10 : ((ed.inn.length : Int) == 0) = false := by have := HH0.out; unfold tabs at this; simp only [beq_eq_false_iff_ne, ne_eq]; omega
                            have z11 : ¬ (ed.inn.length : Int) = 0 := by have := HH0.out; unfold tabs at this; omega
                            have HH5 : Hid (b.inn.length = 0 ∨ ed.out.length = 0) := .inr h6
                            clear h6 h5
                            have HFO := hid9 (fol_yes (b := b) (r := ed) HH0.out HE1.out HE2.out HE3.out HH5.out)
                            have HQ : Hid (Gs w T (w1.alloc (.cells #[.int .u64 (ed.log : Int), .int .u64 (ed.nxt : Int), .int .u64 (ed.seq : Int), .slice oa ed.out.length oc, .slice ia ed.inn.length ic, .slice pa ed.ptr.length pc] 61)) b es s o i p ∧ Zb (w1.alloc (.cells #[.int .u64 (ed.log : Int), .int .u64 (ed.nxt : Int), .int .u64 (ed.seq : Int), .slice oa ed.out.length oc, .slice ia ed.inn.length ic, .slice pa ed.ptr.length pc] 61)) w1.heap.size (evC ed.log ed.nxt ed.seq (oa, ed.out.length, oc) (ia, ed.inn.length, ic) (pa, ed.ptr.length, pc)) ∧ Isk kPl T (w1.alloc (.cells #[.int .u64 (ed.log : Int), .int .u64 (ed.nxt : Int), .int .u64 (ed.seq : Int), .slice oa ed.out.length oc, .slice ia ed.inn.length ic, .slice pa ed.ptr.length pc] 61)) (oa, ed.out.length, oc) ed.out ∧ Isk kPd T (w1.alloc (.cells #[.int .u64 (ed.log : Int), .int .u64 (ed.nxt : Int), .int .u64 (ed.seq : Int), .slice oa ed.out.length oc, .slice ia ed.inn.length ic, .slice pa ed.ptr.length pc] 61)) (ia, ed.inn.length, ic) ed.inn ∧ Isk kT T (w1.alloc (.cells #[.int .u64 (ed.log : Int), .int .u64 (ed.nxt : Int), .int .u64 (ed.seq : Int), .slice oa ed.out.length oc, .slice ia ed.inn.length ic, .slice pa ed.ptr.length pc] 61)) (pa, ed.ptr.length, pc) ed.ptr ∧ T w1.heap.size = 0) := ⟨HF2.out, HX2.out, HL2.out.1, HL2.out.2.1, HL2.out.2.2, HF1.out.high _ (Nat.le_refl _)⟩
                            have HSM : Hid (b.log = ed.log ∧ b.nxt = ed.nxt ∧ b.seq = ed.seq) := ⟨HE1.out.symm, HE2.out.symm, HE3.out.symm⟩
                            have HBD : Hid (b.out.length + ed.out.length ≤ 1000000000000 ∧ b.inn.length + ed.inn.length ≤ 1000000000000) := by have := HBQ.out; exact ⟨by omega, by omega⟩
                            have HBL : Hid (b.out.length + ed.out.length ≤ 256 * (k + 1) ∧ b.inn.length + ed.inn.length ≤ 256 * (k + 1)) := by have := HBQ.out; exact ⟨by omega, by omega⟩
                            have HNX : Hid (Gk recs (k + 1) (joinE b ed) es) := HGK.out.step HR.out HFT.out HFO.out
                            have HTP := HH0
                            clear HF1 HF2 HX2 HL HL2
                            generalize hX9 : w1.heap.size = X at HQ
                            go_upto_region 15 with fail
                            clear y0 y1 y2 y3 y4 y5 fN
                            try rw [hX9]
                            clear hX9
                            generalize hWq : (w1.alloc (.cells #[.int .u64 (ed.log : Int), .int .u64 (ed.nxt : Int), .int .u64 (ed.seq : Int), .slice oa ed.out.length oc, .slice ia ed.inn.length ic, .slice pa ed.ptr.length pc] 61)) = W at *
                            clear hWq
                            have hX := HQ.out.2.1
                            have y3 := HQ.out.1.box.2.1 3 _ rfl
                            have y4 := HQ.out.1.box.2.1 4 _ rfl
                            have y5 := HQ.out.1.box.2.1 5 _ rfl
                            have fN := HQ.out.1.box.2.2
                            have x3 := hX.2.1 3 _ rfl
                            have x4 := hX.2.1 4 _ rfl
                            have x5 := hX.2.1 5 _ rfl
                            have hTN := HQ.out.1.tag
                            have HTN := hid9 hTN
                            have HXL := hid9 hX.1
                            have HXT := hid9 HQ.out.2.2.2.2.2
                            clear hX hTN
                            dsimp only at x3 x4 x5
                            go_upto_region 15 with fail
                            go_wp2_with (first
                              | (at_builtin; go_loud (refine wpList_appK kPl _ (by rfl) (.tmp 102) (.tmp 104) 57 (by rfl) iz Try.underlying57 hiz hz0 hz1 hz2 4 T (.slice o.1 o.2.1 o.2.2) b.out (by rfl) HQ.out.1.out oa ed.out.length oc ed.out (by rfl) rfl HQ.out.2.2.1.2.2.1 HQ.out.2.2.1.1 (by have := HBD.out; omega) ?_; intro a2 c2 T2 w2 ho2 hg2; have H2 := hid9 (And.intro hg2 ho2); have m3 := (hg2.cell HQ.out.1.box.1 (by rw [HTN.out]; decide)).trans y3; have m4 := (hg2.cell HQ.out.1.box.1 (by rw [HTN.out]; decide)).trans y4; have m5 := (hg2.cell HQ.out.1.box.1 (by rw [HTN.out]; decide)).trans y5; have mf : ∀ j, w2.frozen? ⟨w.heap.size, j, none⟩ = false := fun j => (World.frozen?_of_block (a := ⟨w.heap.size, j, none⟩) (hg2.block _ HQ.out.1.box.1 (by rw [HTN.out]; decide))).trans (fN j); have n4 := (hg2.cell HXL.out (by rw [HXT.out]; decide)).trans x4; have n5 := (hg2.cell HXL.out (by rw [HXT.out]; decide)).trans x5; clear ho2 hg2 y3 y4 y5 fN x3 x4 x5))
                              | (at_builtin; go_loud (refine wpList_appK kPd _ (by rfl) (.tmp 108) (.tmp 110) 58 (by rfl) jz Try.underlying58 hjz jz0 jz1 jz2 5 T2 (.slice i.1 i.2.1 i.2.2) b.inn (by rfl) ((HQ.out.1.inn.goes H2.out.1 (by decide)).goes (Goes.setCell (t := (· = 2)) ((H2.out.1.tag _ HQ.out.1.box.1 (by rw [HTN.out]; decide)).trans HTN.out)) (by decide)) ia ed.inn.length ic ed.inn (by rfl) rfl HQ.out.2.2.2.1.2.2.1 ((HQ.out.2.2.2.1.goes H2.out.1 (by decide)).goes (Goes.setCell (t := (· = 2)) ((H2.out.1.tag _ HQ.out.1.box.1 (by rw [HTN.out]; decide)).trans HTN.out)) (by decide)).1 (by have := HBD.out; omega) ?_; intro a3 c3 T3 w3 ho3 hg3; have HJ := hid9 (Gs.joinR (o2 := (a2, _, c2)) (i2 := (a3, _, c3)) HQ.out.1 HSM.out H2.out.1 H2.out.2 hg3 ho3 HQ.out.2.2.2.2.1); have hTN2 := (H2.out.1.tag _ HQ.out.1.box.1 (by rw [HTN.out]; decide)).trans HTN.out; have hl2 : w.heap.size < (w2.setCell ⟨w.heap.size, 3, none⟩ (.slice a2 (b.out.length + ed.out.length) c2)).heap.size := (by have := HQ.out.1.box.1; have := H2.out.1.size; simp; omega); have k4 := (hg3.cell (j := 4) hl2 (by rw [hTN2]; decide)).trans ((World.cell?_setCell_other _ _ _ _ (by intro z; cases z)).trans m4); have k5 := (hg3.cell (j := 5) hl2 (by rw [hTN2]; decide)).trans ((World.cell?_setCell_other _ _ _ _ (by intro z; cases z)).trans m5); have kf : ∀ j, w3.frozen? ⟨w.heap.size, j, none⟩ = false := fun j => (World.frozen?_of_block (a := ⟨w.heap.size, j, none⟩) (hg3.block _ hl2 (by rw [hTN2]; decide))).trans (by rw [World.frozen?_setCell]; exact mf j); have hx2 : X < (w2.setCell ⟨w.heap.size, 3, none⟩ (.slice a2 (b.out.length + ed.out.length) c2)).heap.size := (by have := HXL.out; have := H2.out.1.size; simp; omega); have l5 := (hg3.cell (j := 5) hx2 (by rw [(H2.out.1.tag X HXL.out (by rw [HXT.out]; decide)).trans HXT.out]; decide)).trans ((World.cell?_setCell_other _ _ _ _ (by intro z; injection z with z1 z2; cases z2)).trans n5); clear ho3 hg3 m3 m4 m5 mf n4 n5 hTN2 hl2 hx2)))
                            go_roundw
                            case rel => exact ⟨k + 1, T3, es, s, false, joinE b ed, _, _, _, by omega, rfl, rfl, by go_num, ⟨by have := HBL.out; show (b.out ++ ed.out).length ≤ _; rw [List.length_append]; omega, by have := HBL.out; show (b.inn ++ ed.inn).length ≤ _; rw [List.length_append]; omega, by omega⟩, .inr ⟨rfl, HJ.out, by have := HTP.out; rw [tabs_join]; unfold tabs at *; omega, HNX.out⟩⟩
                            case measure => simp [intOf]; omega
                          · have z9 : (0 : Int) < (ed.out.length : Int) := by omega
                            have HG := hid9 (HGK.out.no HR.out (.inr ⟨_, _, HFT.out, fol_no HTB.out (by rintro ⟨a1, a2, a3, a4, a5⟩; omega)⟩))
                            go_wp2_with fail
                            go_ret2
                            exact .inr ⟨HG.out, rfl, HBB.out.alloc HBB.out.size _⟩
                      · have z53 : ((ed.seq : Int) != (b.seq : Int)) = true := by simp; omega
                        have HG := hid9 (HGK.out.no HR.out (.inr ⟨_, _, HFT.out, fol_no HTB.out (by rintro ⟨a1, a2, a3, a4, a5⟩; exact e3 a4)⟩))
                        go_wp2_with fail
                        go_ret2
                        exact .inr ⟨HG.out, rfl, HBB.out.alloc HBB.out.size _⟩
                    · have z52 : ((ed.nxt : Int) != (b.nxt : Int)) = true := by simp; omega
                      have HG := hid9 (HGK.out.no HR.out (.inr ⟨_, _, HFT.out, fol_no HTB.out (by rintro ⟨a1, a2, a3, a4, a5⟩; exact e2 a3)⟩))
                      go_wp2_with fail
                      go_ret2
                      exact .inr ⟨HG.out, rfl, HBB.out.alloc HBB.out.size _⟩
                  · have z51 : ((ed.log : Int) != (b.log : Int)) = true := by simp; omega
                    have HG := hid9 (HGK.out.no HR.out (.inr ⟨_, _, HFT.out, fol_no HTB.out (by rintro ⟨a1, a2, a3, a4, a5⟩; exact e1 a2)⟩))
                    go_wp2_with fail
                    go_ret2
                    exact .inr ⟨HG.out, rfl, HBB.out.alloc HBB.out.size _⟩
                · have z3 : ¬ (ed.ptr.length : Int) = 0 := by omega
                  have HG := hid9 (HGK.out.no HR.out (.inl (fit_no HRD.out (fit_neg (by unfold tabs; rintro ⟨z7, z8 | ⟨z8, z9⟩⟩ <;> first | (cases z8; done) | omega)))))
                  go_wp2_with fail
                  go_ret2
                  exact .inr ⟨HG.out, rfl, HBB.out.alloc HBB.out.size _⟩
              · have z2 : ¬ (ed.out.length : Int) + (ed.inn.length : Int) = 256 := by omega
                have HG := hid9 (HGK.out.no HR.out (.inl (fit_no HRD.out (fit_neg (by unfold tabs; rintro ⟨z7, z8 | ⟨z8, z9⟩⟩ <;> first | (cases z8; done) | omega)))))
                go_wp2_with fail
                go_ret2
                exact .inr ⟨HG.out, rfl, HBB.out.alloc HBB.out.size _⟩
          · have z1 : (256 : Int) < (ed.out.length : Int) + (ed.inn.length : Int) := by omega
            have HG := hid9 (HGK.out.no HR.out (.inl (fit_no HRD.out (fit_neg (by unfold tabs; rintro ⟨z7, z8 | ⟨z8, z9⟩⟩ <;> first | (cases z8; done) | omega)))))
            go_wp2_with fail
            go_ret2
            exact .inr ⟨HG.out, rfl, HBB.out.alloc HBB.out.size _⟩
    · have q1 : ¬ (k : Int) < (n : Int) := by omega
      have hkn : k = recs.length := by have := HN.out; omega
      have HE := hid9 (show gets recs noE = some es ∧ EdsAt wr s es ∧ Below w.heap.size w wr by
        rcases HX.out with ⟨_, _, hgf, hgk⟩ | ⟨_, hgs, _, hgk⟩
        · rw [hkn] at hgk
          exact ⟨hgk.done, hgf.eds, hgf.old.below⟩
        · rw [hkn] at hgk
          exact ⟨hgk.done, hgs.gf.eds, hgs.old.below⟩)
      clear HX
      go_wp2_with fail
      go_ret2
      exact .inl ⟨es, s, HE.out.1, rfl, HE.out.2.1, HE.out.2.2⟩
end Mnf
end Go.Proofs.Ytanpbknjnpmmnaa
