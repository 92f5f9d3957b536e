import Derived.Test.YtanpbknjnpmmnaaMs3
import Derived.Deep.DeepCutAuto
import Derived.Deep.RegionLaw
namespace Go.Proofs.Ytanpbknjnpmmnaa
namespace Mnf
open Go.RowKit CMath Byt Cod Crw Irw Laws
set_option linter.unusedVariables false
set_option linter.unusedSimpArgs false
set_option maxRecDepth 20000
theorem RecIs.ok {o : Option (Bool × Ed)} {last : Bool} {ed : Ed} {w : World} {e : Ending} {w' : World} (h : RecIs o w e w') (ho : o = some (last, ed)) : RecOk last ed w e w' := by
  rcases h with ⟨l', e', h1, h2⟩ | ⟨h1, _⟩
  · rw [ho] at h1
    cases h1
    exact h2
  · rw [ho] at h1; cases h1
theorem RecIs.no {o : Option (Bool × Ed)} {w : World} {e : Ending} {w' : World} (h : RecIs o w e w') (ho : o = none) : RecNo w e w' := by
  rcases h with ⟨l', e', h1, h2⟩ | ⟨h1, h2⟩
  · rw [ho] at h1; cases h1
  · exact h2
theorem tabs_le {l : List Nat} {last : Bool} {ed : Ed} (hb : ∀ c ∈ l, c < 256) (h : rdRec l = some (last, ed)) : ed.out.length ≤ 256 ∧ ed.inn.length ≤ 256 := by
  have := (rdRec_form l last ed hb h).2.2.1
  unfold tabs at this
  omega
/-- what stands in the record's box -/
def R8 (w1 : World) (B : Nat) (last : Bool) (ed : Ed) (G1 G2 G3 : Nat) : Prop := Zb w1 B [.bool last, .int .u64 (ed.log : Int), .int .u64 (ed.nxt : Int), .int .u64 (ed.seq : Int), .slice (some ⟨G1, 0, none⟩) ed.out.length ed.out.length, .slice (some ⟨G2, 0, none⟩) ed.inn.length ed.inn.length, .slice (some ⟨G3, 0, none⟩) ed.ptr.length ed.ptr.length]
theorem isK_one {α : Type} {K : Knd α} {w : World} {B : Nat} {x : α} (h : Zb w B (K.cs x)) : IsK K w (some ⟨B, 0, none⟩) [x] := by
  refine IsK.of ⟨h.1, fun i e he j u hu => ?_⟩
  have hi : i = 0 := by
    have := (List.getElem?_eq_some_iff.1 he).1
    simp at this
    omega
  subst hi
  simp at he
  subst he
  have := h.2.1 j u hu
  simpa using this
theorem isK_new {α : Type} (K : Knd α) (w : World) (x : α) (t : TypeId) : IsK K (w.alloc (.cells (K.cs x).toArray t)) (some ⟨w.heap.size, 0, none⟩) [x] := isK_one (by simpa using Zb.new w (K.cs x).toArray t)
set_option maxHeartbeats 1000000 in
theorem get_any (a : Option Addr) (n c : Nat) (recs : List (List Nat)) (w : World) (h : IsD w a recs) (hn : recs.length = n) (hmx : n ≤ 1000000) :
    Calls Try.prog 7 #[.slice a n c] w fun e w' => GtIs (gets recs noE) w e w' := by
  obtain ⟨iz, hiz, hz0, hz1, hz2⟩ := info_parts infoE
  have HD : Hid (IsD w a recs) := h
  have HN : Hid (recs.length = n) := hn
  clear h hn
  go_enter Try.func7, Try.ntmps7
  go_wp2
  obtain ⟨W, hW⟩ : ∃ W, w.alloc (.cells #[.int .u64 0, .int .u64 0, .int .u64 0, .slice none 0 0, .slice none 0 0, .slice none 0 0] 61) = W := ⟨_, rfl⟩
  have HS0 : Hid (Gs w (upd (fun _ => 0) w.heap.size 2) W noE [] nS nS nS nS) := by rw [← hW]; exact Gs.start w
  rw [hW]
  clear hW
  go_loopw [4, 12] (fun s4 i wr => ∃ (k : Nat) (T : Nat → Nat) (b : Ed) (es : List Ed) (s : Sv) (o2 i2 p2 : Sv), k ≤ n ∧ s4 = .slice s.1 s.2.1 s.2.2 ∧ i = .int .i64 (k : Int) ∧ (b.out.length ≤ 256 * k ∧ b.inn.length ≤ 256 * k ∧ es.length ≤ k) ∧ Hid (Gs w T wr b es s o2 i2 p2 ∧ Gk recs k b es)) (fun _ i _ => n - (intOf i).toNat)
  case atStart => exact ⟨0, _, noE, [], nS, nS, nS, nS, by omega, rfl, rfl, ⟨by simp [noE], by simp [noE], by simp⟩, HS0.out, Gk.start _⟩
  case round =>
    clear HS0
    obtain ⟨k, T, b, es, s, o, i, p, hk, rfl, rfl, hbd, HX⟩ := hrel
    rename World => wr
    obtain ⟨bl, bn, bs, bo, bi, bp⟩ := b
    dsimp only at hbd
    by_cases hlt : k < n
    · have q1 : (k : Int) < (n : Int) := by omega
      have hkl : k < recs.length := by rw [HN.out]; exact hlt
      obtain ⟨rb, roff, ra, rc, r, rfl, hx, hbl, c0, hi1, hn1, hl1, hm1⟩ := (HD.out.below HX.out.1.old.below).at_ hkl
      have HR : Hid (recs[k]? = some r) := hx
      have HB : Hid (∀ c ∈ r, c < 256) := hi1.2
      have HC : Hid (Calls Try.prog 16 #[.slice ra r.length rc] wr fun e w' => RecIs (rdRec r) wr e w') := readRecord_any ra r.length rc r wr hi1 rfl hl1 hm1
      clear hx hkl hi1 hn1
      cases hrd : rdRec r with
      | none =>
        have HG : Hid (gets recs noE = none) := HX.out.2.no HR.out (.inl hrd)
        have HRD : Hid (rdRec r = none) := hrd
        clear hrd
        go_wp2_with (go_at_call 16; go_loud (refine HC.out.mono ?_; rintro e w1 hp; obtain ⟨he, hb1⟩ := hp.no HRD.out; subst he; unfold recV nS; dsimp only; have HB1 : Hid (Below w.heap.size w w1) := HX.out.1.old.below.trans (hb1.mono HX.out.1.old.below.size); clear hb1 hp))
        go_ret2
        exact .inr ⟨HG.out, rfl, HB1.out.alloc HB1.out.size _⟩
      | some y =>
        obtain ⟨last, ed⟩ := y
        have ht := tabs_le HB.out hrd
        have HRD : Hid (rdRec r = some (last, ed)) := hrd
        clear hrd
        obtain ⟨ob, oi⟩ : bo.length ≤ 256 * k ∧ bi.length ≤ 256 * k := ⟨hbd.1, hbd.2.1⟩
        have HF : Hid (∀ (fb : Bool) (G1 G2 G3 : Nat) (W : World), follows ⟨bl, bn, bs, bo, bi, bp⟩ ed = fb → Calls Try.prog 17 #[.agg #[.int .u64 (bl : Int), .int .u64 (bn : Int), .int .u64 (bs : Int), .slice o.1 o.2.1 o.2.2, .slice i.1 i.2.1 i.2.2, .slice p.1 p.2.1 p.2.2], .agg #[.bool last, .int .u64 (ed.log : Int), .int .u64 (ed.nxt : Int), .int .u64 (ed.seq : Int), .slice (some ⟨G1, 0, none⟩) ed.out.length ed.out.length, .slice (some ⟨G2, 0, none⟩) ed.inn.length ed.inn.length, .slice (some ⟨G3, 0, none⟩) ed.ptr.length ed.ptr.length]] W fun e w' => e = .returned (.bool fb) ∧ Below W.heap.size W w') := by
          intro fb G1 G2 G3 W hfb
          have h1 := (OwnK.sk HX.out.1.out).1
          have h2 := (OwnK.sk HX.out.1.inn).1
          have := follows_any W bl bn bs ed.log ed.nxt ed.seq o i p (sv G1 ed.out.length) (sv G2 ed.inn.length) (sv G3 ed.ptr.length) last (by rw [h1]; dsimp only; omega) (by rw [h2]; dsimp only; omega) (by show ed.out.length ≤ _; omega) (by show ed.inn.length ≤ _; omega)
          rw [h1, h2] at this
          rw [← hfb, follows_N]
          exact this
        cases hf : follows ⟨bl, bn, bs, bo, bi, bp⟩ ed with
        | false =>
          have HG : Hid (gets recs noE = none) := HX.out.2.no HR.out (.inr ⟨last, ed, HRD.out, hf⟩)
          have HFF : Hid (follows ⟨bl, bn, bs, bo, bi, bp⟩ ed = false) := hf
          clear hf
          go_wp2_with (first
            | (go_at_call 16; go_loud (refine HC.out.mono ?_; rintro e w1 hp; obtain ⟨G1, G2, G3, he, hb1, hg, ho1, ho2, ho3⟩ := hp.ok HRD.out; subst he; unfold recV sv; dsimp only; have HB1 : Hid (Gs w T w1 ⟨bl, bn, bs, bo, bi, bp⟩ es s o i p) := HX.out.1.below hb1; have hlt1 := HB1.out.box.1; have y0 := HB1.out.box.2.1 0 _ rfl; have y1 := HB1.out.box.2.1 1 _ rfl; have y2 := HB1.out.box.2.1 2 _ rfl; have y3 := HB1.out.box.2.1 3 _ rfl; have y4 := HB1.out.box.2.1 4 _ rfl; have y5 := HB1.out.box.2.1 5 _ rfl; clear hb1 hp hg ho1 ho2 ho3))
            | (go_at_call 17; go_loud (refine (HF.out false G1 G2 G3 _ HFF.out).mono ?_; rintro e w2 ⟨he, hb2⟩; subst he; have HB2 : Hid (Below w.heap.size w w2) := (HB1.out.old.below.alloc HB1.out.old.below.size _).trans (hb2.mono (by have := HB1.out.old.below.size; simp; omega)); clear hb2)))
          go_ret2
          exact .inr ⟨HG.out, rfl, HB2.out⟩
        | true =>
          have HFF : Hid (follows ⟨bl, bn, bs, bo, bi, bp⟩ ed = true) := hf
          clear hf
          cases last with
          | false =>
            go_wp2_with (first
              | (go_at_call 16; go_loud (refine HC.out.mono ?_; rintro e w1 hp; obtain ⟨G1, G2, G3, he, hb1, hg, ho1, ho2, ho3⟩ := hp.ok HRD.out; subst he; unfold recV sv; dsimp only; have HB1 : Hid (Gs w T w1 ⟨bl, bn, bs, bo, bi, bp⟩ es s o i p) := HX.out.1.below hb1; have HQ1 : Hid (Isk kPl T w1 (sv G1 ed.out.length) ed.out ∧ Isk kPd T w1 (sv G2 ed.inn.length) ed.inn ∧ Isk kT T w1 (sv G3 ed.ptr.length) ed.ptr) := ⟨Isk.own ho1 (HX.out.1.high _ hg.1) rfl, Isk.own ho2 (HX.out.1.high _ hg.2.1) rfl, Isk.own ho3 (HX.out.1.high _ hg.2.2) rfl⟩; have hlt1 := HB1.out.box.1; have y0 := HB1.out.box.2.1 0 _ rfl; have y1 := HB1.out.box.2.1 1 _ rfl; have y2 := HB1.out.box.2.1 2 _ rfl; have y3 := HB1.out.box.2.1 3 _ rfl; have y4 := HB1.out.box.2.1 4 _ rfl; have y5 := HB1.out.box.2.1 5 _ rfl; clear hb1 hp hg ho1 ho2 ho3))
              | (go_at_call 17; go_loud (refine (HF.out true G1 G2 G3 _ HFF.out).mono ?_; rintro e w2 ⟨he, hb2⟩; subst he; have hb2' := ((Below.refl w1.heap.size w1).alloc (Nat.le_refl _) (.cells #[.bool false, .int .u64 (ed.log : Int), .int .u64 (ed.nxt : Int), .int .u64 (ed.seq : Int), .slice (some ⟨G1, 0, none⟩) ed.out.length ed.out.length, .slice (some ⟨G2, 0, none⟩) ed.inn.length ed.inn.length, .slice (some ⟨G3, 0, none⟩) ed.ptr.length ed.ptr.length] 65)).trans (hb2.mono (by simp)); have HB2 : Hid (Gs w T w2 ⟨bl, bn, bs, bo, bi, bp⟩ es s o i p) := HB1.out.below hb2'; have HQ2 : Hid (Isk kPl T w2 (sv G1 ed.out.length) ed.out ∧ Isk kPd T w2 (sv G2 ed.inn.length) ed.inn ∧ Isk kT T w2 (sv G3 ed.ptr.length) ed.ptr) := ⟨HQ1.out.1.below hb2', HQ1.out.2.1.below hb2', HQ1.out.2.2.below hb2'⟩; have HR8 : Hid (Zb w2 w1.heap.size [.bool false, .int .u64 (ed.log : Int), .int .u64 (ed.nxt : Int), .int .u64 (ed.seq : Int), .slice (some ⟨G1, 0, none⟩) ed.out.length ed.out.length, .slice (some ⟨G2, 0, none⟩) ed.inn.length ed.inn.length, .slice (some ⟨G3, 0, none⟩) ed.ptr.length ed.ptr.length] ∧ T w1.heap.size = 0) := ⟨(Zb.new w1 #[.bool false, .int .u64 (ed.log : Int), .int .u64 (ed.nxt : Int), .int .u64 (ed.seq : Int), .slice (some ⟨G1, 0, none⟩) ed.out.length ed.out.length, .slice (some ⟨G2, 0, none⟩) ed.inn.length ed.inn.length, .slice (some ⟨G3, 0, none⟩) ed.ptr.length ed.ptr.length] 65).below hb2, HB1.out.high _ (Nat.le_refl _)⟩; have v0 := HB2.out.box.2.1 0 _ rfl; have v1 := HB2.out.box.2.1 1 _ rfl; have v2 := HB2.out.box.2.1 2 _ rfl; have v3 := HB2.out.box.2.1 3 _ rfl; have v4 := HB2.out.box.2.1 4 _ rfl; have v5 := HB2.out.box.2.1 5 _ rfl; have z0 := HR8.out.1.2.1 0 _ rfl; have z1 := HR8.out.1.2.1 1 _ rfl; have z2 := HR8.out.1.2.1 2 _ rfl; have z3 := HR8.out.1.2.1 3 _ rfl; have z4 := HR8.out.1.2.1 4 _ rfl; have z5 := HR8.out.1.2.1 5 _ rfl; have z6 := HR8.out.1.2.1 6 _ rfl; clear hb2 hb2'))
              | (go_at_call 18; go_loud (refine (joined_any T w2 bl bn bs ed.log ed.nxt ed.seq o i p (sv G1 ed.out.length) (sv G2 ed.inn.length) (sv G3 ed.ptr.length) false bo ed.out bi ed.inn HB2.out.high HB2.out.out HB2.out.inn HQ2.out.1 HQ2.out.2.1 (by omega) (by omega)).mono ?_; rintro e w3 ⟨o2, i2, T3, he, h1, h2, hg⟩; subst he; unfold evV sv; dsimp only; have HJ : Hid (Gs w T3 (sets w3 w.heap.size 0 (evC ed.log ed.nxt ed.seq o2 i2 (sv G3 ed.ptr.length))) (joinE ⟨bl, bn, bs, bo, bi, bp⟩ ed) es s o2 i2 (sv G3 ed.ptr.length)) := HB2.out.join (r := ed) hg h1 h2 HQ2.out.2.2; have HBX : Hid (Zb w3 w.heap.size (evC bl bn bs o i p) ∧ Zb w3 w1.heap.size [.bool false, .int .u64 (ed.log : Int), .int .u64 (ed.nxt : Int), .int .u64 (ed.seq : Int), .slice (some ⟨G1, 0, none⟩) ed.out.length ed.out.length, .slice (some ⟨G2, 0, none⟩) ed.inn.length ed.inn.length, .slice (some ⟨G3, 0, none⟩) ed.ptr.length ed.ptr.length]) := ⟨HB2.out.box.goes hg (by rw [HB2.out.tag]; decide), HR8.out.1.goes hg (by rw [HR8.out.2]; decide)⟩; have n0 := HBX.out.1.2.1 0 _ rfl; have nf0 := HBX.out.1.2.2 0; have n1 := HBX.out.1.2.1 1 _ rfl; have nf1 := HBX.out.1.2.2 1; have n2 := HBX.out.1.2.1 2 _ rfl; have nf2 := HBX.out.1.2.2 2; have n3 := HBX.out.1.2.1 3 _ rfl; have nf3 := HBX.out.1.2.2 3; have n4 := HBX.out.1.2.1 4 _ rfl; have nf4 := HBX.out.1.2.2 4; have n5 := HBX.out.1.2.1 5 _ rfl; have nf5 := HBX.out.1.2.2 5; have m0 := HBX.out.2.2.1 0 _ rfl; clear h1 h2 hg)))
            go_roundw
            case rel => exact ⟨k + 1, T3, joinE ⟨bl, bn, bs, bo, bi, bp⟩ ed, es, s, o2, i2, sv G3 ed.ptr.length, by omega, rfl, by go_num, ⟨by show (bo ++ ed.out).length ≤ _; simp; omega, by show (bi ++ ed.inn).length ≤ _; simp; omega, by omega⟩, HJ.out, HX.out.2.step HR.out HRD.out HFF.out⟩
            case measure => simp [intOf]; omega
          | true =>
            go_upto_region 11 with (first
              | (go_at_call 16; go_loud (refine HC.out.mono ?_; rintro e w1 hp; obtain ⟨G1, G2, G3, he, hb1, hg, ho1, ho2, ho3⟩ := hp.ok HRD.out; subst he; unfold recV sv; dsimp only; have HB1 : Hid (Gs w T w1 ⟨bl, bn, bs, bo, bi, bp⟩ es s o i p) := HX.out.1.below hb1; have HQ1 : Hid (Isk kPl T w1 (sv G1 ed.out.length) ed.out ∧ Isk kPd T w1 (sv G2 ed.inn.length) ed.inn ∧ Isk kT T w1 (sv G3 ed.ptr.length) ed.ptr) := ⟨Isk.own ho1 (HX.out.1.high _ hg.1) rfl, Isk.own ho2 (HX.out.1.high _ hg.2.1) rfl, Isk.own ho3 (HX.out.1.high _ hg.2.2) rfl⟩; have hlt1 := HB1.out.box.1; have y0 := HB1.out.box.2.1 0 _ rfl; have y1 := HB1.out.box.2.1 1 _ rfl; have y2 := HB1.out.box.2.1 2 _ rfl; have y3 := HB1.out.box.2.1 3 _ rfl; have y4 := HB1.out.box.2.1 4 _ rfl; have y5 := HB1.out.box.2.1 5 _ rfl; clear hb1 hp hg ho1 ho2 ho3))
              | (go_at_call 17; go_loud (refine (HF.out true G1 G2 G3 _ HFF.out).mono ?_; rintro e w2 ⟨he, hb2⟩; subst he; have hb2' := ((Below.refl w1.heap.size w1).alloc (Nat.le_refl _) (.cells #[.bool true, .int .u64 (ed.log : Int), .int .u64 (ed.nxt : Int), .int .u64 (ed.seq : Int), .slice (some ⟨G1, 0, none⟩) ed.out.length ed.out.length, .slice (some ⟨G2, 0, none⟩) ed.inn.length ed.inn.length, .slice (some ⟨G3, 0, none⟩) ed.ptr.length ed.ptr.length] 65)).trans (hb2.mono (by simp)); have HB2 : Hid (Gs w T w2 ⟨bl, bn, bs, bo, bi, bp⟩ es s o i p) := HB1.out.below hb2'; have HQ2 : Hid (Isk kPl T w2 (sv G1 ed.out.length) ed.out ∧ Isk kPd T w2 (sv G2 ed.inn.length) ed.inn ∧ Isk kT T w2 (sv G3 ed.ptr.length) ed.ptr) := ⟨HQ1.out.1.below hb2', HQ1.out.2.1.below hb2', HQ1.out.2.2.below hb2'⟩; have HR8 : Hid (Zb w2 w1.heap.size [.bool true, .int .u64 (ed.log : Int), .int .u64 (ed.nxt : Int), .int .u64 (ed.seq : Int), .slice (some ⟨G1, 0, none⟩) ed.out.length ed.out.length, .slice (some ⟨G2, 0, none⟩) ed.inn.length ed.inn.length, .slice (some ⟨G3, 0, none⟩) ed.ptr.length ed.ptr.length] ∧ T w1.heap.size = 0) := ⟨(Zb.new w1 #[.bool true, .int .u64 (ed.log : Int), .int .u64 (ed.nxt : Int), .int .u64 (ed.seq : Int), .slice (some ⟨G1, 0, none⟩) ed.out.length ed.out.length, .slice (some ⟨G2, 0, none⟩) ed.inn.length ed.inn.length, .slice (some ⟨G3, 0, none⟩) ed.ptr.length ed.ptr.length] 65).below hb2, HB1.out.high _ (Nat.le_refl _)⟩; have v0 := HB2.out.box.2.1 0 _ rfl; have v1 := HB2.out.box.2.1 1 _ rfl; have v2 := HB2.out.box.2.1 2 _ rfl; have v3 := HB2.out.box.2.1 3 _ rfl; have v4 := HB2.out.box.2.1 4 _ rfl; have v5 := HB2.out.box.2.1 5 _ rfl; have z0 := HR8.out.1.2.1 0 _ rfl; have z1 := HR8.out.1.2.1 1 _ rfl; have z2 := HR8.out.1.2.1 2 _ rfl; have z3 := HR8.out.1.2.1 3 _ rfl; have z4 := HR8.out.1.2.1 4 _ rfl; have z5 := HR8.out.1.2.1 5 _ rfl; have z6 := HR8.out.1.2.1 6 _ rfl; clear hb2 hb2'))
              | (go_at_call 18; go_loud (refine (joined_any T w2 bl bn bs ed.log ed.nxt ed.seq o i p (sv G1 ed.out.length) (sv G2 ed.inn.length) (sv G3 ed.ptr.length) true bo ed.out bi ed.inn HB2.out.high HB2.out.out HB2.out.inn HQ2.out.1 HQ2.out.2.1 (by omega) (by omega)).mono ?_; rintro e w3 ⟨o2, i2, T3, he, h1, h2, hg⟩; subst he; unfold evV sv; dsimp only; have HJ : Hid (Gs w T3 (sets w3 w.heap.size 0 (evC ed.log ed.nxt ed.seq o2 i2 (sv G3 ed.ptr.length))) (joinE ⟨bl, bn, bs, bo, bi, bp⟩ ed) es s o2 i2 (sv G3 ed.ptr.length)) := HB2.out.join (r := ed) hg h1 h2 HQ2.out.2.2; have HBX : Hid (Zb w3 w.heap.size (evC bl bn bs o i p) ∧ Zb w3 w1.heap.size [.bool true, .int .u64 (ed.log : Int), .int .u64 (ed.nxt : Int), .int .u64 (ed.seq : Int), .slice (some ⟨G1, 0, none⟩) ed.out.length ed.out.length, .slice (some ⟨G2, 0, none⟩) ed.inn.length ed.inn.length, .slice (some ⟨G3, 0, none⟩) ed.ptr.length ed.ptr.length]) := ⟨HB2.out.box.goes hg (by rw [HB2.out.tag]; decide), HR8.out.1.goes hg (by rw [HR8.out.2]; decide)⟩; have n0 := HBX.out.1.2.1 0 _ rfl; have nf0 := HBX.out.1.2.2 0; have n1 := HBX.out.1.2.1 1 _ rfl; have nf1 := HBX.out.1.2.2 1; have n2 := HBX.out.1.2.1 2 _ rfl; have nf2 := HBX.out.1.2.2 2; have n3 := HBX.out.1.2.1 3 _ rfl; have nf3 := HBX.out.1.2.2 3; have n4 := HBX.out.1.2.1 4 _ rfl; have nf4 := HBX.out.1.2.2 4; have n5 := HBX.out.1.2.1 5 _ rfl; have nf5 := HBX.out.1.2.2 5; have m0 := HBX.out.2.2.1 0 _ rfl; clear h1 h2 hg)))
            obtain ⟨W3, hW3⟩ : ∃ W, ((((((w3.setCell ⟨w.heap.size, 0, none⟩ (.int .u64 (ed.log : Int))).setCell ⟨w.heap.size, 1, none⟩ (.int .u64 (ed.nxt : Int))).setCell ⟨w.heap.size, 2, none⟩ (.int .u64 (ed.seq : Int))).setCell ⟨w.heap.size, 3, none⟩ (.slice o2.1 o2.2.1 o2.2.2)).setCell ⟨w.heap.size, 4, none⟩ (.slice i2.1 i2.2.1 i2.2.2)).setCell ⟨w.heap.size, 5, none⟩ (.slice (some ⟨G3, 0, none⟩) ed.ptr.length ed.ptr.length)) = W := ⟨_, rfl⟩
            have HJ2 : Hid (Gs w T3 W3 (joinE ⟨bl, bn, bs, bo, bi, bp⟩ ed) es s o2 i2 (sv G3 ed.ptr.length)) := by rw [← hW3]; exact HJ.out
            rw [hW3]
            clear hW3 HJ HBX m0 n0 n1 n2 n3 n4 n5 nf0 nf1 nf2 nf3 nf4 nf5
            have e0 := HJ2.out.box.2.1 0 _ rfl
            have e1 := HJ2.out.box.2.1 1 _ rfl
            have e2 := HJ2.out.box.2.1 2 _ rfl
            have e3 := HJ2.out.box.2.1 3 _ rfl
            have e4 := HJ2.out.box.2.1 4 _ rfl
            have e5 := HJ2.out.box.2.1 5 _ rfl
            have hB3 := HJ2.out.box.1
            obtain ⟨vs, hv1, hv2, hv3⟩ := HJ2.out.own
            have HV : Hid (OwnK kE 1 T3 W3 (svV s) vs ∧ vs.length = es.length ∧ ∀ (j : Nat) v e, vs[j]? = some v → es[j]? = some e → EdT T3 W3 v e) := ⟨hv1, hv2, hv3⟩
            clear hv1 hv2 hv3
            change W3.cell? ⟨w.heap.size, 0, none⟩ = some (.int .u64 (ed.log : Int)) at e0
            change W3.cell? ⟨w.heap.size, 1, none⟩ = some (.int .u64 (ed.nxt : Int)) at e1
            change W3.cell? ⟨w.heap.size, 2, none⟩ = some (.int .u64 (ed.seq : Int)) at e2
            change W3.cell? ⟨w.heap.size, 5, none⟩ = some (.slice (some ⟨G3, 0, none⟩) ed.ptr.length ed.ptr.length) at e5
            go_wp2_with (at_builtin; go_loud (refine wpList_appK kE _ (by rfl) (.tmp 34) (.tmp 36) 43 (by rfl) iz Try.underlying43 hiz hz0 hz1 hz2 1 (fin T3) (.slice s.1 s.2.1 s.2.2) vs (by rfl) (own_fin (HV.out.1.below ((Below.refl _ _).alloc (Nat.le_refl _) _))) (some ⟨W3.heap.size, 0, none⟩) 1 1 [(ed.log, ed.nxt, ed.seq, o2, i2, sv G3 ed.ptr.length)] (by rfl) rfl (by simp) (isK_new kE W3 (ed.log, ed.nxt, ed.seq, o2, i2, sv G3 ed.ptr.length) _) (by rw [HV.out.2.1]; simp; omega) ?_; intro a4 c4 T4 w4 hown4 hg4; have HL : Hid (Gs w T4 (sets w4 w.heap.size 0 (evC 0 0 0 nS nS nS)) noE (es ++ [joinE ⟨bl, bn, bs, bo, bi, bp⟩ ed]) (a4, vs.length + 1, c4) nS nS nS) := (HJ2.out.below ((Below.refl _ _).alloc (Nat.le_refl _) _)).last hg4 vs HV.out.2.1 (fun j v e hv he => (HV.out.2.2 j v e hv he).goes (Goes.below (t := fun _ => False) ((Below.refl _ _).alloc (Nat.le_refl _) _)) (fun z => z)) hown4; have HZ4 : Hid (Zb w4 w.heap.size (evC ed.log ed.nxt ed.seq o2 i2 (sv G3 ed.ptr.length))) := (HJ2.out.box.below ((Below.refl _ _).alloc (Nat.le_refl _) _)).goes hg4 (by rw [fin_of (by rw [HJ2.out.tag]; decide) (by rw [HJ2.out.tag]; decide), HJ2.out.tag]; decide); have j0 := HZ4.out.2.1 0 _ rfl; have jf0 := HZ4.out.2.2 0; have j1 := HZ4.out.2.1 1 _ rfl; have jf1 := HZ4.out.2.2 1; have j2 := HZ4.out.2.1 2 _ rfl; have jf2 := HZ4.out.2.2 2; have j3 := HZ4.out.2.1 3 _ rfl; have jf3 := HZ4.out.2.2 3; have j4 := HZ4.out.2.1 4 _ rfl; have jf4 := HZ4.out.2.2 4; have j5 := HZ4.out.2.1 5 _ rfl; have jf5 := HZ4.out.2.2 5; clear hown4 hg4))
            go_roundw
            case rel => exact ⟨k + 1, T4, noE, es ++ [joinE ⟨bl, bn, bs, bo, bi, bp⟩ ed], (a4, vs.length + 1, c4), nS, nS, nS, by omega, rfl, by go_num, ⟨by simp [noE], by simp [noE], by simp; omega⟩, HL.out, HX.out.2.last HR.out HRD.out HFF.out⟩
            case measure => simp [intOf]; omega
    · obtain rfl : k = n := by omega
      have q1 : ¬ (k : Int) < (k : Int) := by omega
      have HG : Hid (gets recs noE = some es) := by
        have := HX.out.2
        rw [← HN.out] at this
        exact this.done
      go_wp2
      go_ret2
      exact .inl ⟨es, s, HG.out, rfl, HX.out.1.eds, HX.out.1.old.below⟩
end Mnf
end Go.Proofs.Ytanpbknjnpmmnaa
