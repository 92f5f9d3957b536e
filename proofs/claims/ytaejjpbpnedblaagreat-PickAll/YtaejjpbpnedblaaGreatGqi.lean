import Derived.Test.YtaejjpbpnedblaaGreatGqh
import Derived.Test.YtaejjpbpnedblaaGreatGqf
import Derived.Test.YtaejjpbpnedblaaGreatFm
import Derived.Test.YtaejjpbpnedblaaGreatXm
import Derived.Test.YtaejjpbpnedblaaGreatXb
import Derived.Test.YtaejjpbpnedblaaGreatFo
import Derived.Laws.Concat
import Derived.OrdersHeld
import Derived.Deep.CutRange
import Derived.Deep.CutBlock
import Derived.Deep.DeepCutAuto
namespace Go.Proofs.YtaejjpbpnedblaaGreat
namespace Vr
open Go.Shelf Go.RowKit Go.Lib Go.Sort Go.Maps Go.ChangeMaps Go.MapKept Laws Irw Crw
set_option linter.unusedVariables false
set_option linter.unusedSimpArgs false
set_option maxRecDepth 20000
theorem zero_goes {w W W' : World} {T T' : Nat → Nat} {t : Nat → Prop} (hl : ∀ b, b < w.heap.size → T b = 0) (hs : w.heap.size ≤ W.heap.size) (hg : Goes t T W T' W') (ht : ¬ t 0) : ∀ b, b < w.heap.size → T' b = 0 := fun b hb => (hg.tag b (Nat.lt_of_lt_of_le hb hs) (by rw [hl b hb]; exact ht)).trans (hl b hb)
/-- within PickAll: the version's world beneath, the room -/
structure PaS (w6 : World) (T : Nat → Nat) (W : World) (R gu nu cu : Nat) (xs : List Int) (gt nt ct : Nat) (ps : List ByteArray) : Prop where
  b : RowKit.Below w6.heap.size w6 W
  z : ∀ b, b < w6.heap.size → T b = 0
  r : RmS T W R gu nu cu xs gt nt ct ps
theorem PaS.below {w6 : World} {T : Nat → Nat} {W W' : World} {R gu nu cu : Nat} {xs : List Int} {gt nt ct : Nat} {ps : List ByteArray} (h : PaS w6 T W R gu nu cu xs gt nt ct ps) (hb : RowKit.Below W.heap.size W W') : PaS w6 T W' R gu nu cu xs gt nt ct ps := ⟨h.b.trans (hb.mono h.b.size), h.z, h.r.below hb⟩
theorem PaS.setT {w6 : World} {T : Nat → Nat} {W : World} {R gu nu cu : Nat} {xs : List Int} {gt nt ct : Nat} {ps : List ByteArray} (h : PaS w6 T W R gu nu cu xs gt nt ct ps) {i : Nat} (hi : i < nt) (x : ByteArray) : PaS w6 T (W.setCell ⟨gt, i, none⟩ (.string x)) R gu nu cu xs gt nt ct (ps.set i x) := by
  obtain ⟨h1, h2⟩ := h.r.setT hi x
  exact ⟨below_goes h.b h.z h2 (by decide), h.z, h1⟩
theorem PaS.setU {w6 : World} {T : Nat → Nat} {W : World} {R gu nu cu : Nat} {xs : List Int} {gt nt ct : Nat} {ps : List ByteArray} (h : PaS w6 T W R gu nu cu xs gt nt ct ps) {i : Nat} (hi : i < nu) (x : Int) : PaS w6 T (W.setCell ⟨gu, i, none⟩ (.int .u64 x)) R gu nu cu (xs.set i x) gt nt ct ps := by
  obtain ⟨h1, h2⟩ := h.r.setU hi x
  exact ⟨below_goes h.b h.z h2 (by decide), h.z, h1⟩
/-- a list turned up to a place -/
def upT {α : Type} (g : α → α) (l : List α) (k : Nat) : List α := (l.take k).map g ++ l.drop k
theorem upT_zero {α : Type} (g : α → α) (l : List α) : upT g l 0 = l := by simp [upT]
theorem upT_len {α : Type} (g : α → α) (l : List α) (k : Nat) (hk : k ≤ l.length) : (upT g l k).length = l.length := by simp [upT]; omega
theorem upT_get {α : Type} (g : α → α) (l : List α) {k : Nat} {x : α} (hx : l[k]? = some x) : (upT g l k)[k]? = some x := by
  have hk := (List.getElem?_eq_some_iff.1 hx).1
  unfold upT
  rw [List.getElem?_append_right (by simp; omega), List.length_map, List.length_take, Nat.min_eq_left (by omega), Nat.sub_self, List.getElem?_drop, Nat.add_zero]
  exact hx
theorem upT_set {α : Type} (g : α → α) (l : List α) {k : Nat} {x : α} (hx : l[k]? = some x) : (upT g l k).set k (g x) = upT g l (k + 1) := by
  obtain ⟨hk, e⟩ := List.getElem?_eq_some_iff.1 hx
  unfold upT
  have hl : ((l.take k).map g).length = k := by simp; omega
  rw [List.set_append_right _ _ (by omega), hl, Nat.sub_self, List.take_add_one, hx, List.map_append]
  simp
  rw [List.drop_eq_getElem_cons hk, List.set_cons_zero]
def addM (x : ByteArray) : ByteArray := x ++ ⟨#[109]⟩
def addU (x : Int) : Int := IntKind.u64.wrap (x + 1)
set_option maxHeartbeats 16000000 in
theorem pickAll_any (c : Cf) (hR : In64 c) (la : Option Addr) (ll lc : Nat) (l : List Pi) (pa : Option Addr) (pc : Nat) (ps : List ByteArray) (xa : Option Addr) (xc : Nat) (xs : List Int) (lv : Int) (w : World) (hl : IsK kPi w la l) (hll : l.length = ll) (hmx : ll ≤ Z48) (hp : PiR l) (hpp : Ls kT w (pa, ps.length, pc) ps) (hpl : ps.length ≤ Z48) (hpz : ∀ p ∈ ps, p.size ≤ Z48) (hx : Ls kU w (xa, xs.length, xc) xs) (hxl : xs.length ≤ 17592186043904) :
    Calls Tryz.prog 3 #[.agg (cfgA c), .slice la ll lc, .slice pa ps.length pc, .slice xa xs.length xc, .int .i64 lv] w fun e w' => e = .returned (.bool true) ∧ RowKit.Below w.heap.size w w' := by
  obtain ⟨W0, hW0⟩ : ∃ X, w.alloc (Obj.cells (cfgA c) 23) = X := ⟨_, rfl⟩
  have H0 : Hid (RowKit.Below w.heap.size w W0 ∧ Zb W0 w.heap.size (cfgA c).toList) := by
    subst hW0
    exact ⟨(Below.refl _ _).alloc (Nat.le_refl _) _, Zb.new w _ _⟩
  have HA := hidV (And.intro hl (And.intro hp (And.intro hpp hx)))
  have HR := hidV hR
  have HPz := hidV (And.intro hpl hpz)
  clear hl hp hpp hx hR hpl hpz
  have HFw : Hid (Calls Tryz.prog 5 #[.slice la ll lc, .slice pa ps.length pc] W0 fun e w' => Fw2 ll ps.length W0 e w') := few2_any la ll lc pa pc ps W0 (HA.out.2.2.1.below H0.out.1) hmx HPz.out.1 HPz.out.2
  go_enter Tryz.func3, Tryz.ntmps3
  go_upto_region 1 with (fail)
  (try rw [hW0])
  clear hW0
  go_upto_if 22 with (go_at_call 5; go_loud (refine HFw.out.mono ?_; rintro e w2 ⟨bo, rfl, hbo, hb2⟩; have H2 : Hid ((bo = true → ll ≤ 10000 ∧ ps.length ≤ 10000) ∧ RowKit.Below W0.heap.size W0 w2) := ⟨hbo, hb2⟩; clear hbo hb2))
  clear HFw
  cases bo with
  | false =>
    have HBf : Hid (RowKit.Below w.heap.size w w2) := H0.out.1.trans (H2.out.2.mono H0.out.1.size)
    go_wp2
    go_ret
    exact ⟨rfl, HBf.out⟩
  | true =>
    have hl4 : ll ≤ 10000 := (H2.out.1 rfl).1
    have hp4 : ps.length ≤ 10000 := (H2.out.1 rfl).2
    have HB2 : Hid (RowKit.Below W0.heap.size W0 w2) := H2.out.2
    have hLc : Lc w2 w.heap.size c := fun j v hv => by rw [Nat.zero_add]; exact (H0.out.2.below HB2.out).2.1 j v hv
    have HRi := hidV (right_any c HR.out w2)
    go_upto_region 4 with (first
      | (refine wpList_cfg (by rfl) _ (by rfl) (by rfl) hLc ?_)
      | (go_at_call 6; go_loud (refine HRi.out.mono ?_; rintro e w4 ⟨c', n, rfl, hcr, hin, hb4⟩; have H4 : Hid (Zb w4 w.heap.size (cfgA c).toList ∧ Cr c' n ∧ RowKit.Below w.heap.size w w4) := ⟨(H0.out.2.below HB2.out).below hb4, hcr, (H0.out.1.trans (HB2.out.mono H0.out.1.size)).trans (hb4.mono (Nat.le_trans H0.out.1.size HB2.out.size))⟩; have hth : w4.there w.heap.size 0 (cfgA c').size := (fun j hj => (by rw [Nat.zero_add]; obtain ⟨u, hu⟩ := H4.out.1.some (k := j) (by rw [cfgA_len]; exact hj); exact ⟨by rw [hu]; rfl, H4.out.1.2.2 j⟩)); clear hcr hin hb4))
      | (refine wpList_store_mid (by rfl) 23 _ _ (by rfl) w.heap.size 0 (cfgA c') (by rfl) (by rfl) hth (by rw [← Array.length_toList]; exact Lc.info c') (by simp [cfgA, Value.oneCell']) ?_))
    obtain ⟨w5, hw5⟩ : ∃ X, w4.setCells w.heap.size 0 (cfgA c').toList = X := ⟨_, rfl⟩
    have H5 : Hid (Zb w5 w.heap.size (cfgA c').toList ∧ RowKit.Below w.heap.size w w5) := by
      subst hw5
      rw [setCells_sets]
      exact ⟨H4.out.1.sets (by rw [cfgA_len, cfgA_len]; exact Nat.le_refl _), below_sets (Nat.le_refl _) _ _ _ H4.out.2.2⟩
    rw [hw5]
    have HCr := hidV H4.out.2.1
    clear hw5 hth hLc HRi H4 HB2
    have hL5 : Lc w5 w.heap.size c' := fun j v hv => by rw [Nat.zero_add]; exact H5.out.1.2.1 j v hv
    have HBu := hidV (built3_any c' n HCr.out la ll lc l w5 (HA.out.1.below H5.out.2) hll (by omega) HA.out.2.1)
    go_upto_region 5 with (first
      | (refine wpList_cfg (by rfl) _ (by rfl) (by rfl) hL5 ?_)
      | (go_at_call 7; go_loud (refine HBu.out.mono ?_; rintro e w6 ⟨vb, V, ⟨va_, vn_, vc_⟩, rfl, hv6, hbl, hls, hb6⟩; have H6 : Hid (VAt w6 vb V ∧ Bw V n 400 ∧ LsAt w6 (va_, vn_, vc_) V ∧ Lc w6 w.heap.size c' ∧ RowKit.Below w.heap.size w w6 ∧ w.heap.size < w6.heap.size) := ⟨hv6, hbl, hls, fun j v hv => by rw [Nat.zero_add]; exact (H5.out.1.below hb6).2.1 j v hv, H5.out.2.trans (hb6.mono H5.out.2.size), Nat.lt_of_lt_of_le H5.out.1.1 hb6.size⟩; clear hv6 hbl hls hb6; simp only [svV])))
    have hVl : V.length = n := H6.out.2.1.len
    subst hVl
    clear hL5 HBu H5 H0 H2
    have hn3 := HCr.out.n3
    have hn5 := HCr.out.n5
    have hvn : vn_ = V.length := H6.out.2.2.1.1
    subst hvn
    obtain ⟨f, hf⟩ : ∃ f : Nat, c' 12 = f := ⟨(c' 12).toNat, by have := HCr.out.fa; omega⟩
    have HF := hidV hf
    clear hf
    go_upto_region 8 with fail
    obtain ⟨W7, hW7⟩ : ∃ X, w6.alloc (Obj.cells #[.slice none 0 0, .slice none 0 0, .slice none 0 0, .slice none 0 0, .slice none 0 0, .slice none 0 0, .slice none 0 0, .slice none 0 0, .slice none 0 0, .slice none 0 0, .slice none 0 0, .slice none 0 0, .slice none 0 0, .slice none 0 0, .slice none 0 0, .slice none 0 0, .slice none 0 0, .slice none 0 0, .slice none 0 0, .slice none 0 0, .slice none 0 0, .slice none 0 0, .slice none 0 0, .slice none 0 0, .slice none 0 0, .slice none 0 0, .slice none 0 0, .slice none 0 0] 49) = X := ⟨_, rfl⟩
    have H7 : Hid (RowKit.Below w6.heap.size w6 W7 ∧ Zb W7 w6.heap.size (roomC (.slice none 0 0) (.slice none 0 0) (.slice none 0 0) (.slice none 0 0))) := by
      subst hW7
      exact ⟨(Below.refl _ _).alloc (Nat.le_refl _) _, Zb.new w6 _ _⟩
    rw [hW7]
    clear hW7
    obtain ⟨T0, hT0⟩ : ∃ T0, Irw.upd (fun _ => 0) w6.heap.size 10 = T0 := ⟨_, rfl⟩
    have HT0 : Hid (T0 w6.heap.size = 10 ∧ ∀ b, b < w6.heap.size → T0 b = 0) := by
      rw [← hT0]
      exact ⟨Irw.upd_same _ _ _, fun b hb => Irw.upd_other _ _ (by omega)⟩
    clear hT0
    have HTx : Hid (Calls Tryz.prog 8 #[.pointer (some ⟨w6.heap.size, 0, none⟩), .slice pa ps.length pc] W7 fun e w' => LyT T0 W7 w6.heap.size (roomC (.slice none 0 0) (.slice none 0 0) (.slice none 0 0) (.slice none 0 0)) ps e w') := by
      have hb7 := H6.out.2.2.2.2.1.trans (H7.out.1.mono H6.out.2.2.2.2.1.size)
      have hls := HA.out.2.2.1.below hb7
      exact rtexts_any T0 W7 w6.heap.size _ H7.out.2 HT0.out.1 rfl rfl pa pc ps hls.1 hls.2.2.1 (by omega)
    go_upto_region 9 with (first
      | (go_at_call 8; go_loud (refine HTx.out.mono ?_; rintro e w8 ⟨gt, ct, v6, v7, T1, rfl, hz8, hr8, hg8, ht8⟩; have H8 := hidV (And.intro hz8 (And.intro hr8 (And.intro hg8 ht8))); clear hz8 hr8 hg8 ht8; have HB8 : Hid (RowKit.Below w6.heap.size w6 w8 ∧ ∀ b, b < w6.heap.size → T1 b = 0) := ⟨below_goes H7.out.1 HT0.out.2 H8.out.2.2.1 (by decide), zero_goes HT0.out.2 H7.out.1.size H8.out.2.2.1 (by decide)⟩; have HNm : Hid (Calls Tryz.prog 9 #[.pointer (some ⟨w6.heap.size, 0, none⟩), .slice xa xs.length xc] w8 fun e w' => LyU T1 w8 w6.heap.size (((roomC (.slice none 0 0) (.slice none 0 0) (.slice none 0 0) (.slice none 0 0)).set 6 v6).set 7 v7) xs e w') := (have hls := HA.out.2.2.2.below (H6.out.2.2.2.2.1.trans (HB8.out.1.mono H6.out.2.2.2.2.1.size)); rnums_any T1 w8 w6.heap.size _ H8.out.1 H8.out.2.2.2 rfl rfl xa xc xs hls.1 hls.2.2.1 (by omega))))
      | (go_at_call 9; go_loud (refine HNm.out.mono ?_; rintro e w9 ⟨gu, cu, v4, v5, T2, rfl, hz9, hr9, hg9, ht9⟩; have H9 : Hid (PaS w6 T2 w9 w6.heap.size gu xs.length cu xs gt ps.length ct ps) := ⟨below_goes HB8.out.1 HB8.out.2 hg9 (by decide), zero_goes HB8.out.2 HB8.out.1.size hg9 (by decide), ⟨v4, v5, v6, v7, hz9, hr9, H8.out.2.1.goes hg9 (by decide) (by decide) (by decide), ht9⟩⟩; clear hz9 hr9 hg9 ht9)))
    clear HTx HT0 H7 H8 HB8 HNm
    have HAsk : Hid (∀ (X : World) (xs' : List Int) (ps' : List ByteArray), xs'.length = xs.length → ps'.length = ps.length → PaS w6 T2 X w6.heap.size gu xs.length cu xs' gt ps.length ct ps' → Calls Tryz.prog 10 #[.agg (cfgA c'), .pointer (some ⟨vb, 0, none⟩), .slice va_ V.length vc_, .slice (some ⟨gt, 0, none⟩) ps.length (ps.length + 40), .slice (some ⟨gu, 0, none⟩) xs.length (xs.length + 40), .int .i64 lv] X fun e w' => e = .returned (.bool true) ∧ RowKit.Below X.heap.size X w') := fun X xs' ps' h1 h2 hP => by
      have hu := hP.r.lsU
      have ht := hP.r.lsT
      rw [← h1] at hu
      rw [← h2] at ht
      rw [← h1, ← h2]
      exact asked_any c' vb V va_ vc_ _ _ ps' f _ _ xs' lv X (H6.out.1.below hP.b) (H6.out.2.2.1.below hP.b) H6.out.2.1.we HCr.out H6.out.2.1.no ht (by omega) HF.out hu (by omega)
    have HHeld : Hid (∀ X : World, RowKit.Below w6.heap.size w6 X → Calls Tryz.prog 11 #[.pointer (some ⟨vb, 0, none⟩), .slice va_ V.length vc_] X fun e w' => e = .returned (.bool true) ∧ RowKit.Below X.heap.size X w') := fun X hX => held_any vb V va_ vc_ X (H6.out.1.below hX) (H6.out.2.2.1.below hX)
    have HHold : Hid (∀ (X : World) (xs' : List Int) (ps' : List ByteArray), PaS w6 T2 X w6.heap.size gu xs.length cu xs' gt ps.length ct ps' → Calls Tryz.prog 12 #[.pointer (some ⟨w6.heap.size, 0, none⟩)] X fun e w' => e = .returned (.bool true) ∧ w' = X) := fun X xs' ps' hP => rhold_any T2 X w6.heap.size gu _ cu xs' gt _ ct ps' hP.r (by omega) (by omega)
    have HLc : Hid (∀ X : World, RowKit.Below w6.heap.size w6 X → Lc X w.heap.size c') := fun X hX => H6.out.2.2.2.1.keep H6.out.2.2.2.2.2 hX
    have HBw : Hid (∀ X : World, RowKit.Below w6.heap.size w6 X → RowKit.Below w.heap.size w X) := fun X hX => H6.out.2.2.2.2.1.trans (hX.mono H6.out.2.2.2.2.1.size)
    go_wp2_with fail
    go_loopw [16] (fun iv wr => ∃ k : Nat, k ≤ 2 ∧ iv = .int .i64 (k : Int) ∧ Hid (PaS w6 T2 wr w6.heap.size gu xs.length cu xs gt ps.length ct ps)) (fun iv _ => 2 - (intOf iv).toNat)
    case atStart => exact ⟨0, Nat.zero_le _, rfl, H9⟩
    case round =>
      obtain ⟨k, hk, rfl, HR⟩ := hrel
      rename World => wr
      by_cases hlt : k < 2
      · have q1 : (k : Int) < 2 := by omega
        have hLr : Lc wr w.heap.size c' := HLc.out _ HR.out.b
        go_wp2_with (first
          | (refine wpList_cfg (by rfl) _ (by rfl) (by rfl) hLr ?_)
          | (go_at_call 10; go_loud (refine (HAsk.out _ _ _ rfl rfl HR.out).mono ?_; rintro e w10 ⟨rfl, hb10⟩; have H10 := hidV (HR.out.below hb10); clear hb10))
          | (go_at_call 11; go_loud (refine (HHeld.out _ H10.out.b).mono ?_; rintro e w11 ⟨rfl, hb11⟩; have H11 := hidV (H10.out.below hb11); clear hb11))
          | (go_at_call 12; go_loud (refine (HHold.out _ _ _ H11.out).mono ?_; rintro e w12 ⟨rfl, hw12⟩; have hw13 := hw12.symm; clear hw12; subst hw13)))
        go_roundw
        case rel => exact ⟨k + 1, by omega, by (try go_num), H11⟩
        case measure => simp [intOf]; omega
      · have q1 : ¬ (k : Int) < 2 := by omega
        clear H9
        have HR0 : Hid (PaS w6 T2 wr w6.heap.size gu xs.length cu xs gt ps.length ct (upT addM ps 0)) := by rw [upT_zero]; exact HR
        clear HR
        go_wp2_with fail
        go_loopw [17] (fun iv wq => ∃ i : Nat, i ≤ ps.length ∧ iv = .int .i64 (i : Int) ∧ Hid (PaS w6 T2 wq w6.heap.size gu xs.length cu xs gt ps.length ct (upT addM ps i))) (fun iv _ => ps.length - (intOf iv).toNat)
        case atStart => exact ⟨0, Nat.zero_le _, rfl, HR0⟩
        case round =>
          obtain ⟨i, hi9, rfl, HQ⟩ := hrel
          rename World => wq
          by_cases hli : i < ps.length
          · have q2 : (i : Int) < (ps.length : Int) := by omega
            obtain ⟨x, hx⟩ : ∃ x, ps[i]? = some x := ⟨_, List.getElem?_eq_getElem hli⟩
            have hxm := HPz.out.2 x (List.mem_of_getElem? hx)
            obtain ⟨pb, po, rfl, hpb, pcell⟩ := (HA.out.2.2.1.below (HBw.out _ HQ.out.b)).cell hx
            obtain ⟨pb2, po2, e2, hpb2, pcell2⟩ := HQ.out.r.lsT.cell (upT_get addM ps hx)
            simp only [Option.some.injEq, Addr.mk.injEq] at e2
            obtain ⟨rfl, rfl, _⟩ := e2
            have HC : Hid (wq.cell? ⟨pb, po + i, none⟩ = some (.string x) ∧ wq.cell? ⟨gt, i, none⟩ = some (.string x) ∧ gt < wq.heap.size) := by
              have h1 := pcell 0 _ rfl
              have h2 := pcell2 0 _ rfl
              exact ⟨by simpa [kT] using h1, by simpa [kT] using h2, hpb2⟩
            have hadd : ∀ W : World, (Op.stringOp .add x ⟨#[109]⟩).run Tryz.prog W = .ok (.string (addM x)) W := fun W => run_string_add_sum W x ⟨#[109]⟩ (by unfold Z48 at hxm; show x.size + 1 ≤ _; omega)
            have HXx := hidV (And.intro hx hadd)
            have hfz := HQ.out.r.fz.2 i
            have HFZ := hidV hfz
            clear hx hxm pcell pcell2 hpb hpb2 hadd hfz
            go_wp2_with fail
            go_cut [78] (fun v wx => v = .bool false ∧ Hid (RowKit.Below wq.heap.size wq wx))
            case first =>
              refine wp_region_held_drew (S := (fun X => RowKit.Below wq.heap.size wq X ∧ X.cell? ⟨pb, po + i, none⟩ = some (.string x) ∧ X.cell? ⟨gt, i, none⟩ = some (.string x))) (by kernel_rfl) ?_ (fun hHeld => ?_)
              · exact ⟨(Below.refl _ _).drew, HC.out.1, HC.out.2.1⟩
              refine wpAnyH_take (i := 0) (oi := { dst := some 70, op := Go.Op.move (Go.Operand.tmp 14), type := 25, pos := "exact.go:118", after := #[], guard := none }) (v := ?_) rfl (by kernel_rfl) (by kernel_rfl) (by kernel_rfl) (fun _ _ _ h => h) (Or.inl ⟨by rfl, ?_⟩) hHeld ?_
              rotate_left
              · (intro wq hSw; (try dsimp only at hSw); go_simp; try (with_reducible rfl))
              try simp only [Act.put, List.setIfInBounds_toArray, List.set_cons_zero, List.set_cons_succ]
              refine wpAnyH_take (i := 1) (oi := { dst := some 71, op := Go.Op.move (Go.Operand.tmp 17), type := 3, pos := "exact.go:118", after := #[], guard := none }) (v := ?_) rfl (by kernel_rfl) (by kernel_rfl) (by kernel_rfl) (fun _ _ _ h => h) (Or.inl ⟨by rfl, ?_⟩) hHeld ?_
              rotate_left
              · (intro wq hSw; (try dsimp only at hSw); go_simp; try (with_reducible rfl))
              try simp only [Act.put, List.setIfInBounds_toArray, List.set_cons_zero, List.set_cons_succ]
              refine wpAnyH_take (i := 2) (oi := { dst := some 72, op := Go.Op.indexAddr 25 (Go.Operand.tmp 70) (Go.Operand.tmp 71), type := 0, pos := "exact.go:118", after := #[{ on := 0, ground := Go.Ground.data }, { on := 1, ground := Go.Ground.data }], guard := none }) (v := ?_) rfl (by kernel_rfl) (by kernel_rfl) (by kernel_rfl) (fun _ _ _ h => h) (Or.inl ⟨by rfl, ?_⟩) hHeld ?_
              rotate_left
              · (intro wq hSw; (try dsimp only at hSw); go_simp; try (with_reducible rfl))
              try simp only [Act.put, List.setIfInBounds_toArray, List.set_cons_zero, List.set_cons_succ]
              refine wpAnyH_take (i := 3) (oi := { dst := some 73, op := Go.Op.load 9 (Go.Operand.tmp 72), type := 9, pos := "exact.go:118", after := #[{ on := 2, ground := Go.Ground.data }], guard := none }) (v := ?_) rfl (by kernel_rfl) (by kernel_rfl) (by kernel_rfl) (fun _ _ _ h => h) (Or.inl ⟨by rfl, ?_⟩) hHeld ?_
              rotate_left
              · (intro wq hSw; (try dsimp only at hSw); go_simp; try (with_reducible rfl))
              try simp only [Act.put, List.setIfInBounds_toArray, List.set_cons_zero, List.set_cons_succ]
              refine wpAnyH_take (i := 4) (oi := { dst := some 74, op := Go.Op.move (Go.Operand.tmp 2), type := 25, pos := "exact.go:118", after := #[], guard := none }) (v := ?_) rfl (by kernel_rfl) (by kernel_rfl) (by kernel_rfl) (fun _ _ _ h => h) (Or.inl ⟨by rfl, ?_⟩) hHeld ?_
              rotate_left
              · (intro wq hSw; (try dsimp only at hSw); go_simp; try (with_reducible rfl))
              try simp only [Act.put, List.setIfInBounds_toArray, List.set_cons_zero, List.set_cons_succ]
              refine wpAnyH_take (i := 5) (oi := { dst := some 75, op := Go.Op.move (Go.Operand.tmp 17), type := 3, pos := "exact.go:118", after := #[], guard := none }) (v := ?_) rfl (by kernel_rfl) (by kernel_rfl) (by kernel_rfl) (fun _ _ _ h => h) (Or.inl ⟨by rfl, ?_⟩) hHeld ?_
              rotate_left
              · (intro wq hSw; (try dsimp only at hSw); go_simp; try (with_reducible rfl))
              try simp only [Act.put, List.setIfInBounds_toArray, List.set_cons_zero, List.set_cons_succ]
              refine wpAnyH_take (i := 6) (oi := { dst := some 76, op := Go.Op.indexAddr 25 (Go.Operand.tmp 74) (Go.Operand.tmp 75), type := 0, pos := "exact.go:118", after := #[{ on := 4, ground := Go.Ground.data }, { on := 5, ground := Go.Ground.data }], guard := none }) (v := ?_) rfl (by kernel_rfl) (by kernel_rfl) (by kernel_rfl) (fun _ _ _ h => h) (Or.inl ⟨by rfl, ?_⟩) hHeld ?_
              rotate_left
              · (intro wq hSw; (try dsimp only at hSw); go_simp; try (with_reducible rfl))
              try simp only [Act.put, List.setIfInBounds_toArray, List.set_cons_zero, List.set_cons_succ]
              refine wpAnyH_take (i := 7) (oi := { dst := some 77, op := Go.Op.load 9 (Go.Operand.tmp 76), type := 9, pos := "exact.go:118", after := #[{ on := 6, ground := Go.Ground.data }], guard := none }) (v := ?_) rfl (by kernel_rfl) (by kernel_rfl) (by kernel_rfl) (fun _ _ _ h => h) (Or.inl ⟨by rfl, ?_⟩) hHeld ?_
              rotate_left
              · (intro wq hSw; (try dsimp only at hSw); go_simp; try (with_reducible rfl))
              try simp only [Act.put, List.setIfInBounds_toArray, List.set_cons_zero, List.set_cons_succ]
              refine wpAnyH_take (i := 8) (oi := { dst := some 78, op := Go.Op.binOp Go.BinOp.neq 9 (Go.Operand.tmp 73) (Go.Operand.tmp 77) 9, type := 4, pos := "exact.go:118", after := #[{ on := 3, ground := Go.Ground.data }, { on := 7, ground := Go.Ground.data }], guard := none }) (v := .bool false) rfl (by kernel_rfl) (by kernel_rfl) (by kernel_rfl) (fun _ _ _ h => h) (Or.inl ⟨by rfl, ?_⟩) hHeld ?_
              · (intro wq hSw; (try dsimp only at hSw); go_simp)
              try simp only [Act.put, List.setIfInBounds_toArray, List.set_cons_zero, List.set_cons_succ]
              refine wpAnyH_done (by kernel_rfl) ?_ _
              go_wp2_with fail
              go_meet
              case rel => exact ⟨by first | rfl | simp, (Below.refl wq.heap.size wq).drew⟩
            case rest =>
              obtain ⟨rfl, HBX⟩ := hcut
              rename World => wx
              have HP := hidV (HQ.out.below HBX.out)
              have cgt : wx.cell? ⟨gt, i, none⟩ = some (.string x) := (HBX.out.cell (p := ⟨gt, i, none⟩) HC.out.2.2).trans HC.out.2.1
              have fgt := HP.out.r.fz.2 i
              have hadd := HXx.out.2
              obtain ⟨Z, hZ⟩ : ∃ Z, addM x = Z := ⟨_, rfl⟩
              rw [hZ] at hadd
              have HZ := hidV hZ
              clear hZ
              go_wp2_with fail
              go_roundw
              case rel => exact ⟨i + 1, by omega, by (try go_num), by
                have h9 := HP.out.setT hli Z
                rw [← HZ.out, upT_set addM ps HXx.out.1] at h9
                rw [← HZ.out]
                exact h9⟩
              case measure => simp [intOf]; omega
          · have q2 : ¬ (i : Int) < (ps.length : Int) := by omega
            have hie : i = ps.length := by omega
            have hl2 : (upT addM ps i).length = ps.length := upT_len addM ps i hi9
            obtain ⟨ps2, hps2⟩ : ∃ p2, upT addM ps i = p2 := ⟨_, rfl⟩
            rw [hps2] at HQ hl2
            have HL2 := hidV hl2
            clear hps2 hl2 hie HR0
            have HQ0 : Hid (PaS w6 T2 wq w6.heap.size gu xs.length cu (upT addU xs 0) gt ps.length ct ps2) := by rw [upT_zero]; exact HQ
            clear HQ
            go_wp2_with fail
            go_loopw [18] (fun iv wu => ∃ j : Nat, j ≤ xs.length ∧ iv = .int .i64 (j : Int) ∧ Hid (PaS w6 T2 wu w6.heap.size gu xs.length cu (upT addU xs j) gt ps.length ct ps2)) (fun iv _ => xs.length - (intOf iv).toNat)
            case atStart => exact ⟨0, Nat.zero_le _, rfl, HQ0⟩
            case round =>
              obtain ⟨j, hj9, rfl, HU⟩ := hrel
              rename World => wu
              by_cases hlj : j < xs.length
              · have q3 : (j : Int) < (xs.length : Int) := by omega
                obtain ⟨x, hx⟩ : ∃ x, xs[j]? = some x := ⟨_, List.getElem?_eq_getElem hlj⟩
                obtain ⟨pb, po, rfl, hpb, pcell⟩ := (HA.out.2.2.2.below (HBw.out _ HU.out.b)).cell hx
                obtain ⟨pb2, po2, e2, hpb2, pcell2⟩ := HU.out.r.lsU.cell (upT_get addU xs hx)
                simp only [Option.some.injEq, Addr.mk.injEq] at e2
                obtain ⟨rfl, rfl, _⟩ := e2
                have HC : Hid (wu.cell? ⟨pb, po + j, none⟩ = some (.int .u64 x) ∧ wu.cell? ⟨gu, j, none⟩ = some (.int .u64 x) ∧ gu < wu.heap.size) := by
                  have h1 := pcell 0 _ rfl
                  have h2 := pcell2 0 _ rfl
                  exact ⟨by simpa [kU] using h1, by simpa [kU] using h2, hpb2⟩
                have HXx := hidV hx
                clear hx pcell pcell2 hpb hpb2
                go_wp2_with fail
                go_cut [101] (fun v wx => v = .bool false ∧ Hid (RowKit.Below wu.heap.size wu wx))
                case first =>
                  refine wp_region_held_drew (S := (fun X => RowKit.Below wu.heap.size wu X ∧ X.cell? ⟨pb, po + j, none⟩ = some (.int .u64 x) ∧ X.cell? ⟨gu, j, none⟩ = some (.int .u64 x))) (by kernel_rfl) ?_ (fun hHeld => ?_)
                  · exact ⟨(Below.refl _ _).drew, HC.out.1, HC.out.2.1⟩
                  refine wpAnyH_take (i := 0) (oi := { dst := some 93, op := Go.Op.move (Go.Operand.tmp 15), type := 26, pos := "exact.go:124", after := #[], guard := none }) (v := ?_) rfl (by kernel_rfl) (by kernel_rfl) (by kernel_rfl) (fun _ _ _ h => h) (Or.inl ⟨by rfl, ?_⟩) hHeld ?_
                  rotate_left
                  · (intro wq hSw; (try dsimp only at hSw); go_simp; try (with_reducible rfl))
                  try simp only [Act.put, List.setIfInBounds_toArray, List.set_cons_zero, List.set_cons_succ]
                  refine wpAnyH_take (i := 1) (oi := { dst := some 94, op := Go.Op.move (Go.Operand.tmp 18), type := 3, pos := "exact.go:124", after := #[], guard := none }) (v := ?_) rfl (by kernel_rfl) (by kernel_rfl) (by kernel_rfl) (fun _ _ _ h => h) (Or.inl ⟨by rfl, ?_⟩) hHeld ?_
                  rotate_left
                  · (intro wq hSw; (try dsimp only at hSw); go_simp; try (with_reducible rfl))
                  try simp only [Act.put, List.setIfInBounds_toArray, List.set_cons_zero, List.set_cons_succ]
                  refine wpAnyH_take (i := 2) (oi := { dst := some 95, op := Go.Op.indexAddr 26 (Go.Operand.tmp 93) (Go.Operand.tmp 94), type := 0, pos := "exact.go:124", after := #[{ on := 0, ground := Go.Ground.data }, { on := 1, ground := Go.Ground.data }], guard := none }) (v := ?_) rfl (by kernel_rfl) (by kernel_rfl) (by kernel_rfl) (fun _ _ _ h => h) (Or.inl ⟨by rfl, ?_⟩) hHeld ?_
                  rotate_left
                  · (intro wq hSw; (try dsimp only at hSw); go_simp; try (with_reducible rfl))
                  try simp only [Act.put, List.setIfInBounds_toArray, List.set_cons_zero, List.set_cons_succ]
                  refine wpAnyH_take (i := 3) (oi := { dst := some 96, op := Go.Op.load 55 (Go.Operand.tmp 95), type := 55, pos := "exact.go:124", after := #[{ on := 2, ground := Go.Ground.data }], guard := none }) (v := ?_) rfl (by kernel_rfl) (by kernel_rfl) (by kernel_rfl) (fun _ _ _ h => h) (Or.inl ⟨by rfl, ?_⟩) hHeld ?_
                  rotate_left
                  · (intro wq hSw; (try dsimp only at hSw); go_simp; try (with_reducible rfl))
                  try simp only [Act.put, List.setIfInBounds_toArray, List.set_cons_zero, List.set_cons_succ]
                  refine wpAnyH_take (i := 4) (oi := { dst := some 97, op := Go.Op.move (Go.Operand.tmp 3), type := 26, pos := "exact.go:124", after := #[], guard := none }) (v := ?_) rfl (by kernel_rfl) (by kernel_rfl) (by kernel_rfl) (fun _ _ _ h => h) (Or.inl ⟨by rfl, ?_⟩) hHeld ?_
                  rotate_left
                  · (intro wq hSw; (try dsimp only at hSw); go_simp; try (with_reducible rfl))
                  try simp only [Act.put, List.setIfInBounds_toArray, List.set_cons_zero, List.set_cons_succ]
                  refine wpAnyH_take (i := 5) (oi := { dst := some 98, op := Go.Op.move (Go.Operand.tmp 18), type := 3, pos := "exact.go:124", after := #[], guard := none }) (v := ?_) rfl (by kernel_rfl) (by kernel_rfl) (by kernel_rfl) (fun _ _ _ h => h) (Or.inl ⟨by rfl, ?_⟩) hHeld ?_
                  rotate_left
                  · (intro wq hSw; (try dsimp only at hSw); go_simp; try (with_reducible rfl))
                  try simp only [Act.put, List.setIfInBounds_toArray, List.set_cons_zero, List.set_cons_succ]
                  refine wpAnyH_take (i := 6) (oi := { dst := some 99, op := Go.Op.indexAddr 26 (Go.Operand.tmp 97) (Go.Operand.tmp 98), type := 0, pos := "exact.go:124", after := #[{ on := 4, ground := Go.Ground.data }, { on := 5, ground := Go.Ground.data }], guard := none }) (v := ?_) rfl (by kernel_rfl) (by kernel_rfl) (by kernel_rfl) (fun _ _ _ h => h) (Or.inl ⟨by rfl, ?_⟩) hHeld ?_
                  rotate_left
                  · (intro wq hSw; (try dsimp only at hSw); go_simp; try (with_reducible rfl))
                  try simp only [Act.put, List.setIfInBounds_toArray, List.set_cons_zero, List.set_cons_succ]
                  refine wpAnyH_take (i := 7) (oi := { dst := some 100, op := Go.Op.load 55 (Go.Operand.tmp 99), type := 55, pos := "exact.go:124", after := #[{ on := 6, ground := Go.Ground.data }], guard := none }) (v := ?_) rfl (by kernel_rfl) (by kernel_rfl) (by kernel_rfl) (fun _ _ _ h => h) (Or.inl ⟨by rfl, ?_⟩) hHeld ?_
                  rotate_left
                  · (intro wq hSw; (try dsimp only at hSw); go_simp; try (with_reducible rfl))
                  try simp only [Act.put, List.setIfInBounds_toArray, List.set_cons_zero, List.set_cons_succ]
                  refine wpAnyH_take (i := 8) (oi := { dst := some 101, op := Go.Op.binOp Go.BinOp.neq 55 (Go.Operand.tmp 96) (Go.Operand.tmp 100) 55, type := 4, pos := "exact.go:124", after := #[{ on := 3, ground := Go.Ground.data }, { on := 7, ground := Go.Ground.data }], guard := none }) (v := .bool false) rfl (by kernel_rfl) (by kernel_rfl) (by kernel_rfl) (fun _ _ _ h => h) (Or.inl ⟨by rfl, ?_⟩) hHeld ?_
                  · (intro wq hSw; (try dsimp only at hSw); go_simp)
                  try simp only [Act.put, List.setIfInBounds_toArray, List.set_cons_zero, List.set_cons_succ]
                  refine wpAnyH_done (by kernel_rfl) ?_ _
                  go_wp2_with fail
                  go_meet
                  case rel => exact ⟨by first | rfl | simp, (Below.refl wu.heap.size wu).drew⟩
                case rest =>
                  obtain ⟨rfl, HBX⟩ := hcut
                  rename World => wx
                  have HP := hidV (HU.out.below HBX.out)
                  have cgu : wx.cell? ⟨gu, j, none⟩ = some (.int .u64 x) := (HBX.out.cell (p := ⟨gu, j, none⟩) HC.out.2.2).trans HC.out.2.1
                  have fgu := HP.out.r.fz.1 j
                  obtain ⟨Z, hZ⟩ : ∃ Z, IntKind.u64.wrap (x + 1) = Z := ⟨_, rfl⟩
                  have HZ : Hid (addU x = Z) := hZ
                  go_wp2_with fail
                  go_roundw
                  case rel => exact ⟨j + 1, by omega, by (try go_num), by
                    have h9 := HP.out.setU hlj Z
                    rw [← HZ.out, upT_set addU xs HXx.out] at h9
                    try rw [hZ]
                    rw [← HZ.out]
                    exact h9⟩
                  case measure => simp [intOf]; omega
              · have q3 : ¬ (j : Int) < (xs.length : Int) := by omega
                have hl3 : (upT addU xs j).length = xs.length := upT_len addU xs j hj9
                obtain ⟨xs2, hxs2⟩ : ∃ p2, upT addU xs j = p2 := ⟨_, rfl⟩
                rw [hxs2] at HU hl3
                have HL3 := hidV hl3
                clear hxs2 hl3 HQ0
                have hLr : Lc wu w.heap.size c' := HLc.out _ HU.out.b
                go_wp2_with (first
                  | (refine wpList_cfg (by rfl) _ (by rfl) (by rfl) hLr ?_)
                  | (go_at_call 10; go_loud (refine (HAsk.out _ _ _ HL3.out HL2.out HU.out).mono ?_; rintro e w10 ⟨rfl, hb10⟩; have H10 := hidV (HU.out.below hb10); clear hb10))
                  | (go_at_call 11; go_loud (refine (HHeld.out _ H10.out.b).mono ?_; rintro e w11 ⟨rfl, hb11⟩; have H11 := hidV (H10.out.below hb11); clear hb11))
                  | (go_at_call 12; go_loud (refine (HHold.out _ _ _ H11.out).mono ?_; rintro e w12 ⟨rfl, hw12⟩; have hw13 := hw12.symm; clear hw12; subst hw13)))
                go_ret
                exact ⟨rfl, HBw.out _ H11.out.b⟩
end Vr
end Go.Proofs.YtaejjpbpnedblaaGreat
