import Derived.Test.YtkofopaejkabhaaMf3
import Derived.Deep.DeepCutAuto
namespace Go.Proofs.Ytkofopaejkabhaa
namespace Mem
open Go.RowKit Laws Irw Erw KMath Skm Byt Sk Grp Crw
set_option linter.unusedVariables false
set_option maxRecDepth 100000
set_option linter.unusedSimpArgs false
variable {T T' : Nat → Nat} {w w' : World} {M L : Nat} {ds : List Nat} {ns : List Nd} {B Bf Bt Ba Bp : Nat} {aA : Option Addr} {cA : Nat} {aP : Option Addr} {cP n nP : Nat}
/-- MemFresh's walk, as far as it has come -/
structure Fj (T : Nat → Nat) (w : World) (all : List En) (Bw Bn : Nat) (es : List En) (T' : Nat → Nat) (w' : World) : Prop where
  tg : T' = T
  pre : es <+: all
  go : Goes (· = 8) T w T w'
  cw : w'.cell? ⟨Bw, 0, none⟩ = some (.bool true)
  cn : w'.cell? ⟨Bn, 0, none⟩ = some (.int .i64 (es.length : Int))
  fw : w'.frozen? ⟨Bw, 0, none⟩ = false
  fn : w'.frozen? ⟨Bn, 0, none⟩ = false
theorem Fj.lasts {T : Nat → Nat} {w : World} {all : List En} {Bw Bn : Nat} (h1 : Bw < w.heap.size) (h2 : Bn < w.heap.size) : Lasts w.heap.size (Fj T w all Bw Bn) := by
  intro es T' A C row h hg hr
  have hk : ∀ b, b < w.heap.size → C.heap[b]? = A.heap[b]? := fun b hb => hg.block b (Nat.lt_of_lt_of_le hb h.go.size) (fun e => by have := (hr b e.symm).1; omega)
  refine ⟨h.tg, h.pre, ⟨hg.os.trans h.go.os, hg.tape.trans h.go.tape, hg.output.trans h.go.output, Nat.le_trans h.go.size hg.size, fun b hb hu => (hk b hb).trans (h.go.block b hb hu), h.go.tag, fun b hb h0 => h.go.high b (Nat.le_trans hg.size hb) h0⟩, (World.cell?_of_block (a := ⟨Bw, 0, none⟩) (hk Bw h1)).trans h.cw, (World.cell?_of_block (a := ⟨Bn, 0, none⟩) (hk Bn h2)).trans h.cn, ?_, ?_⟩
  · have := h.fw
    unfold World.frozen? at this ⊢
    rw [hk Bw h1]; exact this
  · have := h.fn
    unfold World.frozen? at this ⊢
    rw [hk Bn h2]; exact this
def Fn' (all : List En) (es : List En) (_ : Nat → Nat) (_ : World) : Prop := ¬ es <+: all
theorem pre_snoc {all es : List En} {e : En} (h : es <+: all) (hl : es.length < all.length) (he : all.getD es.length ez = e) : es ++ [e] <+: all := by
  obtain ⟨r, rfl⟩ := h
  cases r with
  | nil => simp at hl
  | cons x r =>
    have : x = e := by rw [← he]; simp
    exact ⟨r, by rw [this]; simp⟩
theorem pre_not {all es : List En} {e : En} (hl : es.length < all.length) (he : all.getD es.length ez ≠ e) : ¬ es ++ [e] <+: all := by
  rintro ⟨r, rfl⟩
  exact he (by simp)
/-- MemFresh's walk through the list, with walks within it -/
theorem fresh_walk (h : Fx T w M L ds ns B Bf Bt Ba Bp aA cA aP cP n nP) (Bw Bn : Nat) (hw : w.cell? ⟨Bw, 0, none⟩ = some (.bool true)) (hn : w.cell? ⟨Bn, 0, none⟩ = some (.int .i64 0)) (fw : w.frozen? ⟨Bw, 0, none⟩ = false) (fn : w.frozen? ⟨Bn, 0, none⟩ = false) (tw : T Bw = 8) (tn : T Bn = 8) (hne : Bw ≠ Bn) :
    Calls Try.prog 88 #[.func (.func 35) #[] #[.pointer (some ⟨Bf, 0, none⟩), .pointer (some ⟨Bt, 0, none⟩), .pointer (some ⟨Bw, 0, none⟩), .pointer (some ⟨Bn, 0, none⟩), .pointer (some ⟨Ba, 0, none⟩), .pointer (some ⟨Bp, 0, none⟩)], .pointer (some ⟨B, 0, none⟩), .pointer (some ⟨B + 1, 0, none⟩), .pointer (some ⟨B + 2, 0, none⟩)] w fun r w' => (∃ v, r = .returned v) ∧ Goes (· = 8) T w T w' ∧ w'.cell? ⟨Bw, 0, none⟩ = some (.bool true) ∧ w'.cell? ⟨Bn, 0, none⟩ = some (.int .i64 (n : Int)) := by
  obtain ⟨pre, post, hwk⟩ := Wk.of h.mt.sl ⟨#[]⟩ 18446744073709551615
  have hpn : post = ns := post_all hwk fun nd hnd => (h.mt.ok nd hnd).2.2.2.2
  have hlw := World.block_lt_of_cell? w _ hw
  have hln := World.block_lt_of_cell? w _ hn
  refine (callsIn_wide.1 (each_fn (· = 8) (by omega) 10 (by omega) T Bf Bt Bw Bn Ba Bp B (B + 1) (B + 2) L ⟨#[]⟩ 18446744073709551615 ns pre post w hwk h.mt.sl.tags h.mt.sl.tag h.zero h.k1 h.k2 h.k3 (Fj T w (ns.map Nd.e) Bw Bn) (Fn' (ns.map Nd.e)) (Fj.lasts hlw hln) (fun es T' A C row h _ _ => h) ⟨rfl, List.nil_prefix, Goes.refl _ _ _, hw, hn, fw, fn⟩ ?_)).mono ?_
  · rintro es e T' W1 hj hz hl
    have htg := hj.tg
    subst htg
    have hF := h.goes hj.go hz
    have hl2 : es.length < n := by rw [← h.ln]; exact hl
    by_cases he : (ns.map Nd.e).getD es.length ez = e
    · refine (fresh_ok hF Bw Bn es.length hj.cw hj.cn hj.fw hj.fn tw tn hne hl2 e he).mono ?_
      rintro r W2 ⟨rfl, g, k, c1, c2, c3, c4⟩
      refine ⟨true, rfl, T', k.from _, fun _ => ⟨⟨rfl, pre_snoc hj.pre (by rw [List.length_map]; exact hl) he, hj.go.trans g, c1, ?_, c3, c4⟩, g, fun x hx => hz x (Nat.le_trans g.size hx)⟩, fun e => by cases e⟩
      rw [c2, List.length_append]; rfl
    · refine (fresh_no hF Bw Bn es.length hj.cw hj.cn hj.fw hj.fn tw tn hne hl2 e he).mono ?_
      rintro r W2 ⟨rfl, k⟩
      exact ⟨false, rfl, T', k.from _, (fun e => by cases e), fun _ => pre_not (by rw [List.length_map]; exact hl) he⟩
  · rintro r W' ⟨hv, ⟨T', hj⟩ | ⟨es, T', hp, hx⟩⟩
    · refine ⟨hv, hj.go, hj.cw, ?_⟩
      have := hj.cn
      rw [hpn, List.length_map, h.ln] at this
      exact this
    · rw [hpn] at hp
      exact absurd hp hx
set_option maxHeartbeats 1000000 in
theorem freeze_mem {t : Nat} {T : Nat → Nat} {w : World} {M L : Nat} {ds : List Nat} {ns : List Nd} {fz : Bool} (h : Mt t T w M L ds ns fz) (ht : 0 < t) :
    Calls Try.prog 34 #[.pointer (some ⟨M, 0, none⟩)] w fun r w' => (∃ v, r = .returned v) ∧ Mt t T w' M L ds ns true ∧ Goes (· = t + 2) T w T w' := by
  have HM : Hid (Mt t T w M L ds ns fz) := h
  have c3 := h.c3
  have f3 := h.fr 3
  clear h
  go_enter Try.func34, Try.ntmps34
  go_wp2
  refine bodyPost_end (results_none Try.results34 _ _ _) rfl ⟨⟨_, rfl⟩, ?_⟩
  have h := HM.out
  have hg : Goes (· = t + 2) T w T (w.setCell ⟨M, 3, none⟩ (.bool true)) := Goes.setCell h.tag
  have ne : ∀ (i j : Nat), i ≠ j → (⟨M, i, none⟩ : Addr) ≠ ⟨M, j, none⟩ := fun i j hij q => hij (congrArg Addr.off q)
  refine ⟨⟨h.sl.goes hg (by omega) (by omega), h.tag, by have := h.lt; simpa using this, ?_, ?_, ?_, World.cell?_setCell_same _ _ _ c3, fun j => ?_, h.ok⟩, hg⟩
  · rw [World.cell?_setCell_other _ ⟨M, 3, none⟩ ⟨M, 0, none⟩ _ (ne _ _ (by omega))]; exact h.c0
  · rw [World.cell?_setCell_other _ ⟨M, 3, none⟩ ⟨M, 1, none⟩ _ (ne _ _ (by omega))]; exact h.c1
  · rw [World.cell?_setCell_other _ ⟨M, 3, none⟩ ⟨M, 2, none⟩ _ (ne _ _ (by omega))]; exact h.c2
  · rw [World.frozen?_setCell]; exact h.fr j
end Mem
end Go.Proofs.Ytkofopaejkabhaa
namespace Go.Proofs.Ytkofopaejkabhaa
namespace Mem
open Go.RowKit Laws Irw Erw KMath Skm Byt Sk Grp Crw
set_option linter.unusedVariables false
theorem IsG.take {w : World} {a : Option Addr} {gs : List (List Chk.Wr)} (h : IsG w a gs) (m : Nat) : IsG w a (gs.take m) := by
  obtain ⟨vs, h1, h2, h3⟩ := h
  refine ⟨vs.take m, by simp [h1], fun hne => ?_, fun i v ws hv hw => ?_⟩
  · obtain ⟨b, off, e, hr⟩ := h2 (by rintro rfl; simp at hne)
    exact ⟨b, off, e, hr.1, fun i e he j u hu => hr.2 i e (by rw [List.getElem?_take] at he; split at he; exact he; cases he) j u hu⟩
  · rw [List.getElem?_take] at hv hw
    split at hv
    · rename_i hi
      rw [if_pos hi] at hw
      exact h3 i v ws hv hw
    · cases hv
theorem Bs.take {gs : List (List Chk.Wr)} (h : Bs gs) (m : Nat) : Bs (gs.take m) :=
  ⟨by have := h.len; simp; omega, fun g hg => h.l16 g (List.mem_of_mem_take hg), fun g hg => h.ok g (List.mem_of_mem_take hg)⟩
theorem run_store_func' (P : Program) (w : World) (a : Addr) (m : Mode) (f : Fn) (x y : Array Value) : (store a (.func f x y) m).run P w = stored P w a (.func f x y) m := run_store P w a _ m rfl
attribute [local go_sem] run_store_func'
/-- what MemFresh keeps in boxes -/
structure Fq (w3 : World) (T : Nat → Nat) (W : World) (M Bt Ba Bp : Nat) (aA : Option Addr) (cA : Nat) (aP : Option Addr) (cP n nP : Nat) (es fs : List En) : Prop where
  old : Old w3 T W
  ct : W.cell? ⟨Bt, 0, none⟩ = some (.pointer (some ⟨M, 0, none⟩))
  ca : W.cell? ⟨Ba, 0, none⟩ = some (.slice aA n cA)
  cp : W.cell? ⟨Bp, 0, none⟩ = some (.slice aP nP cP)
  tg : T Bt = 0 ∧ T Ba = 0 ∧ T Bp = 0
  iA : EA T W aA es
  iP : EA T W aP fs
theorem Fq.goes {u : Nat → Prop} {w3 : World} {T T' : Nat → Nat} {W W' : World} {M Bt Ba Bp : Nat} {aA : Option Addr} {cA : Nat} {aP : Option Addr} {cP n nP : Nat} {es fs : List En} (h : Fq w3 T W M Bt Ba Bp aA cA aP cP n nP es fs) (hg : Goes u T W T' W') (h0 : ¬ u 0) : Fq w3 T' W' M Bt Ba Bp aA cA aP cP n nP es fs := by
  obtain ⟨t1, t2, t3⟩ := h.tg
  have b1 := World.block_lt_of_cell? W _ h.ct
  have b2 := World.block_lt_of_cell? W _ h.ca
  have b3 := World.block_lt_of_cell? W _ h.cp
  have cl : ∀ b, T b = 0 → b < W.heap.size → W'.cell? ⟨b, 0, none⟩ = W.cell? ⟨b, 0, none⟩ := fun b e hb => hg.cell hb (by rw [e]; exact h0)
  have tl : ∀ b, T b = 0 → b < W.heap.size → T' b = 0 := fun b e hb => (hg.tag b hb (by rw [e]; exact h0)).trans e
  exact ⟨h.old.goes hg h0, (cl _ t1 b1).trans h.ct, (cl _ t2 b2).trans h.ca, (cl _ t3 b3).trans h.cp, ⟨tl _ t1 b1, tl _ t2 b2, tl _ t3 b3⟩, h.iA.goes hg h0, h.iP.goes hg h0⟩
theorem Fq.below {w3 : World} {T : Nat → Nat} {W W' : World} {M Bt Ba Bp : Nat} {aA : Option Addr} {cA : Nat} {aP : Option Addr} {cP n nP : Nat} {es fs : List En} (h : Fq w3 T W M Bt Ba Bp aA cA aP cP n nP es fs) (hb : Below W.heap.size W W') : Fq w3 T W' M Bt Ba Bp aA cA aP cP n nP es fs := h.goes (Goes.below (t := fun _ => False) hb) (fun z => z)
/-- two boxes that may be written -/
def two (T : Nat → Nat) (a : Nat) : Nat → Nat := fun b => if b = a ∨ b = a + 1 then 8 else T b
theorem goes_two {T : Nat → Nat} {W : World} {o1 o2 : Obj} {a : Nat} (ha : W.heap.size = a) : Goes (fun _ => False) T W (two T a) ((W.alloc o1).alloc o2) := by
  subst ha
  have hb : Below W.heap.size W ((W.alloc o1).alloc o2) := ((Below.refl _ _).alloc (Nat.le_refl _) _).alloc (by simp) _
  refine ⟨hb.os, hb.tape, hb.output, hb.size, fun b hb' _ => hb.block b hb', fun b hb' _ => ?_, fun b hb' h0 => ?_⟩
  · unfold two; rw [if_neg (by omega)]
  · unfold two; simp at hb'; rw [if_neg (by omega)]; exact h0
end Mem
namespace MemFresh
open Go.RowKit Laws Irw Erw KMath Skm Byt Sk Grp Mem Crw
attribute [local go_sem] Mem.run_store_func'
set_option linter.unusedVariables false
set_option maxRecDepth 100000
set_option linter.unusedSimpArgs false
set_option maxHeartbeats 4000000 in
theorem walk (w : World) (ad : Option Addr) (cd : Nat) (ds : List Nat) (hd : IsB w ad ds) (hdn : ad = none → cd = 0) (hd47 : ds.length ≤ 140737488355328)
    (a : Option Addr) (c n0 : Nat) (gs0 : List (List Chk.Wr)) (hn : gs0.length = n0) (hmx : (n0 : Int) ≤ 9223372036854775807) (hg : IsG w a gs0) :
    Calls Try.prog 7 #[.slice ad ds.length cd, .slice a n0 c] w fun e w' => e = .returned (.bool true) ∧ Below w.heap.size w w' := by
  have HD : Hid (IsB w ad ds ∧ (ad = none → cd = 0) ∧ ds.length ≤ 140737488355328) := ⟨hd, hdn, hd47⟩
  have HG0 : Hid (IsG w a gs0 ∧ gs0.length = n0) := ⟨hg, hn⟩
  obtain ⟨D, hD⟩ : ∃ D, ds.length = D := ⟨_, rfl⟩
  have HDO : Hid (ds.length = D) := hD
  rw [hD]
  clear hd hdn hd47 hg hn hD
  go_enter Try.func7, Try.ntmps7
  go_wp2_with (first
    | (go_at_call 18; refine (known_any w).mono ?_; rintro e w1 ⟨rfl, hb1⟩; have HB1 : Hid (Below w.heap.size w w1) := hb1; clear hb1)
    | fail)
  refine (groups_any w1 a c n0 gs0 HG0.out.2 hmx (HG0.out.1.below HB1.out)).mono ?_
  rintro e w2 ⟨few, rfl, hb2⟩
  have HB2 : Hid (Below w.heap.size w w2) := HB1.out.trans (hb2.mono HB1.out.size)
  clear hb2 HB1
  cases few with
  | false =>
    go_wp2
    go_ret
    exact ⟨rfl, HB2.out⟩
  | true =>
    go_wp2_with fail
    refine (batches_any w2 a c n0 gs0 HG0.out.2 hmx (HG0.out.1.below HB2.out)).mono ?_
    rintro e w3 ⟨ag, cg, rfl, hg3, ⟨hnil, hcg⟩, hb3⟩
    obtain ⟨gs1, hgs1⟩ : ∃ gs, (gs0.take 60).map rightL = gs := ⟨_, rfl⟩
    have hbs1 : Bs gs1 := by rw [← hgs1]; exact Bs.of gs0
    rw [hgs1] at hg3 hcg ⊢
    obtain ⟨N1, hN1⟩ : ∃ N, gs1.length = N := ⟨_, rfl⟩
    obtain ⟨N, hN⟩ : ∃ N, min N1 8 = N := ⟨_, rfl⟩
    obtain ⟨gs, hgs⟩ : ∃ gs, gs1.take 8 = gs := ⟨_, rfl⟩
    rw [hN1] at hcg ⊢
    have HBS : Hid (Bs gs) := by rw [← hgs]; exact hbs1.take 8
    have HG3 : Hid (IsG w3 ag gs ∧ gs.length = N) := ⟨by rw [← hgs]; exact Mem.IsG.take hg3 8, by rw [← hgs, List.length_take]; omega⟩
    have HB3 : Hid (Below w.heap.size w w3) := HB2.out.trans (hb3.mono HB2.out.size)
    have hN60 : N ≤ 60 := by omega
    have hNi : (N : Int) ≤ 8 := by omega
    have s1 : min (N1 : Int) 8 = (N : Int) := by omega
    have s2 : (N : Int) ≤ (cg : Int) := by omega
    have s3 : (0 : Int) ≤ (N : Int) := by omega
    clear hg3 hgs hgs1 hN hN1 hb3 HB2 HG0 hmx hbs1 hcg
    go_wp2_with fail
    refine (new_mem 10 (fun _ => 0) w3 ad D cd ds (HD.out.1.below HB3.out) HDO.out.symm HD.out.2.1 HD.out.2.2 (fun _ _ => rfl)).mono ?_
    rintro e w5 ⟨M, L, T5, rfl, hmt4, hgo4⟩
    have HM5 : Hid (Mt 10 T5 w5 M L ds [] false ∧ Old w3 T5 w5) := ⟨hmt4, (Old.first w3).goes hgo4 (fun z => z)⟩
    have HB5 : Hid (Below w5.heap.size w5 (w5.alloc (.cells #[.pointer (some ⟨M, 0, none⟩)] 44)) ∧ (w5.alloc (.cells #[.pointer (some ⟨M, 0, none⟩)] 44)).cell? ⟨w5.heap.size, 0, none⟩ = some (.pointer (some ⟨M, 0, none⟩))) := ⟨(Below.refl _ _).alloc (Nat.le_refl _) _, by rw [cell_of_obj (World.alloc_heap_new _ _)]; rfl⟩
    have HM5b : Hid (Old w3 T5 (w5.alloc (.cells #[.pointer (some ⟨M, 0, none⟩)] 44))) := HM5.out.2.goes (Goes.below (t := fun _ => False) HB5.out.1) (fun z => z)
    clear hmt4 hgo4
    go_wp2_with fail
    refine (numbered_any _ 1 (by omega) ag cg N gs HG3.out.2 hN60 HBS.out.l16 (HG3.out.1.below HM5b.out.below)).mono ?_
    rintro e w6 ⟨af, cf, rfl, hnu, hfr, hb6⟩
    have hb56 : Below w5.heap.size w5 w6 := HB5.out.1.trans (hb6.mono HB5.out.1.size)
    have HLP0 : Hid (L1 1 w3 w6 T5 T5 w6 M L ds gs [] 0) := ⟨HM5.out.1.below hb56, Goes.refl _ _ _, HM5.out.2.goes (Goes.below (t := fun _ => False) hb56) (fun z => z), by simp only [fwd, List.range_zero, List.map_nil, List.flatten_nil]; exact .nil⟩
    have HNU : Hid (IsK kU w6 af (nums 1 gs N) ∧ ∀ b off, af = some ⟨b, off, none⟩ → T5 b = 0) := ⟨hnu, fun b off e => HM5.out.2.zero b (.inr (Nat.le_trans HB5.out.1.size (hfr b off e)))⟩
    obtain ⟨Bt, hBt⟩ : ∃ Bt, w5.heap.size = Bt := ⟨_, rfl⟩
    have HBT : Hid (w6.cell? ⟨Bt, 0, none⟩ = some (.pointer (some ⟨M, 0, none⟩)) ∧ T5 Bt = 0 ∧ Bt < w6.heap.size) := by
      rw [← hBt]
      have h1 := (hb6.cell (p := ⟨w5.heap.size, 0, none⟩) (by simp)).trans HB5.out.2
      exact ⟨h1, HM5.out.2.zero _ (.inr (Nat.le_refl _)), World.block_lt_of_cell? _ _ h1⟩
    rw [hBt]
    clear hnu hfr hb6 HM5 HM5b HB5 hb56 hBt
    go_wp2
    go_loopw [7] (fun i wr => ∃ (k : Nat) (T : Nat → Nat) (n1 : List Nd), k ≤ N ∧ i = .int .i64 (k : Int) ∧ Hid (L1 1 w3 w6 T5 T wr M L ds gs n1 k)) (fun i _ => N - (intOf i).toNat)
    case atStart => exact ⟨0, T5, [], Nat.zero_le _, rfl, HLP0⟩
    case round =>
      clear HLP0
      obtain ⟨k, T, n1, hk, rfl, HK⟩ := hrel
      rename World => wr
      by_cases hlt : k < N
      · have hkl : k < gs.length := by rw [HG3.out.2]; exact hlt
        obtain ⟨bg, og, ad1, c1, rfl, hbg, g1, hw1⟩ := HG3.out.1.rd hkl
        obtain ⟨bf, of, rfl, hbf, f1⟩ := rdU HNU.out.1 hlt
        obtain ⟨m1, hm1⟩ : ∃ m, (gs.getD k []).length = m := ⟨_, rfl⟩
        obtain ⟨F1, hF1⟩ : ∃ F, ((1 + Grp.off gs k : Nat) : Int) = F := ⟨_, rfl⟩
        rw [hm1] at g1
        rw [hF1] at f1
        have hT5 := HNU.out.2 bf of rfl
        have HAT : Hid (∀ W, L1 1 w3 w6 T5 T W M L ds gs n1 k → Calls Try.prog 22 #[.pointer (some ⟨M, 0, none⟩), .int .u64 F1, .slice ad1 m1 c1] W fun r w' => r = .returned (.int .i64 0) ∧ ∃ T' n1', L1 1 w3 w6 T5 T' w' M L ds gs n1' (k + 1)) := fun W hW => hW.add HBS.out HD.out.2.2 hkl hw1 hm1 hF1
        have HSC : Hid (∀ W T n1 k1, L1 1 w3 w6 T5 T W M L ds gs n1 k1 → W.cell? ⟨bf, of + k, none⟩ = some (.int .u64 F1) ∧ W.cell? ⟨bg, og + k, none⟩ = some (.slice ad1 m1 c1) ∧ W.cell? ⟨Bt, 0, none⟩ = some (.pointer (some ⟨M, 0, none⟩))) := fun W T n1 k1 hW => ⟨hW.num hbf hT5 f1, hW.grp hbg g1, hW.num HBT.out.2.2 HBT.out.2.1 HBT.out.1⟩
        have q1 : (k : Int) < (N : Int) := by omega
        clear hw1 hm1 hF1 f1 g1 hbg hbf hT5 hkl
        go_wp2
        go_region_held3 (fun W => W.cell? ⟨bf, of + k, none⟩ = some (.int .u64 F1) ∧ W.cell? ⟨bg, og + k, none⟩ = some (.slice ad1 m1 c1) ∧ W.cell? ⟨Bt, 0, none⟩ = some (.pointer (some ⟨M, 0, none⟩))) (first | assumption | exact HSC.out _ _ _ _ (HK.out.below (Below.refl _ _).drew))
          (first
            | (go_at_call 22; refine (HAT.out _ ?_).mono ?_; exact HK.out.below (Below.refl _ _).drew; rintro r w7 ⟨rfl, T7, n7, hl7⟩; have HL7 : Hid (L1 1 w3 w6 T5 T7 w7 M L ds gs n7 (k + 1)) := hl7; have hS7 := HSC.out _ _ _ _ hl7; clear hl7))
        clear HK HSC HAT
        go_wp2
        go_roundw
        case rel => exact ⟨k + 1, T7, n7, by omega, by go_num, HL7.out⟩
        case measure => simp [intOf]; omega
      · obtain rfl : k = N := by omega
        have hl1 := HK.out.len HBS.out (by rw [HG3.out.2]; exact Nat.le_refl _)
        obtain ⟨n, hn⟩ : ∃ n, n1.length = n := ⟨_, rfl⟩
        have HP1 : Hid (n1.length = n ∧ n ≤ 960) := ⟨hn, by omega⟩
        have HTB : Hid (wr.cell? ⟨Bt, 0, none⟩ = some (.pointer (some ⟨M, 0, none⟩)) ∧ T Bt = 0 ∧ Bt < wr.heap.size) := ⟨HK.out.num HBT.out.2.2 HBT.out.2.1 HBT.out.1, (HK.out.go.tag Bt HBT.out.2.2 (by rw [HBT.out.2.1]; exact u10_0)).trans HBT.out.2.1, Nat.lt_of_lt_of_le HBT.out.2.2 HK.out.go.size⟩
        have HMT : Hid (Mt 10 T wr M L ds n1 false ∧ Old w3 T wr) := ⟨HK.out.t, HK.out.old⟩
        have t1 := HTB.out.1
        clear hl1 hn HNU HBT HK
        go_wp2_with fail
        refine (all_mem2 HMT.out.1 (B := wr.heap.size) rfl).mono ?_
        rintro e wA ⟨rfl, hbA, k1, k2, k3⟩
        have HMA : Hid (Mt 10 T wA M L ds n1 false ∧ Old w3 T wA) := ⟨HMT.out.1.below hbA, HMT.out.2.goes (Goes.below (t := fun _ => False) hbA) (fun z => z)⟩
        have HTA : Hid _ := taken_memf HMA.out.1 (B := wr.heap.size) (n := n) (by have := HP1.out; omega) HP1.out.1 k1 k2 k3
        have HbA : Hid (Below wr.heap.size wr wA) := hbA
        clear k1 k2 k3 hbA
        go_wp2_with fail
        refine Calls.mono HTA.out ?_
        rintro e wB ⟨aA, cA, rfl, iA, fA, hbB⟩
        have HEA : Hid (EA T wB aA (n1.map Nd.e)) := EA.of iA fun b off e => HMA.out.2.zero b (.inr (fA b off e))
        have HbB : Hid (Below wr.heap.size wr wB) := HbA.out.trans (hbB.mono HbA.out.size)
        clear iA fA hbB HTA HMA HbA
        obtain ⟨Ba, hBa⟩ : ∃ Ba, wB.heap.size = Ba := ⟨_, rfl⟩
        have HTBa : Hid (T Ba = 0) := HMT.out.2.zero Ba (.inr (by rw [← hBa]; exact HbB.out.size))
        have HB0 : Hid (Below wB.heap.size wB (wB.alloc (.cells #[.slice aA n cA] 80)) ∧ (wB.alloc (.cells #[.slice aA n cA] 80)).cell? ⟨Ba, 0, none⟩ = some (.slice aA n cA) ∧ (wB.alloc (.cells #[.slice aA n cA] 80)).heap.size = Ba + 1) := ⟨(Below.refl _ _).alloc (Nat.le_refl _) _, by rw [World.cell?_alloc_at _ _ _ _ hBa.symm]; rfl, by simp [hBa]⟩
        have HbC : Hid (Below wr.heap.size wr (wB.alloc (.cells #[.slice aA n cA] 80))) := HbB.out.trans (HB0.out.1.mono HbB.out.size)
        have t2 := (HbC.out.cell (p := ⟨Bt, 0, none⟩) HTB.out.2.2).trans t1
        clear t1
        go_wp2_with fail
        try rw [hBa]
        generalize wB.alloc (.cells #[.slice aA n cA] 80) = wC at *
        refine (from_mem M _ _ wC (B := Ba + 1) HB0.out.2.2).mono ?_
        rintro e wD ⟨rfl, hbD, k1, k2, k3⟩
        have HbD : Hid (Below wr.heap.size wr wD) := HbC.out.trans (hbD.mono HbC.out.size)
        obtain ⟨fs, hfs⟩ : ∃ fs, frm ⟨#[]⟩ 18446744073709551615 (n1.map Nd.e) = fs := ⟨_, rfl⟩
        obtain ⟨nP, hnP⟩ : ∃ nP, fs.length = nP := ⟨_, rfl⟩
        have HFS : Hid (frm ⟨#[]⟩ 18446744073709551615 (n1.map Nd.e) = fs ∧ fs.length = nP) := ⟨hfs, hnP⟩
        have HTA : Hid _ := mtaken_mem (HMT.out.1.below HbD.out) (B := Ba + 1) (n := nP) (by have := HP1.out; omega) (fun e => absurd ((HMT.out.2.zero (Ba + 1 + 2) (.inr (by have := HbB.out.size; omega))).symm.trans e) (by decide)) (by rw [hfs]; exact hnP) k1 k2 k3
        have HED : Hid (EA T wD aA (n1.map Nd.e) ∧ wD.cell? ⟨Ba, 0, none⟩ = some (.slice aA n cA)) := ⟨(HEA.out.below HB0.out.1).below hbD, (hbD.cell (p := ⟨Ba, 0, none⟩) (World.block_lt_of_cell? _ _ HB0.out.2.1)).trans HB0.out.2.1⟩
        clear k1 k2 k3 hbD hfs hnP t2 HB0 hBa HEA
        go_wp2_with fail
        refine Calls.mono HTA.out ?_
        rintro e wE ⟨aP, cP, rfl, iP, fP, hbE⟩
        rw [HFS.out.1] at iP
        obtain ⟨Bp, hBp⟩ : ∃ Bp, wE.heap.size = Bp := ⟨_, rfl⟩
        have HbE : Hid (Below wr.heap.size wr wE) := HbD.out.trans (hbE.mono HbD.out.size)
        have hbp : Below wE.heap.size wE (wE.alloc (.cells #[.slice aP nP cP] 80)) := (Below.refl _ _).alloc (Nat.le_refl _) _
        have hbw : Below wr.heap.size wr (wE.alloc (.cells #[.slice aP nP cP] 80)) := HbE.out.trans (hbp.mono HbE.out.size)
        have hoD : Old w3 T wD := HMT.out.2.goes (Goes.below (t := fun _ => False) HbD.out) (fun z => z)
        have HQ : Hid (Fq w3 T (wE.alloc (.cells #[.slice aP nP cP] 80)) M Bt Ba Bp aA cA aP cP n nP (n1.map Nd.e) fs) := ⟨HMT.out.2.goes (Goes.below (t := fun _ => False) hbw) (fun z => z), (hbw.cell (p := ⟨Bt, 0, none⟩) HTB.out.2.2).trans HTB.out.1, ((hbp.cell (p := ⟨Ba, 0, none⟩) (Nat.lt_of_lt_of_le (World.block_lt_of_cell? _ _ HED.out.2) hbE.size)).trans (hbE.cell (p := ⟨Ba, 0, none⟩) (World.block_lt_of_cell? _ _ HED.out.2))).trans HED.out.2, by rw [World.cell?_alloc_at _ _ _ _ hBp.symm]; rfl, ⟨HTB.out.2.1, HTBa.out, hoD.zero Bp (.inr (by rw [← hBp]; exact hbE.size))⟩, (HED.out.1.below hbE).below hbp, (EA.of iP fun b off e => hoD.zero b (.inr (fP b off e))).below hbp⟩
        have HM : Hid (Mt 10 T (wE.alloc (.cells #[.slice aP nP cP] 80)) M L ds n1 false) := HMT.out.1.below hbw
        have t3 := HQ.out.ct
        clear iP fP hbE hbp hbw hoD HbE HbD HbC HbB HTA HED HMT HTB HTBa
        go_wp2_with fail
        try rw [hBp]
        clear hBp
        generalize wE.alloc (.cells #[.slice aP nP cP] 80) = wF at *
        refine (frozen_mem HM.out).mono ?_
        rintro e w' ⟨rfl, rfl⟩
        go_wp2_with fail
        refine (freeze_mem HM.out (by omega)).mono ?_
        rintro e wG ⟨⟨vG, rfl⟩, hmG, hgG⟩
        have HM2 : Hid (Mt 10 T wG M L ds n1 true) := hmG
        have HQ2 : Hid (Fq w3 T wG M Bt Ba Bp aA cA aP cP n nP (n1.map Nd.e) fs) := HQ.out.goes hgG (by omega)
        clear hmG hgG HM HQ t3
        obtain ⟨Bn, hBn⟩ : ∃ Bn, wG.heap.size = Bn := ⟨_, rfl⟩
        have hg2 : Goes (fun _ => False) T wG (two T Bn) ((wG.alloc (.cells #[.int .i64 0] 3)).alloc (.cells #[.bool true] 4)) := goes_two hBn
        have hb2 : Below (wG.heap.size + 1) (wG.alloc (.cells #[.int .i64 0] 3)) ((wG.alloc (.cells #[.int .i64 0] 3)).alloc (.cells #[.bool true] 4)) := (Below.refl _ _).alloc (by simp) _
        have t4 := (HQ2.out.goes hg2 (fun z => z)).ct
        have HS : Hid (Mt 10 (two T Bn) ((wG.alloc (.cells #[.int .i64 0] 3)).alloc (.cells #[.bool true] 4)) M L ds n1 true ∧ Fq w3 (two T Bn) ((wG.alloc (.cells #[.int .i64 0] 3)).alloc (.cells #[.bool true] 4)) M Bt Ba Bp aA cA aP cP n nP (n1.map Nd.e) fs) := ⟨HM2.out.goes hg2 (fun z => z) (fun z => z) (fun z => z), HQ2.out.goes hg2 (fun z => z)⟩
        have HNW : Hid (((wG.alloc (.cells #[.int .i64 0] 3)).alloc (.cells #[.bool true] 4)).heap[Bn]? = some (.cells #[.int .i64 0] 3) ∧ ((wG.alloc (.cells #[.int .i64 0] 3)).alloc (.cells #[.bool true] 4)).heap[Bn + 1]? = some (.cells #[.bool true] 4)) := by
          rw [← hBn]
          refine ⟨(hb2.block _ (by omega)).trans (World.alloc_heap_new _ _), ?_⟩
          have := World.alloc_heap_new (wG.alloc (.cells #[.int .i64 0] 3)) (.cells #[.bool true] 4)
          simpa using this
        clear hg2 hb2 HM2 HQ2
        go_wp2_with fail
        clear hBn
        generalize (wG.alloc (.cells #[.int .i64 0] 3)).alloc (.cells #[.bool true] 4) = wH at *
        obtain ⟨B, hB⟩ : ∃ B, wH.heap.size = B := ⟨_, rfl⟩
        refine (all_mem2 HS.out.1 hB).mono ?_
        rintro e wI ⟨rfl, hbI, k1, k2, k3⟩
        have hbf : Below wI.heap.size wI (wI.alloc (.cells #[clA B] 58)) := (Below.refl _ _).alloc (Nat.le_refl _) _
        have hbJ : Below wH.heap.size wH (wI.alloc (.cells #[clA B] 58)) := hbI.trans (hbf.mono hbI.size)
        have hQJ := HS.out.2.below hbJ
        have hMJ := HS.out.1.below hbJ
        have hzH : ∀ b, B ≤ b → two T Bn b = 0 := fun b hb => HS.out.2.old.zero b (.inr (by rw [hB]; exact hb))
        have hBI : B ≤ wI.heap.size := by rw [← hB]; exact hbI.size
        have HFX : Hid (Fx (two T Bn) (wI.alloc (.cells #[clA B] 58)) M L ds n1 B wI.heap.size Bt Ba Bp aA cA aP cP n nP) := by
          refine ⟨hMJ, fun b hb => hQJ.old.zero b (.inr hb), (hbf.cell (p := ⟨B, 0, none⟩) (World.block_lt_of_cell? _ _ k1)).trans k1, (hbf.cell (p := ⟨B + 1, 0, none⟩) (World.block_lt_of_cell? _ _ k2)).trans k2, (hbf.cell (p := ⟨B + 2, 0, none⟩) (World.block_lt_of_cell? _ _ k3)).trans k3, by rw [World.cell?_alloc_at _ _ _ _ rfl]; rfl, hQJ.ct, hQJ.ca, hQJ.cp, ⟨hzH _ (Nat.le_refl _), hzH _ (by omega), hzH _ (by omega), hzH _ hBI, hQJ.tg.1, hQJ.tg.2.1, hQJ.tg.2.2⟩, hQJ.iA, by rw [HFS.out.1]; exact hQJ.iP, HP1.out.1, by rw [HFS.out.1]; exact HFS.out.2, by have := HP1.out.2; omega⟩
        have HNJ : Hid ((wI.alloc (.cells #[clA B] 58)).heap[Bn]? = some (.cells #[.int .i64 0] 3) ∧ (wI.alloc (.cells #[clA B] 58)).heap[Bn + 1]? = some (.cells #[.bool true] 4)) := ⟨(hbJ.block _ (Array.getElem?_eq_some_iff.1 HNW.out.1).1).trans HNW.out.1, (hbJ.block _ (Array.getElem?_eq_some_iff.1 HNW.out.2).1).trans HNW.out.2⟩
        have HQJ : Hid (Fq w3 (two T Bn) (wI.alloc (.cells #[clA B] 58)) M Bt Ba Bp aA cA aP cP n nP (n1.map Nd.e) fs) := hQJ
        have t5 := (HS.out.2.below hbI).ct
        clear hbf hbJ hQJ hMJ hzH hBI k1 k2 k3 hbI HNW HS hB t4
        go_wp2_with fail
        have HFW : Hid _ := fresh_walk HFX.out (Bn + 1) Bn (by rw [cell_of_obj HNJ.out.2]; rfl) (by rw [cell_of_obj HNJ.out.1]; rfl) (by unfold World.frozen?; rw [HNJ.out.2]; rfl) (by unfold World.frozen?; rw [HNJ.out.1]; rfl) (by unfold two; simp) (by unfold two; simp) (by omega)
        refine Calls.mono HFW.out ?_
        rintro e wK ⟨⟨vK, rfl⟩, hgK, z1, z2⟩
        have HQK : Hid (Fq w3 (two T Bn) wK M Bt Ba Bp aA cA aP cP n nP (n1.map Nd.e) fs ∧ Mt 10 (two T Bn) wK M L ds n1 true) := ⟨HQJ.out.goes hgK (by omega), HFX.out.mt.goes hgK (by omega) (by omega) (by omega)⟩
        have z3 := HQK.out.1.ct
        have z4 := HQK.out.1.ca
        have HFM : Hid (Calls Try.prog 33 #[.pointer (some ⟨M, 0, none⟩)] wK fun r w' => r = .returned (.bool true) ∧ w' = wK) := frozen_mem HQK.out.2
        have HAD : Hid (Calls Try.prog 22 #[.pointer (some ⟨M, 0, none⟩), .int .u64 1, .slice none 0 0] wK fun r w' => r = .returned (.int .i64 60) ∧ Old w3 (two T Bn) wK ∧ ∃ T', Old w3 T' w') := by
          refine (add_any 10 (two T Bn) wK M L ds n1 true HQK.out.2 (by omega) HD.out.2.2 (by have := HP1.out; omega) (fun b hb' => HQK.out.1.old.zero b (.inr hb')) 1 none 0 0 [] ?_ rfl).mono ?_
          · exact ⟨fun h => absurd rfl h, by simp⟩
          · rintro r w' ⟨rfl, T', n', h1, h2, h3⟩
            exact ⟨rfl, HQK.out.1.old, T', HQK.out.1.old.goes h2 u10_0⟩
        clear hgK HFW HFX HNJ HQJ t5
        go_wp2_with (first
          | (go_at_call 33; refine HFM.out.mono ?_; rintro e w' ⟨rfl, rfl⟩)
          | (go_at_call 22; refine HAD.out.mono ?_; rintro e wL ⟨rfl, hoK, hoL⟩; have HOL : Hid (∃ T', Old w3 T' wL) := hoL; clear hoK hoL)
          | (go_at_call 36; refine (many_any _).mono ?_; rintro e wN ⟨rfl, hbN⟩; have HBN : Hid (Below wL.heap.size wL wN) := hbN; clear hbN))
        go_ret
        obtain ⟨TL, hoL⟩ := HOL.out
        have h3L := HB3.out.trans (hoL.below.mono HB3.out.size)
        exact ⟨rfl, h3L.trans (HBN.out.mono h3L.size)⟩
end MemFresh
end Go.Proofs.Ytkofopaejkabhaa
