import Derived.Test.YtcioaoanhmpdkaaPm7
import Derived.Test.YtcioaoanhmpdkaaPm9
import Derived.Test.YtcioaoanhmpdkaaQoH
import Derived.Deep.RegionLaw
import Derived.Deep.RegionHeld3
import Derived.Deep.DeepCutAuto
import Derived.BigQuiet
namespace Go.Proofs.Ytcioaoanhmpdkaa
namespace Mem
open Go.RowKit Laws Irw Erw KMath Skm Byt Sk Grp Crw Chk Mq Rom
set_option linter.unusedVariables false
set_option maxRecDepth 100000
set_option linter.unusedSimpArgs false
/-- a room whose blocks have none of the tags that turn -/
theorem rm_goes {v : Nat → Prop} {T T' : Nat → Nat} {w w' : World} {R B : Nat} {v0 v1 : Value} {hs : List Lent} (h : Rm w R B v0 v1 hs) (hg : Goes v T w T' w') (hR : ¬ v (T R)) (h0 : ∀ g, v0.ownBlock = some g → ¬ v (T g)) (h1 : ∀ g, v1.ownBlock = some g → ¬ v (T g)) (hl : ∀ x ∈ hs, ¬ v (T x.1)) : Rm w' R B v0 v1 hs := by
  obtain ⟨bs, k, hn⟩ := keep_list hg
  exact h.keep k (hn _ hR) (fun g e => hn _ (h0 g e)) (fun g e => hn _ (h1 g e)) (fun x hx => hn _ (hl x hx))
theorem goes_zero {v : Nat → Prop} {T T' : Nat → Nat} {w w' : World} (hg : Goes v T w T' w') (hz : ∀ b, w.heap.size ≤ b → T b = 0) : ∀ b, w'.heap.size ≤ b → T' b = 0 := fun b hb => hg.high b hb (hz b (Nat.le_trans hg.size hb))
/-- both memtables are new -/
theorem pm_first {t u : Nat} {T1 : Nat → Nat} {w4 w5 : World} {M L Q R : Nat} {ds : List Nat} {bs : List Nat} (hm : Mt t T1 w4 M L ds [] false) (hr : Rt w5 Q R [] [] bs false) (hb : Below w4.heap.size w4 w5) (hQ : w4.heap.size ≤ Q) (hR : w4.heap.size ≤ R) (hbs : ∀ b ∈ bs, w4.heap.size ≤ b) :
    Pm t u (retag w4.heap.size w5.heap.size u T1) w5 M L Q R ds [] [] bs false ∧ Goes (fun _ => False) T1 w4 (retag w4.heap.size w5.heap.size u T1) w5 := by
  have hg : Goes (fun _ => False) T1 w4 (retag w4.heap.size w5.heap.size u T1) w5 := ⟨hb.os, hb.tape, hb.output, hb.size, fun b h _ => hb.block b h, fun b h _ => by unfold retag; rw [if_neg (by omega)], fun b h h0 => by unfold retag; rw [if_neg (by omega)]; exact h0⟩
  have lo := hr.lows
  refine ⟨⟨hm.goes hg (fun z => z) (fun z => z) (fun z => z), hr, ?_, ?_, fun b hm => ?_⟩, hg⟩
  · unfold retag; rw [if_pos ⟨hQ, hr.lt⟩]
  · unfold retag; rw [if_pos ⟨hR, lo.1⟩]
  · unfold retag; rw [if_pos ⟨hbs b hm, lo.2 b hm⟩]
/-- a pair's box -/
def boxP (W : World) (A L R : Nat) : Prop := W.cell? ⟨A, 0, none⟩ = some (.pointer (some ⟨L, 0, none⟩)) ∧ W.cell? ⟨A, 1, none⟩ = some (.pointer (some ⟨R, 0, none⟩))
theorem boxP.goes {v : Nat → Prop} {T T' : Nat → Nat} {W W' : World} {A L R : Nat} (h : boxP W A L R) (hg : Goes v T W T' W') (hv : ¬ v (T A)) : boxP W' A L R :=
  ⟨(World.cell?_of_block (a := ⟨A, 0, none⟩) (hg.block _ (World.block_lt_of_cell? W _ h.1) hv)).trans h.1, (World.cell?_of_block (a := ⟨A, 1, none⟩) (hg.block _ (World.block_lt_of_cell? W _ h.2) hv)).trans h.2⟩
/-- what doesn't change -/
structure Fix where
  R0 : Nat
  g1 : Nat
  n1 : Nat
  c1 : Nat
  g2 : Nat
  n2 : Nat
  c2 : Nat
  v0 : Value
  v1 : Value
  Ma : Nat
  La : Nat
  Qa : Nat
  Ra : Nat
  Mb : Nat
  Lb : Nat
  Qb : Nat
  Rb : Nat
  A : Nat
  Bx : Nat
  da : List Nat
  db : List Nat
/-- what stands in MemAll, behind the making -/
structure Sc (w0 : World) (F : Fix) (T : Nat → Nat) (W : World) (na nb : List Nd) (ha hb : List Int) (ba bb : List Nat) (fa fb : Bool) (kv : Value) (ks : List Lt) (q : Nat) : Prop where
  low : Below w0.heap.size w0 W
  zlo : ∀ b, b < w0.heap.size → T b = 0
  zhi : ∀ b, W.heap.size ≤ b → T b = 0
  pa : Pm 1 4 T W F.Ma F.La F.Qa F.Ra F.da na ha ba fa
  pb : Pm 11 14 T W F.Mb F.Lb F.Qb F.Rb F.db nb hb bb fb
  rm : Rm W F.R0 w0.heap.size F.v0 F.v1 [(F.g1, F.n1, F.c1), (F.g2, F.n2, F.c2)]
  tR : T F.R0 = 0
  t0 : ∀ g, F.v0.ownBlock = some g → T g = 0
  t1 : ∀ g, F.v1.ownBlock = some g → T g = 0
  tg1 : T F.g1 = 7
  tg2 : T F.g2 = 0
  in2 : BRow W F.g2 0 F.db
  xA : boxP W F.A F.Ma F.Qa
  xB : boxP W F.Bx F.Mb F.Qb
  tA : T F.A = 0
  tB : T F.Bx = 0
  kp : OwnK T W kv ks
  ok : ∀ k ∈ ks, LtOk T W k ∧ ((k.M = F.Ma ∧ k.L = F.La ∧ k.Q = F.Qa ∧ k.R = F.Ra) ∨ (k.M = F.Mb ∧ k.L = F.Lb ∧ k.Q = F.Qb ∧ k.R = F.Rb))
  la : na.length ≤ 16 * q
  lb : nb.length ≤ 16 * q
  lk : ks.length ≤ q
  da47 : F.da.length ≤ 140737488355328
  db47 : F.db.length ≤ 140737488355328
theorem Sc.step0 {w0 : World} {F : Fix} {T : Nat → Nat} {W : World} {na nb : List Nd} {ha hb : List Int} {ba bb : List Nat} {fa fb : Bool} {kv : Value} {ks : List Lt} {q : Nat} {v : Nat → Prop} {T' : Nat → Nat} {W' : World} {na' nb' : List Nd} {ha' hb' : List Int} {ba' bb' : List Nat} {fa' fb' : Bool} {kv' : Value} {ks' : List Lt} {q' : Nat} (h : Sc w0 F T W na nb ha hb ba bb fa fb kv ks q) (hg : Goes v T W T' W') (hv : ¬ v 0) (hrm : Rm W' F.R0 w0.heap.size F.v0 F.v1 [(F.g1, F.n1, F.c1), (F.g2, F.n2, F.c2)]) (htg : T' F.g1 = 7) (hpa : Pm 1 4 T' W' F.Ma F.La F.Qa F.Ra F.da na' ha' ba' fa') (hpb : Pm 11 14 T' W' F.Mb F.Lb F.Qb F.Rb F.db nb' hb' bb' fb') (hkp : OwnK T' W' kv' ks') (hok : ∀ k ∈ ks', LtOk T' W' k ∧ ((k.M = F.Ma ∧ k.L = F.La ∧ k.Q = F.Qa ∧ k.R = F.Ra) ∨ (k.M = F.Mb ∧ k.L = F.Lb ∧ k.Q = F.Qb ∧ k.R = F.Rb))) (hla : na'.length ≤ 16 * q') (hlb : nb'.length ≤ 16 * q') (hlk : ks'.length ≤ q') : Sc w0 F T' W' na' nb' ha' hb' ba' bb' fa' fb' kv' ks' q' := by
  have z : ∀ b, T b = 0 → ¬ v (T b) := fun b e => by rw [e]; exact hv
  have hs := h.low.size
  refine ⟨h.low.trans ⟨hg.os, hg.tape, hg.output, hg.size, fun b hb => hg.block b (by omega) (z b (h.zlo b hb))⟩, fun b hb => (hg.tag b (by omega) (z b (h.zlo b hb))).trans (h.zlo b hb), goes_zero hg h.zhi, hpa, hpb, hrm, (hg.tag _ h.rm.lt (z _ h.tR)).trans h.tR, fun g e => ?_, fun g e => ?_, htg, ?_, ?_, h.xA.goes hg (z _ h.tA), h.xB.goes hg (z _ h.tB), ?_, ?_, hkp, hok, hla, hlb, hlk, h.da47, h.db47⟩
  · have := (h.rm.o0.lt g e).2
    exact (hg.tag _ this (z _ (h.t0 g e))).trans (h.t0 g e)
  · have := (h.rm.o1.lt g e).2
    exact (hg.tag _ this (z _ (h.t1 g e))).trans (h.t1 g e)
  · exact (hg.tag _ h.in2.1 (z _ h.tg2)).trans h.tg2
  · exact h.in2.keep (hg.block _ h.in2.1 (z _ h.tg2)) hg.size
  · exact (hg.tag _ (World.block_lt_of_cell? W _ h.xA.1) (z _ h.tA)).trans h.tA
  · exact (hg.tag _ (World.block_lt_of_cell? W _ h.xB.1) (z _ h.tB)).trans h.tB
theorem Sc.room {w0 : World} {F : Fix} {T : Nat → Nat} {W : World} {na nb : List Nd} {ha hb : List Int} {ba bb : List Nat} {fa fb : Bool} {kv : Value} {ks : List Lt} {q : Nat} {v : Nat → Prop} {T' : Nat → Nat} {W' : World} (h : Sc w0 F T W na nb ha hb ba bb fa fb kv ks q) (hg : Goes v T W T' W') (hv : ¬ v 0) (hv7 : ¬ v 7) : Rm W' F.R0 w0.heap.size F.v0 F.v1 [(F.g1, F.n1, F.c1), (F.g2, F.n2, F.c2)] ∧ T' F.g1 = 7 := by
  have z : ∀ b, T b = 0 → ¬ v (T b) := fun b e => by rw [e]; exact hv
  refine ⟨rm_goes h.rm hg (z _ h.tR) (fun g e => z _ (h.t0 g e)) (fun g e => z _ (h.t1 g e)) (fun x hx => ?_), ?_⟩
  · simp at hx
    rcases hx with rfl | rfl
    · show ¬ v (T F.g1); rw [h.tg1]; exact hv7
    · exact z _ h.tg2
  · have := (h.rm.lent _ (List.mem_cons_self ..)).2.2.2.2.1.1
    exact (hg.tag _ this (by rw [h.tg1]; exact hv7)).trans h.tg1
theorem Sc.below {w0 : World} {F : Fix} {T : Nat → Nat} {W : World} {na nb : List Nd} {ha hb : List Int} {ba bb : List Nat} {fa fb : Bool} {kv : Value} {ks : List Lt} {q : Nat} {W' : World} (h : Sc w0 F T W na nb ha hb ba bb fa fb kv ks q) (hb9 : Below W.heap.size W W') : Sc w0 F T W' na nb ha hb ba bb fa fb kv ks q := by
  have hg := Goes.below (t := fun _ => False) (T := T) hb9
  have hr := h.room hg (fun z => z) (fun z => z)
  exact h.step0 hg (fun z => z) hr.1 hr.2 (h.pa.below hb9) (h.pb.below hb9) (h.kp.goes hg (fun z => z)) (fun k hk => ⟨(h.ok k hk).1.goes hg (fun z => z), (h.ok k hk).2⟩) h.la h.lb h.lk
/-- a byte of the first lent list is written -/
theorem Sc.set {w0 : World} {F : Fix} {T : Nat → Nat} {W : World} {na nb : List Nd} {ha hb : List Int} {ba bb : List Nat} {fa fb : Bool} {kv : Value} {ks : List Lt} {q : Nat} (h : Sc w0 F T W na nb ha hb ba bb fa fb kv ks q) {i : Nat} (hi : i < F.n1) (u : Value) : Sc w0 F T (W.setCell ⟨F.g1, i, none⟩ u) na nb ha hb ba bb fa fb kv ks q := by
  have hg : Goes (· = 7) T W T (W.setCell ⟨F.g1, i, none⟩ u) := Goes.setCell (t := (· = 7)) h.tg1
  refine h.step0 hg (by omega) (h.rm.set u ⟨_, List.mem_cons_self .., rfl⟩ (fun x hx e => ?_)) h.tg1 (h.pa.goes hg (by omega) (by omega) (by omega) (by omega)) (h.pb.goes hg (by omega) (by omega) (by omega) (by omega)) (h.kp.goes hg (by omega)) (fun k hk => ⟨(h.ok k hk).1.goes hg (by omega), (h.ok k hk).2⟩) h.la h.lb h.lk
  simp at hx
  rcases hx with rfl | rfl
  · exact hi
  · exfalso
    have h1 := h.tg1
    have h2 := h.tg2
    simp only at e
    rw [← e, h2] at h1
    omega
/-- the same, whatever the memtables hold -/
def Sx (w0 : World) (F : Fix) (T : Nat → Nat) (W : World) (kv : Value) (ks : List Lt) (q : Nat) : Prop := ∃ na nb ha hb ba bb fa fb, Sc w0 F T W na nb ha hb ba bb fa fb kv ks q
theorem Sx.below {w0 : World} {F : Fix} {T : Nat → Nat} {W W' : World} {kv : Value} {ks : List Lt} {q : Nat} (h : Sx w0 F T W kv ks q) (hb9 : Below W.heap.size W W') : Sx w0 F T W' kv ks q := by
  obtain ⟨na, nb, ha, hb, ba, bb, fa, fb, h⟩ := h
  exact ⟨na, nb, ha, hb, ba, bb, fa, fb, h.below hb9⟩
theorem Sx.facts {w0 : World} {F : Fix} {T : Nat → Nat} {W : World} {kv : Value} {ks : List Lt} {q : Nat} (h : Sx w0 F T W kv ks q) : Below w0.heap.size w0 W ∧ (∀ b, W.heap.size ≤ b → T b = 0) ∧ boxP W F.A F.Ma F.Qa ∧ boxP W F.Bx F.Mb F.Qb ∧ BRow W F.g2 0 F.db ∧ ks.length ≤ q ∧ OwnK T W kv ks := by
  obtain ⟨na, nb, ha, hb, ba, bb, fa, fb, h⟩ := h
  exact ⟨h.low, h.zhi, h.xA, h.xB, h.in2, h.lk, h.kp⟩
/-- what was there and is nobody's stays -/
def Sty (T : Nat → Nat) (W : World) (T' : Nat → Nat) (W' : World) : Prop := ∀ b, T b = 0 → b < W.heap.size → W'.heap[b]? = W.heap[b]? ∧ T' b = 0
theorem Sty.of {v : Nat → Prop} {T T' : Nat → Nat} {W W' : World} (hg : Goes v T W T' W') (hv : ¬ v 0) : Sty T W T' W' := fun b h0 hlt => ⟨hg.block b hlt (by rw [h0]; exact hv), (hg.tag b hlt (by rw [h0]; exact hv)).trans h0⟩
theorem Sx.playsA {w0 : World} {F : Fix} {T : Nat → Nat} {W : World} {kv : Value} {ks : List Lt} {q : Nat} (h : Sx w0 F T W kv ks q) (hq : q ≤ 10000) (kind : Int) (xs : Int) (hxs : 0 ≤ xs ∧ xs ≤ 18446744073709551615) (xk : ByteArray) (a : Option Addr) (n c : Nat) (ws : List Wr) (hw : IsWr w0 a ws) (hwn : ws.length = n) (hwc : a = none → c = 0) (hwl : n ≤ 100000) (hwz : ∀ b off, ws ≠ [] → a = some ⟨b, off, none⟩ → T b = 0) (nn : Int) :
    Calls Try.prog 12 #[.agg #[.pointer (some ⟨F.Ma, 0, none⟩), .pointer (some ⟨F.Qa, 0, none⟩)], .agg #[.int .i64 kind, .bool false, .int .u64 xs, .string xk, .slice a n c, .int .i64 nn]] W fun e w' => e = .returned (.bool true) ∧ ∃ T', Sx w0 F T' w' kv ks (q + 1) ∧ Sty T W T' w' := by
  obtain ⟨na, nb, ha, hb, ba, bb, fa, fb, h⟩ := h
  refine (plays_any 1 4 (by omega) (by omega) (by omega) T W F.Ma F.La F.Qa F.Ra F.da na ha ba fa h.pa h.zhi h.da47 (by have := h.la; omega) kind false xs hxs xk a n c ws (hw.below h.low) hwn hwc hwl hwz nn).mono ?_
  rintro e w' ⟨he, T', na', ha', ba', fa', hp, hg, hl⟩
  have hr := h.room hg (by unfold uP; omega) (by unfold uP; omega)
  exact ⟨he, T', ⟨na', nb, ha', hb, ba', bb, fa', fb, h.step0 hg (by unfold uP; omega) hr.1 hr.2 hp (h.pb.goes hg (by unfold uP; omega) (by unfold uP; omega) (by unfold uP; omega) (by unfold uP; omega)) (h.kp.goes hg (by unfold uP; omega)) (fun k hk => ⟨(h.ok k hk).1.goes hg (by unfold uP; omega), (h.ok k hk).2⟩) (by have := h.la; omega) (by have := h.lb; omega) (by have := h.lk; omega)⟩, Sty.of hg (by unfold uP; omega)⟩
theorem Sx.keepsA {w0 : World} {F : Fix} {T : Nat → Nat} {W : World} {ka : Option Addr} {kn kc : Nat} {ks : List Lt} {q : Nat} (h : Sx w0 F T W (.slice ka kn kc) ks q) (hkn : ks.length = kn) (hq : kn + 1 ≤ q) (hq2 : q ≤ 100000) (kind : Int) (xs : Int) (xk : ByteArray) (a : Option Addr) (n c : Nat) (ws : List Wr) (hwn : ws.length = n) (nn : Int) :
    Calls Try.prog 13 #[.agg #[.pointer (some ⟨F.Ma, 0, none⟩), .pointer (some ⟨F.Qa, 0, none⟩)], .agg #[.int .i64 kind, .bool false, .int .u64 xs, .string xk, .slice a n c, .int .i64 nn], .slice ka kn kc] W fun e w' => ∃ a' c' T' ks', e = .returned (.slice a' ks'.length c') ∧ Sx w0 F T' w' (.slice a' ks'.length c') ks' q ∧ Sty T W T' w' := by
  obtain ⟨na, nb, ha, hb, ba, bb, fa, fb, h⟩ := h
  refine (keeps_any 1 4 T W F.Ma F.La F.Qa F.Ra F.da na ha ba fa h.pa h.zhi kind false xs xk a n c ws hwn nn ka kn kc ks h.kp hkn (by omega)).mono ?_
  rintro e w' ⟨a', c', T', ks', he, ho, hg, hk⟩
  have hr := h.room hg (by omega) (by omega)
  refine ⟨a', c', T', ks', he, ⟨na, nb, ha, hb, ba, bb, fa, fb, h.step0 hg (by omega) hr.1 hr.2 (h.pa.goes hg (by omega) (by omega) (by omega) (by omega)) (h.pb.goes hg (by omega) (by omega) (by omega) (by omega)) ho (fun k hkm => ?_) h.la h.lb ?_⟩, Sty.of hg (by omega)⟩
  · rcases hk with rfl | ⟨k0, rfl, hk1, hk2⟩
    · exact ⟨(h.ok k hkm).1.goes hg (by omega), (h.ok k hkm).2⟩
    · rcases List.mem_append.1 hkm with hm | hm
      · exact ⟨(h.ok k hm).1.goes hg (by omega), (h.ok k hm).2⟩
      · rw [List.mem_singleton.1 hm]
        exact ⟨hk1, .inl hk2⟩
  · rcases hk with rfl | ⟨k0, rfl, _⟩
    · exact h.lk
    · simp; omega
theorem Sx.holdsA {w0 : World} {F : Fix} {T : Nat → Nat} {W : World} {kv : Value} {ks : List Lt} {q : Nat} (h : Sx w0 F T W kv ks q) (hq : q ≤ 10000) : Calls Try.prog 16 #[.agg #[.pointer (some ⟨F.Ma, 0, none⟩), .pointer (some ⟨F.Qa, 0, none⟩)]] W fun e w' => e = .returned (.bool true) ∧ Below W.heap.size W w' := by
  obtain ⟨na, nb, ha, hb, ba, bb, fa, fb, h⟩ := h
  exact holds_any 1 4 (by omega) T W F.Ma F.La F.Qa F.Ra F.da na ha ba fa h.pa h.zhi (by have := h.la; omega)
theorem Sx.playsB {w0 : World} {F : Fix} {T : Nat → Nat} {W : World} {kv : Value} {ks : List Lt} {q : Nat} (h : Sx w0 F T W kv ks q) (hq : q ≤ 10000) (kind : Int) (xs : Int) (hxs : 0 ≤ xs ∧ xs ≤ 18446744073709551615) (xk : ByteArray) (a : Option Addr) (n c : Nat) (ws : List Wr) (hw : IsWr w0 a ws) (hwn : ws.length = n) (hwc : a = none → c = 0) (hwl : n ≤ 100000) (hwz : ∀ b off, ws ≠ [] → a = some ⟨b, off, none⟩ → T b = 0) (nn : Int) :
    Calls Try.prog 12 #[.agg #[.pointer (some ⟨F.Mb, 0, none⟩), .pointer (some ⟨F.Qb, 0, none⟩)], .agg #[.int .i64 kind, .bool true, .int .u64 xs, .string xk, .slice a n c, .int .i64 nn]] W fun e w' => e = .returned (.bool true) ∧ ∃ T', Sx w0 F T' w' kv ks (q + 1) ∧ Sty T W T' w' := by
  obtain ⟨na, nb, ha, hb, ba, bb, fa, fb, h⟩ := h
  refine (plays_any 11 14 (by omega) (by omega) (by omega) T W F.Mb F.Lb F.Qb F.Rb F.db nb hb bb fb h.pb h.zhi h.db47 (by have := h.lb; omega) kind true xs hxs xk a n c ws (hw.below h.low) hwn hwc hwl hwz nn).mono ?_
  rintro e w' ⟨he, T', nb', hb', bb', fb', hp, hg, hl⟩
  have hr := h.room hg (by unfold uP; omega) (by unfold uP; omega)
  exact ⟨he, T', ⟨na, nb', ha, hb', ba, bb', fa, fb', h.step0 hg (by unfold uP; omega) hr.1 hr.2 (h.pa.goes hg (by unfold uP; omega) (by unfold uP; omega) (by unfold uP; omega) (by unfold uP; omega)) hp (h.kp.goes hg (by unfold uP; omega)) (fun k hk => ⟨(h.ok k hk).1.goes hg (by unfold uP; omega), (h.ok k hk).2⟩) (by have := h.la; omega) (by have := h.lb; omega) (by have := h.lk; omega)⟩, Sty.of hg (by unfold uP; omega)⟩
theorem Sx.keepsB {w0 : World} {F : Fix} {T : Nat → Nat} {W : World} {ka : Option Addr} {kn kc : Nat} {ks : List Lt} {q : Nat} (h : Sx w0 F T W (.slice ka kn kc) ks q) (hkn : ks.length = kn) (hq : kn + 1 ≤ q) (hq2 : q ≤ 100000) (kind : Int) (xs : Int) (xk : ByteArray) (a : Option Addr) (n c : Nat) (ws : List Wr) (hwn : ws.length = n) (nn : Int) :
    Calls Try.prog 13 #[.agg #[.pointer (some ⟨F.Mb, 0, none⟩), .pointer (some ⟨F.Qb, 0, none⟩)], .agg #[.int .i64 kind, .bool true, .int .u64 xs, .string xk, .slice a n c, .int .i64 nn], .slice ka kn kc] W fun e w' => ∃ a' c' T' ks', e = .returned (.slice a' ks'.length c') ∧ Sx w0 F T' w' (.slice a' ks'.length c') ks' q ∧ Sty T W T' w' := by
  obtain ⟨na, nb, ha, hb, ba, bb, fa, fb, h⟩ := h
  refine (keeps_any 11 14 T W F.Mb F.Lb F.Qb F.Rb F.db nb hb bb fb h.pb h.zhi kind true xs xk a n c ws hwn nn ka kn kc ks h.kp hkn (by omega)).mono ?_
  rintro e w' ⟨a', c', T', ks', he, ho, hg, hk⟩
  have hr := h.room hg (by omega) (by omega)
  refine ⟨a', c', T', ks', he, ⟨na, nb, ha, hb, ba, bb, fa, fb, h.step0 hg (by omega) hr.1 hr.2 (h.pa.goes hg (by omega) (by omega) (by omega) (by omega)) (h.pb.goes hg (by omega) (by omega) (by omega) (by omega)) ho (fun k hkm => ?_) h.la h.lb ?_⟩, Sty.of hg (by omega)⟩
  · rcases hk with rfl | ⟨k0, rfl, hk1, hk2⟩
    · exact ⟨(h.ok k hkm).1.goes hg (by omega), (h.ok k hkm).2⟩
    · rcases List.mem_append.1 hkm with hm | hm
      · exact ⟨(h.ok k hm).1.goes hg (by omega), (h.ok k hm).2⟩
      · rw [List.mem_singleton.1 hm]
        exact ⟨hk1, .inr hk2⟩
  · rcases hk with rfl | ⟨k0, rfl, _⟩
    · exact h.lk
    · simp; omega
theorem Sx.holdsB {w0 : World} {F : Fix} {T : Nat → Nat} {W : World} {kv : Value} {ks : List Lt} {q : Nat} (h : Sx w0 F T W kv ks q) (hq : q ≤ 10000) : Calls Try.prog 16 #[.agg #[.pointer (some ⟨F.Mb, 0, none⟩), .pointer (some ⟨F.Qb, 0, none⟩)]] W fun e w' => e = .returned (.bool true) ∧ Below W.heap.size W w' := by
  obtain ⟨na, nb, ha, hb, ba, bb, fa, fb, h⟩ := h
  exact holds_any 11 14 (by omega) T W F.Mb F.Lb F.Qb F.Rb F.db nb hb bb fb h.pb h.zhi (by have := h.lb; omega)
/-- a kept one is gone through; and where it lies -/
theorem Sx.late {w0 : World} {F : Fix} {T : Nat → Nat} {W : World} {ka : Option Addr} {kn kc : Nat} {ks : List Lt} {q : Nat} (h : Sx w0 F T W (.slice ka kn kc) ks q) (hq : q ≤ 10000) {i : Nat} (hi : i < ks.length) : ∃ g M Q kd sec xs xk sl nn, ∃ wh : Bool, ∃ B : Nat, ka = some ⟨g, 0, none⟩ ∧ W.cell? ⟨g, i * 9, none⟩ = some (fvK wh B) ∧ W.cell? ⟨g, i * 9 + 1, none⟩ = some (.pointer (some ⟨M, 0, none⟩)) ∧ W.cell? ⟨g, i * 9 + 2, none⟩ = some (.pointer (some ⟨Q, 0, none⟩)) ∧ W.cell? ⟨g, i * 9 + 3, none⟩ = some (.int .i64 kd) ∧ W.cell? ⟨g, i * 9 + 4, none⟩ = some (.bool sec) ∧ W.cell? ⟨g, i * 9 + 5, none⟩ = some (.int .u64 xs) ∧ W.cell? ⟨g, i * 9 + 6, none⟩ = some (.string xk) ∧ W.cell? ⟨g, i * 9 + 7, none⟩ = some sl ∧ W.cell? ⟨g, i * 9 + 8, none⟩ = some (.int .i64 nn) ∧ (∃ a n c, sl = .slice a n c) ∧
    Calls Try.prog 15 #[.agg #[fvK wh B, .pointer (some ⟨M, 0, none⟩), .pointer (some ⟨Q, 0, none⟩), .int .i64 kd, .bool sec, .int .u64 xs, .string xk, sl, .int .i64 nn]] W fun e w' => e = .returned (.bool true) ∧ Below W.heap.size W w' := by
  obtain ⟨na, nb, ha, hb, ba, bb, fa, fb, h⟩ := h
  obtain ⟨g, e, hc⟩ := h.kp.cell (i := i) (k := ks[i]) (by simp [hi])
  obtain ⟨hk, hof⟩ := h.ok ks[i] (List.getElem_mem hi)
  generalize ks[i] = k at *
  refine ⟨g, k.M, k.Q, k.o.1, k.o.2.1, k.o.2.2.1, k.o.2.2.2.1, .slice k.o.2.2.2.2.1.1 k.o.2.2.2.2.1.2.2.length k.o.2.2.2.2.1.2.1, k.o.2.2.2.2.2, k.wh, k.B, e, hc 0 _ (by omega) rfl, hc 1 _ (by omega) rfl, hc 2 _ (by omega) rfl, hc 3 _ (by omega) rfl, hc 4 _ (by omega) rfl, hc 5 _ (by omega) rfl, hc 6 _ (by omega) rfl, hc 7 _ (by omega) rfl, hc 8 _ (by omega) rfl, ⟨_, _, _, rfl⟩, ?_⟩
  rcases hof with ⟨e1, e2, e3, e4⟩ | ⟨e1, e2, e3, e4⟩
  · have ha := hk.at_
    rw [e1, e2] at ha
    rw [e1, e3]
    exact now_any 1 4 (by omega) T W F.Ma F.La F.Qa F.Ra F.da na _ ba fa h.pa (by have := h.la; omega) k.wh k.B hk.tag.2.2 k.o.1 hk.kd k.o.2.1 k.o.2.2.1 k.o.2.2.2.1 _ k.o.2.2.2.2.2 ha
  · have ha := hk.at_
    rw [e1, e2] at ha
    rw [e1, e3]
    exact now_any 11 14 (by omega) T W F.Mb F.Lb F.Qb F.Rb F.db nb hb bb fb h.pb (by have := h.lb; omega) k.wh k.B hk.tag.2.2 k.o.1 hk.kd k.o.2.1 k.o.2.2.1 k.o.2.2.2.1 _ k.o.2.2.2.2.2 ha
theorem Sx.hold {w0 : World} {F : Fix} {T : Nat → Nat} {W : World} {kv : Value} {ks : List Lt} {q : Nat} (h : Sx w0 F T W kv ks q) : Calls Try.prog 17 #[.pointer (some ⟨F.R0, 0, none⟩)] W fun e w' => e = .returned (.bool true) ∧ w' = W := by
  obtain ⟨na, nb, ha, hb, ba, bb, fa, fb, h⟩ := h
  exact hold_any F.R0 w0.heap.size F.v0 F.v1 _ W h.rm (by simp)
/-- the first loop: a byte is written, what is left of the lent list -/
theorem Sx.row {w0 : World} {F : Fix} {T : Nat → Nat} {W : World} {kv : Value} {ks : List Lt} {q : Nat} (h : Sx w0 F T W kv ks q) {k : Nat} (hr : BRow W F.g1 k (F.da.drop k)) (hi : k < F.n1) (u : Value) : Sx w0 F T (W.setCell ⟨F.g1, k, none⟩ u) kv ks q ∧ BRow (W.setCell ⟨F.g1, k, none⟩ u) F.g1 (k + 1) (F.da.drop (k + 1)) := by
  obtain ⟨na, nb, ha, hb, ba, bb, fa, fb, h⟩ := h
  refine ⟨⟨na, nb, ha, hb, ba, bb, fa, fb, h.set hi u⟩, by simpa using hr.1, fun i y hy => ?_⟩
  rw [World.cell?_setCell_other _ ⟨F.g1, k, none⟩ ⟨F.g1, k + 1 + i, none⟩ _ (fun e => by have := congrArg Addr.off e; simp at this; omega)]
  have := hr.2 (i + 1) y (by rw [List.getElem?_drop] at hy ⊢; rw [← hy]; congr 1; omega)
  have e9 : k + 1 + i = k + (i + 1) := by omega
  rw [e9]; exact this
theorem Sx.lent {w0 : World} {F : Fix} {T : Nat → Nat} {W : World} {kv : Value} {ks : List Lt} {q : Nat} (h : Sx w0 F T W kv ks q) : w0.heap.size ≤ F.g1 ∧ ∀ j, W.frozen? ⟨F.g1, j, none⟩ = false := by
  obtain ⟨na, nb, ha, hb, ba, bb, fa, fb, h⟩ := h
  have := h.rm.lent _ (List.mem_cons_self ..)
  exact ⟨this.1, this.2.2.2.2.2.1⟩
theorem Sx.zlo {w0 : World} {F : Fix} {T : Nat → Nat} {W : World} {kv : Value} {ks : List Lt} {q : Nat} (h : Sx w0 F T W kv ks q) : ∀ b, b < w0.heap.size → T b = 0 := by
  obtain ⟨na, nb, ha, hb, ba, bb, fa, fb, h⟩ := h
  exact h.zlo
/-- the state behind the making -/
theorem sx_first {w w3 w5 W6 w8 W9 : World} {F : Fix} {T5 T8 : Nat → Nat} {ba bb : List Nat} (hb3 : Below w.heap.size w w3) (hrm : Rm w3 F.R0 w.heap.size F.v0 F.v1 [(F.g1, F.n1, F.c1), (F.g2, F.n2, F.c2)]) (row2 : BRow w3 F.g2 0 F.db) (hne : F.g1 ≠ F.g2)
    (hp5 : Pm 1 4 T5 w5 F.Ma F.La F.Qa F.Ra F.da [] [] ba false) (hg5 : Goes (fun _ => False) (upd (fun _ => 0) F.g1 7) w3 T5 w5) (hb6 : Below w5.heap.size w5 W6) (hA : F.A = w5.heap.size) (hA6 : F.A < W6.heap.size) (hxA : boxP W6 F.A F.Ma F.Qa) (hp8 : Pm 11 14 T8 w8 F.Mb F.Lb F.Qb F.Rb F.db [] [] bb false) (hg8 : Goes (fun _ => False) T5 W6 T8 w8) (hb9 : Below w8.heap.size w8 W9) (hB : F.Bx = w8.heap.size) (hxB : boxP W9 F.Bx F.Mb F.Qb) (hd1 : F.da.length ≤ 140737488355328) (hd2 : F.db.length ≤ 140737488355328) :
    Sx w F T8 W9 (.slice none 0 0) [] 0 := by
  have l1 := hrm.lent _ (List.mem_cons_self ..)
  have hg1 := l1.2.2.2.2.1.1
  have s3 := hb3.size
  have hgT : Goes (fun _ => False) (upd (fun _ => 0) F.g1 7) w3 T8 W9 := ((hg5.trans (Goes.below hb6)).trans hg8).trans (Goes.below hb9)
  have hbT : Below w3.heap.size w3 W9 := ⟨hgT.os, hgT.tape, hgT.output, hgT.size, fun b hb => hgT.block b hb (fun z => z)⟩
  have tg : ∀ b, b < w3.heap.size → T8 b = upd (fun _ => 0) F.g1 7 b := fun b hb => hgT.tag b hb (fun z => z)
  have tz : ∀ b, b < w3.heap.size → b ≠ F.g1 → T8 b = 0 := fun b hb hn => by rw [tg b hb]; exact upd_other _ _ hn
  have z3 : ∀ b, w3.heap.size ≤ b → upd (fun _ => 0) F.g1 7 b = 0 := fun b hb => upd_other _ _ (by simp only at hg1; omega)
  have z5 : ∀ b, w5.heap.size ≤ b → T5 b = 0 := goes_zero hg5 z3
  have z8 : ∀ b, w8.heap.size ≤ b → T8 b = 0 := goes_zero hg8 (fun b hb => z5 b (Nat.le_trans hb6.size hb))
  refine ⟨[], [], [], [], ba, bb, false, false, keepB hbT hb3, fun b hb => tz b (by omega) (by have := l1.1; show b ≠ F.g1; simp only at this; omega), goes_zero hgT z3, ((hp5.below hb6).goes hg8 (fun z => z) (fun z => z) (fun z => z) (fun z => z)).below hb9, hp8.below hb9, hrm.below hbT, tz _ hrm.lt (fun e => l1.2.1 e.symm), fun g e => tz _ (hrm.o0.lt g e).2 (fun e2 => l1.2.2.1 (by rw [e, e2])), fun g e => tz _ (hrm.o1.lt g e).2 (fun e2 => l1.2.2.2.1 (by rw [e, e2])), by rw [tg F.g1 hg1]; exact upd_same _ _ _, tz _ row2.1 (fun e => hne e.symm), row2.below hbT row2.1, (hxA.goes hg8 (fun z => z)).goes (Goes.below (t := fun _ => False) (T := T8) hb9) (fun z => z), hxB, ?_, by rw [hB]; exact z8 _ (Nat.le_refl _), OwnK.nil _ _, by simp, by simp, by simp, by simp, hd1, hd2⟩
  rw [hg8.tag F.A hA6 (fun z => z), hA]
  exact z5 _ (Nat.le_refl _)
end Mem
end Go.Proofs.Ytcioaoanhmpdkaa
namespace Go.Proofs.Ytcioaoanhmpdkaa
namespace MemAll
open Go.RowKit Laws Irw Erw KMath Skm Byt Sk Grp Crw Chk Mq Rom Mem
set_option linter.unusedVariables false
set_option maxRecDepth 100000
set_option linter.unusedSimpArgs false
theorem lent1 {w W1 w2 : World} (hw1 : Below w.heap.size w W1) (hk : Keep [w.heap.size] W1 w2) : Below w.heap.size w w2 :=
  hw1.trans ⟨hk.os, hk.tape, hk.output, hk.size, fun b hb => hk.block b (Nat.lt_of_lt_of_le hb hw1.size) (by simp; omega)⟩
theorem lent2 {w w2 w3 : World} {R0 : Nat} {v0 v1 : Value} {hs : List Lent} (hw2 : Below w.heap.size w w2) (hrm : Rm w2 R0 w.heap.size v0 v1 hs) (hk : Keep (R0 :: (v0.ownBlock.toList ++ v1.ownBlock.toList)) w2 w3) : Below w.heap.size w w3 ∧ ∀ x ∈ hs, w3.heap[x.1]? = w2.heap[x.1]? := by
  have h0 := hrm.base
  refine ⟨hw2.trans ⟨hk.os, hk.tape, hk.output, hk.size, fun b hb => hk.block b (Nat.lt_of_lt_of_le hb hw2.size) (fun hm => ?_)⟩, fun x hx => ?_⟩
  · simp only [List.mem_cons, List.mem_append, Option.mem_toList] at hm
    rcases hm with rfl | hm | hm
    · omega
    · have := (hrm.o0.lt b hm).1; omega
    · have := (hrm.o1.lt b hm).1; omega
  · obtain ⟨a1, a2, a3, a4, a5, _⟩ := hrm.lent x hx
    refine hk.block x.1 a5.1 (fun hm => ?_)
    simp only [List.mem_cons, List.mem_append, Option.mem_toList] at hm
    rcases hm with hm | hm | hm
    · exact a2 hm
    · exact a3 hm
    · exact a4 hm
/-- the two boxes of a round -/
structure Two (w w' : World) (P O M Q : Nat) (kind : Int) (sec : Bool) (xs : Int) (xk : ByteArray) (oa : Option Addr) (on oc : Nat) (nn : Int) : Prop where
  bel : Below w.heap.size w w'
  pge : w.heap.size ≤ P
  oge : w.heap.size ≤ O
  ne : P ≠ O
  plt : P < w'.heap.size
  olt : O < w'.heap.size
  pob : w'.heap[P]? = some (.cells #[.pointer (some ⟨M, 0, none⟩), .pointer (some ⟨Q, 0, none⟩)] 49)
  oob : w'.heap[O]? = some (.cells #[.int .i64 kind, .bool sec, .int .u64 xs, .string xk, .slice oa on oc, .int .i64 nn] 54)
theorem two_po {w : World} {M Q : Nat} {kind : Int} {sec : Bool} {xs : Int} {xk : ByteArray} {oa : Option Addr} {on oc : Nat} {nn : Int} : Two w ((w.alloc (.cells #[.pointer (some ⟨M, 0, none⟩), .pointer (some ⟨Q, 0, none⟩)] 49)).alloc (.cells #[.int .i64 kind, .bool sec, .int .u64 xs, .string xk, .slice oa on oc, .int .i64 nn] 54)).drew w.heap.size (w.heap.size + 1) M Q kind sec xs xk oa on oc nn := by
  refine ⟨(((Below.refl _ _).alloc (Nat.le_refl _) _).alloc (by simp) _).drew, by omega, by omega, by omega, ?_, ?_, ?_, ?_⟩
  · show w.heap.size < (World.alloc _ _).heap.size; simp; omega
  · show w.heap.size + 1 < (World.alloc _ _).heap.size; simp
  · show (World.alloc _ _).heap[w.heap.size]? = _
    rw [Below.heap_alloc _ _ _ (by simp)]; exact World.alloc_heap_new _ _
  · show (World.alloc _ _).heap[w.heap.size + 1]? = _
    have := World.alloc_heap_new (w.alloc (.cells #[.pointer (some ⟨M, 0, none⟩), .pointer (some ⟨Q, 0, none⟩)] 49)) (.cells #[.int .i64 kind, .bool sec, .int .u64 xs, .string xk, .slice oa on oc, .int .i64 nn] 54)
    rwa [World.size_alloc] at this
theorem two_op {w : World} {M Q : Nat} {kind : Int} {sec : Bool} {xs : Int} {xk : ByteArray} {oa : Option Addr} {on oc : Nat} {nn : Int} : Two w ((w.alloc (.cells #[.int .i64 kind, .bool sec, .int .u64 xs, .string xk, .slice oa on oc, .int .i64 nn] 54)).alloc (.cells #[.pointer (some ⟨M, 0, none⟩), .pointer (some ⟨Q, 0, none⟩)] 49)).drew (w.heap.size + 1) w.heap.size M Q kind sec xs xk oa on oc nn := by
  refine ⟨(((Below.refl _ _).alloc (Nat.le_refl _) _).alloc (by simp) _).drew, by omega, by omega, by omega, ?_, ?_, ?_, ?_⟩
  · show w.heap.size + 1 < (World.alloc _ _).heap.size; simp
  · show w.heap.size < (World.alloc _ _).heap.size; simp; omega
  · show (World.alloc _ _).heap[w.heap.size + 1]? = _
    have := World.alloc_heap_new (w.alloc (.cells #[.int .i64 kind, .bool sec, .int .u64 xs, .string xk, .slice oa on oc, .int .i64 nn] 54)) (.cells #[.pointer (some ⟨M, 0, none⟩), .pointer (some ⟨Q, 0, none⟩)] 49)
    rwa [World.size_alloc] at this
  · show (World.alloc _ _).heap[w.heap.size]? = _
    rw [Below.heap_alloc _ _ _ (by simp)]; exact World.alloc_heap_new _ _
/-- what the boxes hold -/
structure Hold2 (W : World) (P O M Q : Nat) (kind : Int) (sec : Bool) (xs : Int) (xk : ByteArray) (oa : Option Addr) (on oc : Nat) (nn : Int) : Prop where
  p0 : W.cell? ⟨P, 0, none⟩ = some (.pointer (some ⟨M, 0, none⟩))
  p1 : W.cell? ⟨P, 1, none⟩ = some (.pointer (some ⟨Q, 0, none⟩))
  o0 : W.cell? ⟨O, 0, none⟩ = some (.int .i64 kind)
  o1 : W.cell? ⟨O, 1, none⟩ = some (.bool sec)
  o2 : W.cell? ⟨O, 2, none⟩ = some (.int .u64 xs)
  o3 : W.cell? ⟨O, 3, none⟩ = some (.string xk)
  o4 : W.cell? ⟨O, 4, none⟩ = some (.slice oa on oc)
  o5 : W.cell? ⟨O, 5, none⟩ = some (.int .i64 nn)
theorem Two.hold {w w' : World} {P O M Q : Nat} {kind : Int} {sec : Bool} {xs : Int} {xk : ByteArray} {oa : Option Addr} {on oc : Nat} {nn : Int} (h : Two w w' P O M Q kind sec xs xk oa on oc nn) : Hold2 w' P O M Q kind sec xs xk oa on oc nn :=
  ⟨by rw [cell_of_obj h.pob]; rfl, by rw [cell_of_obj h.pob]; rfl, by rw [cell_of_obj h.oob]; rfl, by rw [cell_of_obj h.oob]; rfl, by rw [cell_of_obj h.oob]; rfl, by rw [cell_of_obj h.oob]; rfl, by rw [cell_of_obj h.oob]; rfl, by rw [cell_of_obj h.oob]; rfl⟩
theorem Hold2.keep {W W' : World} {P O M Q : Nat} {kind : Int} {sec : Bool} {xs : Int} {xk : ByteArray} {oa : Option Addr} {on oc : Nat} {nn : Int} (h : Hold2 W P O M Q kind sec xs xk oa on oc nn) (hp : W'.heap[P]? = W.heap[P]?) (ho : W'.heap[O]? = W.heap[O]?) : Hold2 W' P O M Q kind sec xs xk oa on oc nn :=
  ⟨(World.cell?_of_block (a := ⟨P, 0, none⟩) hp).trans h.p0, (World.cell?_of_block (a := ⟨P, 1, none⟩) hp).trans h.p1, (World.cell?_of_block (a := ⟨O, 0, none⟩) ho).trans h.o0, (World.cell?_of_block (a := ⟨O, 1, none⟩) ho).trans h.o1, (World.cell?_of_block (a := ⟨O, 2, none⟩) ho).trans h.o2, (World.cell?_of_block (a := ⟨O, 3, none⟩) ho).trans h.o3, (World.cell?_of_block (a := ⟨O, 4, none⟩) ho).trans h.o4, (World.cell?_of_block (a := ⟨O, 5, none⟩) ho).trans h.o5⟩
theorem Hold2.sty {T T' : Nat → Nat} {W W' : World} {P O M Q : Nat} {kind : Int} {sec : Bool} {xs : Int} {xk : ByteArray} {oa : Option Addr} {on oc : Nat} {nn : Int} (h : Hold2 W P O M Q kind sec xs xk oa on oc nn) (hs : Sty T W T' W') (hP : T P = 0) (hO : T O = 0) : Hold2 W' P O M Q kind sec xs xk oa on oc nn ∧ T' P = 0 ∧ T' O = 0 :=
  ⟨h.keep (hs P hP (World.block_lt_of_cell? W _ h.p0)).1 (hs O hO (World.block_lt_of_cell? W _ h.o0)).1, (hs P hP (World.block_lt_of_cell? W _ h.p0)).2, (hs O hO (World.block_lt_of_cell? W _ h.o0)).2⟩
/-- the second pair is taken -/
theorem Two.second {w W : World} {P O M Q M2 Q2 : Nat} {kind : Int} {sec : Bool} {xs : Int} {xk : ByteArray} {oa : Option Addr} {on oc : Nat} {nn : Int} (h : Two w W P O M Q kind sec xs xk oa on oc nn) : Below w.heap.size w ((W.setCell ⟨P, 0, none⟩ (.pointer (some ⟨M2, 0, none⟩))).setCell ⟨P, 1, none⟩ (.pointer (some ⟨Q2, 0, none⟩))) ∧ Hold2 ((W.setCell ⟨P, 0, none⟩ (.pointer (some ⟨M2, 0, none⟩))).setCell ⟨P, 1, none⟩ (.pointer (some ⟨Q2, 0, none⟩))) P O M2 Q2 kind sec xs xk oa on oc nn := by
  have hh := h.hold
  have eo : ((W.setCell ⟨P, 0, none⟩ (.pointer (some ⟨M2, 0, none⟩))).setCell ⟨P, 1, none⟩ (.pointer (some ⟨Q2, 0, none⟩))).heap[O]? = W.heap[O]? := by
    rw [Below.heap_setCell _ _ _ _ (by simpa using h.ne.symm), Below.heap_setCell _ _ _ _ (by simpa using h.ne.symm)]
  refine ⟨(h.bel.setCell (p := ⟨P, 0, none⟩) h.pge _).setCell (p := ⟨P, 1, none⟩) h.pge _, ⟨?_, ?_, (World.cell?_of_block (a := ⟨O, 0, none⟩) eo).trans hh.o0, (World.cell?_of_block (a := ⟨O, 1, none⟩) eo).trans hh.o1, (World.cell?_of_block (a := ⟨O, 2, none⟩) eo).trans hh.o2, (World.cell?_of_block (a := ⟨O, 3, none⟩) eo).trans hh.o3, (World.cell?_of_block (a := ⟨O, 4, none⟩) eo).trans hh.o4, (World.cell?_of_block (a := ⟨O, 5, none⟩) eo).trans hh.o5⟩⟩
  · rw [World.cell?_setCell_other _ ⟨P, 1, none⟩ ⟨P, 0, none⟩ _ (by simp)]
    exact World.cell?_setCell_same _ _ _ hh.p0
  · refine World.cell?_setCell_same _ _ _ (u := .pointer (some ⟨Q, 0, none⟩)) ?_
    rw [World.cell?_setCell_other _ ⟨P, 0, none⟩ ⟨P, 1, none⟩ _ (by simp)]
    exact hh.p1
set_option maxHeartbeats 8000000 in
theorem walk (w : World) (ad : Option Addr) (cd : Nat) (da : List Nat) (hd : IsB w ad da) (hdn : ad = none → cd = 0) (hd47 : da.length + 600 ≤ 140737488355328) (ao : Option Addr) (co : Nat) (db : List Nat) (ho : IsB w ao db) (hon : ao = none → co = 0) (ho47 : db.length + 600 ≤ 140737488355328) (a : Option Addr) (c : Nat) (sc : List OpM) (hs : IsM w a sc) (hlen : (sc.length : Int) ≤ 9223372036854775807) :
    Calls Try.prog 3 #[.slice ad da.length cd, .slice ao db.length co, .slice a sc.length c] w fun e w' => e = .returned (.bool true) ∧ Below w.heap.size w w' := by
  have HFEW : Hid (Calls Try.prog 8 #[.slice a sc.length c] w fun r w' => FewIs w sc r w') := few_any w a c sc.length sc rfl hlen hs
  have HD : Hid (IsB w ad da ∧ (ad = none → cd = 0) ∧ da.length + 600 ≤ 140737488355328) := ⟨hd, hdn, hd47⟩
  have HO : Hid (IsB w ao db ∧ (ao = none → co = 0) ∧ db.length + 600 ≤ 140737488355328) := ⟨ho, hon, ho47⟩
  have HS : Hid (IsM w a sc) := hs
  obtain ⟨NS, hNS⟩ : ∃ NS, sc.length = NS := ⟨_, rfl⟩
  obtain ⟨NA, hNA⟩ : ∃ NA, da.length = NA := ⟨_, rfl⟩
  obtain ⟨NB, hNB⟩ : ∃ NB, db.length = NB := ⟨_, rfl⟩
  have HN : Hid (sc.length = NS ∧ da.length = NA ∧ db.length = NB) := ⟨hNS, hNA, hNB⟩
  rw [hNS] at HFEW ⊢
  rw [hNA] at hd47 ⊢
  rw [hNB] at ho47 ⊢
  have yA : (NA : Int) ≤ 140737488354728 := by omega
  have yB : (NB : Int) ≤ 140737488354728 := by omega
  clear hd hdn ho hon hs hNS hNA hNB hlen hd47 ho47
  go_enter Try.func3, Try.ntmps3
  go_wp2_with fail
  refine Calls.mono HFEW.out ?_
  rintro e w0 ⟨⟨bf, rfl, hfw⟩, hb0⟩
  cases bf with
  | false =>
    have HB0 : Hid (Below w.heap.size w w0) := hb0
    clear hfw hb0
    go_wp2
    go_ret
    exact ⟨rfl, HB0.out⟩
  | true =>
  obtain ⟨hNS, hol⟩ := hfw rfl
  have HOL : Hid (NS ≤ 10000 ∧ ∀ o ∈ sc, o.2.2.2.2.1.2.2.length ≤ 10000) := ⟨by rw [HN.out.1] at hNS; exact hNS, hol⟩
  have yS : (NS : Int) ≤ 10000 := by have := HOL.out.1; omega
  have HOW : Hid (Below w.heap.size w w0) := hb0
  have HD0 : Hid (IsB w0 ad da ∧ (ad = none → cd = 0) ∧ da.length + 600 ≤ 140737488355328) := ⟨HD.out.1.below hb0, HD.out.2⟩
  have HO0 : Hid (IsB w0 ao db ∧ (ao = none → co = 0) ∧ db.length + 600 ≤ 140737488355328) := ⟨HO.out.1.below hb0, HO.out.2⟩
  have HS0 : Hid (IsM w0 a sc) := HS.out.below hb0
  clear hNS hol hfw hb0 HFEW HD HO HS
  have hb1 : Below w0.heap.size w0 (w0.alloc roomZ) := (Below.refl _ _).alloc (Nat.le_refl _) _
  have HRM1 : Hid (Rm (w0.alloc roomZ) w0.heap.size w0.heap.size (.slice none 0 0) (.slice none 0 0) []) := room_new w0 w0.heap.size (Nat.le_refl _)
  have HB1 : Hid (Below w0.heap.size w0 (w0.alloc roomZ)) := hb1
  clear hb1
  go_upto_region 4 with (fail)
  generalize w0.alloc roomZ = W1 at *
  have HBY1 : Hid (Calls Try.prog 9 #[.pointer (some ⟨w0.heap.size, 0, none⟩), .slice ad NA cd] W1 fun e w' => ∃ g c v0' v1', e = .returned (.slice (some ⟨g, 0, none⟩) NA (NA + 600)) ∧ Rm w' w0.heap.size w0.heap.size v0' v1' [(g, NA, c)] ∧ BRow w' g 0 da ∧ W1.heap.size ≤ g ∧ Keep [w0.heap.size] W1 w') := by
    have := bytes_any w0.heap.size w0.heap.size (.slice none 0 0) (.slice none 0 0) [] ad cd da W1 HRM1.out (by simp) HD0.out.2.1 (HD0.out.1.below HB1.out) HD0.out.2.2
    rw [HN.out.2.1] at this
    exact this.mono fun e w' ⟨g, c, v0, v1, q1, q2, q3, q4, _, _, q7⟩ => ⟨g, c, v0, v1, q1, q2, q3, q4, q7⟩
  go_wp2_with fail
  refine Calls.mono HBY1.out ?_
  rintro e w2 ⟨g1, c1, v0, v1, rfl, hrm2, hrow1, hg1, hk2⟩
  have HB2 : Hid (Below w0.heap.size w0 w2) := lent1 HB1.out hk2
  have HRM2 : Hid (Rm w2 w0.heap.size w0.heap.size v0 v1 [(g1, NA, c1)] ∧ BRow w2 g1 0 da) := ⟨hrm2, hrow1⟩
  clear hrm2 hrow1 hg1 hk2 HBY1 HRM1
  have HBY2 : Hid (Calls Try.prog 9 #[.pointer (some ⟨w0.heap.size, 0, none⟩), .slice ao NB co] w2 fun e w' => ∃ g c v0' v1', e = .returned (.slice (some ⟨g, 0, none⟩) NB (NB + 600)) ∧ Rm w' w0.heap.size w0.heap.size v0' v1' [(g1, NA, c1), (g, NB, c)] ∧ BRow w' g 0 db ∧ w2.heap.size ≤ g ∧ Keep (w0.heap.size :: (v0.ownBlock.toList ++ v1.ownBlock.toList)) w2 w') := by
    have := bytes_any w0.heap.size w0.heap.size v0 v1 [(g1, NA, c1)] ao co db w2 HRM2.out.1 (by simp) HO0.out.2.1 (HO0.out.1.below HB2.out) HO0.out.2.2
    rw [HN.out.2.2] at this
    exact this.mono fun e w' ⟨g, c, v0, v1, q1, q2, q3, q4, _, _, q7⟩ => ⟨g, c, v0, v1, q1, q2, q3, q4, q7⟩
  go_wp2_with fail
  refine Calls.mono HBY2.out ?_
  rintro e w3 ⟨g2, c2, u0, u1, rfl, hrm3, hrow2, hg2, hk3⟩
  obtain ⟨hbw3, hsame⟩ := lent2 HB2.out HRM2.out.1 hk3
  have HB3 : Hid (Below w0.heap.size w0 w3) := hbw3
  have HRM3 : Hid (Rm w3 w0.heap.size w0.heap.size u0 u1 [(g1, NA, c1), (g2, NB, c2)] ∧ BRow w3 g1 0 da ∧ BRow w3 g2 0 db ∧ g1 ≠ g2) := ⟨hrm3, HRM2.out.2.keep (hsame _ (List.mem_cons_self ..)) hk3.size, hrow2, by have := HRM2.out.2.1; omega⟩
  clear hrm3 hrow2 hg2 hk3 hbw3 hsame HBY2 HRM2 HB2
  generalize hR0 : w0.heap.size = R0 at *
  have HR0 : Hid (w0.heap.size = R0) := hR0
  clear hR0
  have HNEW1 : Hid (Calls Try.prog 10 #[.slice (some ⟨g1, 0, none⟩) NA (NA + 600)] w3 fun e w' => ∃ M L T', e = .returned (.pointer (some ⟨M, 0, none⟩)) ∧ Mt 1 T' w' M L da [] false ∧ Goes (fun _ => False) (upd (fun _ => 0) g1 7) w3 T' w') := new_mem 1 (upd (fun _ => 0) g1 7) w3 _ NA (NA + 600) da (IsB.some HRM3.out.2.1 HD0.out.1.2) HN.out.2.1.symm (by simp) (by have := HD0.out.2.2; omega) (fun b hb => upd_other _ _ (by have := HRM3.out.2.1.1; omega))
  go_wp2_with fail
  refine Calls.mono HNEW1.out ?_
  rintro e w4 ⟨Ma, La, T4, rfl, hm4, hgo4⟩
  have HS4 : Hid (Mt 1 T4 w4 Ma La da [] false ∧ Goes (fun _ => False) (upd (fun _ => 0) g1 7) w3 T4 w4) := ⟨hm4, hgo4⟩
  clear hm4 hgo4 HNEW1
  have HREF1 : Hid _ := refNew6 w4
  go_wp2_with fail
  refine Calls.mono HREF1.out ?_
  rintro e w5 ⟨Qa, Ra, ba, rfl, hQa, hRa, hba, hrt5, hb45⟩
  obtain ⟨hp5, hgo5⟩ := pm_first (u := 4) HS4.out.1 hrt5 hb45 hQa hRa hba
  have HP5 : Hid (∃ T5, Pm 1 4 T5 w5 Ma La Qa Ra da [] [] ba false ∧ Goes (fun _ => False) (upd (fun _ => 0) g1 7) w3 T5 w5) := ⟨_, hp5, HS4.out.2.trans hgo5⟩
  have hb56 : Below w5.heap.size w5 (w5.alloc (.cells #[.pointer (some ⟨Ma, 0, none⟩), .pointer (some ⟨Qa, 0, none⟩)] 49)) := (Below.refl _ _).alloc (Nat.le_refl _) _
  have gA : (w5.alloc (.cells #[.pointer (some ⟨Ma, 0, none⟩), .pointer (some ⟨Qa, 0, none⟩)] 49)).heap[w5.heap.size]? = some (.cells #[.pointer (some ⟨Ma, 0, none⟩), .pointer (some ⟨Qa, 0, none⟩)] 49) := World.alloc_heap_new _ _
  clear hQa hRa hba hrt5 hb45 hp5 hgo5 HREF1 HS4
  go_upto_region 6 with (fail)
  generalize w5.alloc (.cells #[.pointer (some ⟨Ma, 0, none⟩), .pointer (some ⟨Qa, 0, none⟩)] 49) = W6 at *
  have HB6 : Hid (Below w5.heap.size w5 W6 ∧ W6.heap[w5.heap.size]? = some (.cells #[.pointer (some ⟨Ma, 0, none⟩), .pointer (some ⟨Qa, 0, none⟩)] 49)) := ⟨hb56, gA⟩
  obtain ⟨A, hA⟩ : ∃ A, w5.heap.size = A := ⟨_, rfl⟩
  have HA : Hid (w5.heap.size = A) := hA
  rw [hA]
  clear hA hb56 gA
  obtain ⟨T5, hp5, hgo5⟩ := HP5.out
  have HQ5 : Hid (Pm 1 4 T5 w5 Ma La Qa Ra da [] [] ba false ∧ Goes (fun _ => False) (upd (fun _ => 0) g1 7) w3 T5 w5) := ⟨hp5, hgo5⟩
  have hbl36 : Below w3.heap.size w3 W6 := by
    have h1 : Below w3.heap.size w3 w5 := ⟨hgo5.os, hgo5.tape, hgo5.output, hgo5.size, fun b hb => hgo5.block b hb (fun z => z)⟩
    exact keepB HB6.out.1 h1
  have HBL36 : Hid (Below w3.heap.size w3 W6) := hbl36
  have HZ6 : Hid (∀ b, W6.heap.size ≤ b → T5 b = 0) := fun b hb => goes_zero hgo5 (fun b hb => upd_other _ _ (by have := HRM3.out.2.1.1; omega)) b (Nat.le_trans HB6.out.1.size hb)
  clear hp5 hgo5 HP5 hbl36
  have HNEW2 : Hid (Calls Try.prog 10 #[.slice (some ⟨g2, 0, none⟩) NB (NB + 600)] W6 fun e w' => ∃ M L T', e = .returned (.pointer (some ⟨M, 0, none⟩)) ∧ Mt 11 T' w' M L db [] false ∧ Goes (fun _ => False) T5 W6 T' w') := new_mem 11 T5 W6 _ NB (NB + 600) db (IsB.some (HRM3.out.2.2.1.below HBL36.out HRM3.out.2.2.1.1) HO0.out.1.2) HN.out.2.2.symm (by simp) (by have := HO0.out.2.2; omega) HZ6.out
  go_wp2_with fail
  refine Calls.mono HNEW2.out ?_
  rintro e w7 ⟨Mb, Lb, T7, rfl, hm7, hgo7⟩
  have HS7 : Hid (Mt 11 T7 w7 Mb Lb db [] false ∧ Goes (fun _ => False) T5 W6 T7 w7) := ⟨hm7, hgo7⟩
  clear hm7 hgo7 HNEW2
  have HREF2 : Hid _ := refNew6 w7
  go_wp2_with fail
  refine Calls.mono HREF2.out ?_
  rintro e w8 ⟨Qb, Rb, bb, rfl, hQb, hRb, hbb, hrt8, hb78⟩
  obtain ⟨hp8, hgo8⟩ := pm_first (u := 14) HS7.out.1 hrt8 hb78 hQb hRb hbb
  have HP8 : Hid (∃ T8, Pm 11 14 T8 w8 Mb Lb Qb Rb db [] [] bb false ∧ Goes (fun _ => False) T5 W6 T8 w8) := ⟨_, hp8, HS7.out.2.trans hgo8⟩
  have hb89 : Below w8.heap.size w8 (w8.alloc (.cells #[.pointer (some ⟨Mb, 0, none⟩), .pointer (some ⟨Qb, 0, none⟩)] 49)) := (Below.refl _ _).alloc (Nat.le_refl _) _
  have gB : (w8.alloc (.cells #[.pointer (some ⟨Mb, 0, none⟩), .pointer (some ⟨Qb, 0, none⟩)] 49)).heap[w8.heap.size]? = some (.cells #[.pointer (some ⟨Mb, 0, none⟩), .pointer (some ⟨Qb, 0, none⟩)] 49) := World.alloc_heap_new _ _
  clear hQb hRb hbb hrt8 hb78 hp8 hgo8 HREF2 HS7
  go_upto_region 7 with (fail)
  generalize w8.alloc (.cells #[.pointer (some ⟨Mb, 0, none⟩), .pointer (some ⟨Qb, 0, none⟩)] 49) = W9 at *
  obtain ⟨Bx, hBx⟩ : ∃ Bx, w8.heap.size = Bx := ⟨_, rfl⟩
  have HSA : Hid (∃ T, Sx w0 ⟨R0, g1, NA, c1, g2, NB, c2, u0, u1, Ma, La, Qa, Ra, Mb, Lb, Qb, Rb, A, Bx, da, db⟩ T W9 (.slice none 0 0) [] 0 ∧ BRow W9 g1 0 da) := by
    obtain ⟨T8, hp8, hgo8⟩ := HP8.out
    have kA := HB6.out.2
    rw [HA.out] at kA
    have hb3 : Below w0.heap.size w0 w3 := by rw [HR0.out]; exact HB3.out
    have hrm3 := HRM3.out.1
    have hb69 : Below W6.heap.size W6 W9 := by
      have h1 : Below W6.heap.size W6 w8 := ⟨hgo8.os, hgo8.tape, hgo8.output, hgo8.size, fun b hb => hgo8.block b hb (fun z => z)⟩
      exact keepB hb89 h1
    refine ⟨T8, sx_first (F := ⟨R0, g1, NA, c1, g2, NB, c2, u0, u1, Ma, La, Qa, Ra, Mb, Lb, Qb, Rb, A, Bx, da, db⟩) (ba := ba) (bb := bb) hb3 (by rw [HR0.out]; exact hrm3) HRM3.out.2.2.1 HRM3.out.2.2.2 HQ5.out.1 HQ5.out.2 HB6.out.1 HA.out.symm (Array.getElem?_eq_some_iff.1 kA).1 ⟨by rw [cell_of_obj kA]; rfl, by rw [cell_of_obj kA]; rfl⟩ hp8 hgo8 hb89 hBx.symm ⟨by rw [← hBx, cell_of_obj gB]; rfl, by rw [← hBx, cell_of_obj gB]; rfl⟩ (by have := HD0.out.2.2; show da.length ≤ _; omega) (by have := HO0.out.2.2; show db.length ≤ _; omega), (HRM3.out.2.1.below HBL36.out HRM3.out.2.1.1).below hb69 (Nat.lt_of_lt_of_le HRM3.out.2.1.1 HBL36.out.size)⟩
  rw [hBx]
  clear hb89 gB hBx HP8 HQ5 HB6 HA HBL36 HZ6 HRM3 HB3
  obtain ⟨T, hsa, hrow⟩ := HSA.out
  have HS9 : Hid (Sx w0 ⟨R0, g1, NA, c1, g2, NB, c2, u0, u1, Ma, La, Qa, Ra, Mb, Lb, Qb, Rb, A, Bx, da, db⟩ T W9 (.slice none 0 0) [] 0 ∧ BRow W9 g1 0 da) := ⟨hsa, hrow⟩
  obtain ⟨xa0, xa1⟩ := hsa.facts.2.2.1
  obtain ⟨xb0, xb1⟩ := hsa.facts.2.2.2.1
  dsimp only at xa0 xa1 xb0 xb1
  clear hsa hrow HSA
  go_wp2
  clear xa0 xa1 xb0 xb1
  go_loopw [12] (fun i wr => ∃ k : Nat, k ≤ NA ∧ i = .int .i64 (k : Int) ∧ Hid (Sx w0 ⟨R0, g1, NA, c1, g2, NB, c2, u0, u1, Ma, La, Qa, Ra, Mb, Lb, Qb, Rb, A, Bx, da, db⟩ T wr (.slice none 0 0) [] 0 ∧ BRow wr g1 k (da.drop k))) (fun i _ => NA - (intOf i).toNat)
  case atStart => exact ⟨0, Nat.zero_le _, rfl, HS9.out⟩
  case round =>
    clear HS9
    obtain ⟨k, hk, rfl, HSK⟩ := hrel
    rename World => wa
    by_cases hlt : k < NA
    · have hkl : k < da.length := by rw [HN.out.2.1]; exact hlt
      obtain ⟨b1, o1, rfl, hr1⟩ := (HD0.out.1.below (by have := HSK.out.1.facts.1; exact this)).1 (by rintro rfl; simp at hkl)
      have x0 : wa.cell? ⟨g1, k, none⟩ = some (.int .u8 ((da.getD k 0 : Nat) : Int)) := by
        have := HSK.out.2.2 0 (da.getD k 0) (by simp [hkl])
        rw [Nat.add_zero] at this
        exact this
      have x1 : wa.cell? ⟨b1, o1 + k, none⟩ = some (.int .u8 ((da.getD k 0 : Nat) : Int)) := hr1.2 k _ (by simp [hkl])
      have hby : da.getD k 0 < 256 := HD0.out.1.2 _ (by simp [hkl])
      have hfz := HSK.out.1.lent.2
      dsimp only at hfz
      have q1 : (k : Int) < (NA : Int) := by omega
      clear hkl hr1
      generalize da.getD k 0 = y at *
      have q2 : (y : Int) < 256 := by omega
      go_wp2
      go_quiet (fail)
      have HSK2 : Hid (Sx w0 ⟨R0, g1, NA, c1, g2, NB, c2, u0, u1, Ma, La, Qa, Ra, Mb, Lb, Qb, Rb, A, Bx, da, db⟩ T (wa.drewN nq) (.slice none 0 0) [] 0 ∧ BRow (wa.drewN nq) g1 k (da.drop k)) := ⟨HSK.out.1.below (below_drewN (Below.refl _ _) _), HSK.out.2.below (below_drewN (Below.refl _ _) _) HSK.out.2.1⟩
      have x2 : (wa.drewN nq).cell? ⟨g1, k, none⟩ = some (.int .u8 (y : Int)) := x0
      have hf2 := HSK2.out.1.lent.2
      dsimp only at hf2
      clear x0 x1 hfz HSK
      generalize wa.drewN nq = wb at *
      go_wp2
      go_roundw
      case rel => exact ⟨k + 1, by omega, by go_num, Sx.row HSK2.out.1 HSK2.out.2 hlt _⟩
      case measure => simp [intOf]; omega
    · have HSC0 : Hid (Sx w0 ⟨R0, g1, NA, c1, g2, NB, c2, u0, u1, Ma, La, Qa, Ra, Mb, Lb, Qb, Rb, A, Bx, da, db⟩ T wa (.slice none 0 0) [] 0) := HSK.out.1
      clear HSK
      go_wp2
      go_loopw [13, 14] (fun kv i wr => ∃ (q : Nat) (T : Nat → Nat) (ka : Option Addr) (kc : Nat) (ks : List Lt), q ≤ NS ∧ i = .int .i64 (q : Int) ∧ kv = .slice ka ks.length kc ∧ Hid (Sx w0 ⟨R0, g1, NA, c1, g2, NB, c2, u0, u1, Ma, La, Qa, Ra, Mb, Lb, Qb, Rb, A, Bx, da, db⟩ T wr (.slice ka ks.length kc) ks q)) (fun _ i _ => NS - (intOf i).toNat)
      case atStart => exact ⟨0, T, none, 0, [], Nat.zero_le _, rfl, rfl, HSC0⟩
      case round =>
        clear HSC0
        obtain ⟨q, T2, ka, kc, ks, hq, rfl, rfl, HSC⟩ := hrel
        rename World => wr2
        by_cases hlq : q < NS
        · have hql : q < sc.length := by rw [HN.out.1]; exact hlq
          obtain ⟨b3, o3, ⟨kind, sec, xs, xk, ⟨oa, oc, ows⟩, nn⟩, rfl, hx, _, ⟨y0, y1, y2, y3, y4, y5⟩, _⟩ := (HS0.out.below HSC.out.facts.1).at_ hql
          obtain ⟨on, hon⟩ : ∃ on, ows.length = on := ⟨_, rfl⟩
          dsimp only at y0 y1 y2 y3 y4 y5
          rw [hon] at y4
          have HOK : Hid (IsWr w0 oa ows ∧ (oa = none → oc = 0) ∧ (0 ≤ xs ∧ xs ≤ 18446744073709551615) ∧ (-9223372036854775808 ≤ nn ∧ nn ≤ 9223372036854775807) ∧ ows.length = on ∧ on ≤ 10000 ∧ ∀ b off, ows ≠ [] → oa = some ⟨b, off, none⟩ → T2 b = 0) := by
            have hm := List.mem_of_getElem? hx
            obtain ⟨h1, h2, h3, h4⟩ := HS0.out.2 _ hm
            have h5 := HOL.out.2 _ hm
            refine ⟨h1, h2, h3, h4, hon, by rw [← hon]; exact h5, fun b off hne e => ?_⟩
            obtain ⟨b', off', e', hr'⟩ := h1.1 hne
            rw [e] at e'
            simp only [Option.some.injEq, Addr.mk.injEq] at e'
            rw [e'.1]
            exact HSC.out.zlo _ hr'.1
          have z1 : (q : Int) < (NS : Int) := by omega
          have HQB : Hid (q < NS) := hlq
          clear hql hx hon
          obtain ⟨xa0, xa1⟩ := HSC.out.facts.2.2.1
          obtain ⟨xb0, xb1⟩ := HSC.out.facts.2.2.2.1
          dsimp only at xa0 xa1 xb0 xb1
          generalize hKL : ks.length = KL at *
          have HKL : Hid (ks.length = KL ∧ KL ≤ q) := ⟨hKL, by rw [← hKL]; exact HSC.out.facts.2.2.2.2.2.1⟩
          clear hKL hlq
          go_upto_region 19 with (fail)
          have hA1 : A < wr2.heap.size := World.block_lt_of_cell? wr2 _ xa0
          have hA2 : ¬ A = wr2.heap.size := by omega
          have hA3 : ¬ A = wr2.heap.size + 1 := by omega
          have hb1 : b3 < wr2.heap.size := World.block_lt_of_cell? wr2 _ y0
          have hb2 : ¬ b3 = wr2.heap.size := by omega
          have hb3 : ¬ b3 = wr2.heap.size + 1 := by omega
          clear xb0 xb1
          go_cut [15, 16] (fun vp vo w' => ∃ P O : Nat, vp = .pointer (some ⟨P, 0, none⟩) ∧ vo = .pointer (some ⟨O, 0, none⟩) ∧ Hid (Two wr2 w' P O Ma Qa kind sec xs xk oa on oc nn))
          case first =>
            go_region
            · go_wp2
              go_meet
              case rel => exact ⟨_, _, rfl, rfl, two_po⟩
            · go_wp2
              go_meet
              case rel => exact ⟨_, _, rfl, rfl, two_op⟩
          case rest =>
            obtain ⟨P, O, rfl, rfl, HTW⟩ := hcut
            clear y0 y1 y2 y3 y4 y5 xa0 xa1 hA1 hA2 hA3 hb1 hb2 hb3
            rename World => w3
            have HPO : Hid (T2 P = 0 ∧ T2 O = 0) := ⟨HSC.out.facts.2.1 P HTW.out.pge, HSC.out.facts.2.1 O HTW.out.oge⟩
            cases sec with
            | false =>
              have HSC4 : Hid (Sx w0 ⟨R0, g1, NA, c1, g2, NB, c2, u0, u1, Ma, La, Qa, Ra, Mb, Lb, Qb, Rb, A, Bx, da, db⟩ T2 w3 (.slice ka KL kc) ks q) := HSC.out.below HTW.out.bel
              have HH4 : Hid (Hold2 w3 P O Ma Qa kind false xs xk oa on oc nn) := HTW.out.hold
              obtain ⟨hp0, hp1, ho0, ho1, ho2, ho3, ho4, hon5⟩ := HH4.out
              clear HSC HTW
              rename World => W4
              go_upto_region 22 with (fail)
              have HPL : Hid (Calls Try.prog 12 #[.agg #[.pointer (some ⟨Ma, 0, none⟩), .pointer (some ⟨Qa, 0, none⟩)], .agg #[.int .i64 kind, .bool false, .int .u64 xs, .string xk, .slice oa on oc, .int .i64 nn]] W4 fun e w' => e = .returned (.bool true) ∧ ∃ T', Sx w0 ⟨R0, g1, NA, c1, g2, NB, c2, u0, u1, Ma, La, Qa, Ra, Mb, Lb, Qb, Rb, A, Bx, da, db⟩ T' w' (.slice ka KL kc) ks (q + 1) ∧ Sty T2 W4 T' w') := HSC4.out.playsA (by have := HOL.out.1; have := HQB.out; omega) kind xs HOK.out.2.2.1 xk oa on oc ows HOK.out.1 HOK.out.2.2.2.2.1 HOK.out.2.1 (by have := HOK.out.2.2.2.2.2.1; omega) HOK.out.2.2.2.2.2.2 nn
              go_wp2_with fail
              refine HPL.out.mono ?_
              rintro e w5 ⟨rfl, T5, hsc5, hst5⟩
              obtain ⟨hh5, hp5, ho5⟩ := HH4.out.sty hst5 HPO.out.1 HPO.out.2
              have HSC5 := HID5 hsc5
              have HH5 := HID5 hh5
              have HPO5 : Hid (T5 P = 0 ∧ T5 O = 0) := ⟨hp5, ho5⟩
              clear hsc5 hst5 hh5 hp5 ho5 HPL HSC4 HH4 HPO hp0 hp1 ho0 ho1 ho2 ho3 ho4 hon5
              obtain ⟨hp0, hp1, ho0, ho1, ho2, ho3, ho4, hon5⟩ := HH5.out
              have HKP : Hid (Calls Try.prog 13 #[.agg #[.pointer (some ⟨Ma, 0, none⟩), .pointer (some ⟨Qa, 0, none⟩)], .agg #[.int .i64 kind, .bool false, .int .u64 xs, .string xk, .slice oa on oc, .int .i64 nn], .slice ka KL kc] w5 fun e w' => ∃ a' c' T' ks', e = .returned (.slice a' ks'.length c') ∧ Sx w0 ⟨R0, g1, NA, c1, g2, NB, c2, u0, u1, Ma, La, Qa, Ra, Mb, Lb, Qb, Rb, A, Bx, da, db⟩ T' w' (.slice a' ks'.length c') ks' (q + 1) ∧ Sty T5 w5 T' w') := HSC5.out.keepsA HKL.out.1 (by have := HKL.out.2; omega) (by have := HOL.out.1; have := HQB.out; omega) kind xs xk oa on oc ows HOK.out.2.2.2.2.1 nn
              go_wp2_with fail
              refine Calls.mono HKP.out ?_
              rintro e w6 ⟨a6, c6, T6, ks6, rfl, hsc6, hst6⟩
              obtain ⟨hh6, _, _⟩ := HH5.out.sty hst6 HPO5.out.1 HPO5.out.2
              generalize hKL6 : ks6.length = K6 at *
              have HKL6 : Hid (ks6.length = K6 ∧ K6 ≤ q + 1) := ⟨hKL6, by rw [← hKL6]; exact hsc6.facts.2.2.2.2.2.1⟩
              have HSC6 := HID5 hsc6
              have HH6 := HID5 hh6
              clear hsc6 hst6 hh6 hKL6 HKP HSC5 HH5 HPO5 hp0 hp1 ho0 ho1 ho2 ho3 ho4 hon5
              obtain ⟨hp0, hp1, ho0, ho1, ho2, ho3, ho4, hon5⟩ := HH6.out
              have zK6 : (K6 : Int) ≤ 10000 := by have := HKL6.out.2; have := HOL.out.1; have := HQB.out; omega
              by_cases hk11 : kind = 11
              · subst hk11
                by_cases hKL0 : 0 < K6
                · have zK : (0 : Int) < (K6 : Int) := by omega
                  have HPC : Hid (Calls Try.prog 14 #[.int .i64 nn, .int .i64 (K6 : Int)] w6 fun e w' => ∃ p : Nat, e = .returned (.int .i64 (p : Int)) ∧ p < K6 ∧ w' = w6) := place6 nn K6 w6 HOK.out.2.2.2.1.1 HOK.out.2.2.2.1.2 hKL0 (by omega)
                  clear hKL0
                  go_wp2_with (go_at_call 14; go_loud (refine Calls.mono HPC.out ?_; rintro e w7 ⟨p, rfl, hp, hw7⟩; have hw8 := hw7.symm; clear hw7; subst hw8; obtain ⟨gk, kM, kQ, kd, ksc, kxs, kxk, ksl, knn, kwh, kB, hgk, k0, k1, k2, k3, k4, k5, k6, k7, k8, ⟨ka1, kn1, kc1, hksl⟩, hnw⟩ := HSC6.out.late (by have := HOL.out.1; have := HQB.out; omega) (i := p) (by rw [HKL6.out.1]; exact hp); subst hgk; subst hksl; have HNW := HID5 hnw; have zp : (p : Int) < (K6 : Int) := (by omega); clear hnw HPC; obtain ⟨fk, hfk⟩ : ∃ fk, fvK kwh kB = fk := ⟨_, rfl⟩; rw [hfk] at k0 HNW; clear hfk))
                  refine Calls.mono HNW.out ?_
                  rintro e w8 ⟨rfl, hb8⟩
                  have HSC8 : Hid (Sx w0 ⟨R0, g1, NA, c1, g2, NB, c2, u0, u1, Ma, La, Qa, Ra, Mb, Lb, Qb, Rb, A, Bx, da, db⟩ T6 w8 (.slice (some ⟨gk, 0, none⟩) ks6.length c6) ks6 (q + 1)) := (by rw [HKL6.out.1]; exact HSC6.out.below hb8)
                  clear hb8 HNW k0 k1 k2 k3 k4 k5 k6 k7 k8 hp0 hp1 ho0 ho1 ho2 ho3 ho4 hon5
                  go_wp2
                  go_roundw
                  case rel => exact ⟨q + 1, T6, some ⟨gk, 0, none⟩, c6, ks6, by omega, by go_num, by rw [HKL6.out.1], HSC8⟩
                  case measure => simp [intOf]; omega
                · obtain rfl : K6 = 0 := by omega
                  have HSC8 : Hid (Sx w0 ⟨R0, g1, NA, c1, g2, NB, c2, u0, u1, Ma, La, Qa, Ra, Mb, Lb, Qb, Rb, A, Bx, da, db⟩ T6 w6 (.slice a6 ks6.length c6) ks6 (q + 1)) := (by rw [HKL6.out.1]; exact HSC6.out)
                  have e00 : ((0 : Nat) : Int) = 0 := rfl
                  clear hKL0
                  go_wp2
                  go_roundw
                  case rel => exact ⟨q + 1, T6, a6, c6, ks6, by omega, by go_num, by rw [HKL6.out.1], HSC8⟩
                  case measure => simp [intOf]; omega
              · have hk11b : (kind == 11) = false := by simpa using hk11
                have HSC8 : Hid (Sx w0 ⟨R0, g1, NA, c1, g2, NB, c2, u0, u1, Ma, La, Qa, Ra, Mb, Lb, Qb, Rb, A, Bx, da, db⟩ T6 w6 (.slice a6 ks6.length c6) ks6 (q + 1)) := (by rw [HKL6.out.1]; exact HSC6.out)
                clear hk11
                go_wp2
                go_roundw
                case rel => exact ⟨q + 1, T6, a6, c6, ks6, by omega, by go_num, by rw [HKL6.out.1], HSC8⟩
                case measure => simp [intOf]; omega
            | true =>
              obtain ⟨hp0, hp1, ho0, ho1, ho2, ho3, ho4, hon5⟩ := HTW.out.hold
              obtain ⟨xb0, xb1⟩ := (HSC.out.below HTW.out.bel).facts.2.2.2.1
              dsimp only at xb0 xb1
              have hfz : ∀ j, w3.frozen? ⟨P, j, none⟩ = false := fun j => froz_of_obj HTW.out.pob
              obtain ⟨hbS, hhS⟩ := HTW.out.second (M2 := Mb) (Q2 := Qb)
              have HSC4 : Hid (Sx w0 ⟨R0, g1, NA, c1, g2, NB, c2, u0, u1, Ma, La, Qa, Ra, Mb, Lb, Qb, Rb, A, Bx, da, db⟩ T2 ((w3.setCell ⟨P, 0, none⟩ (.pointer (some ⟨Mb, 0, none⟩))).setCell ⟨P, 1, none⟩ (.pointer (some ⟨Qb, 0, none⟩))) (.slice ka KL kc) ks q) := HSC.out.below hbS
              have HH4 : Hid (Hold2 ((w3.setCell ⟨P, 0, none⟩ (.pointer (some ⟨Mb, 0, none⟩))).setCell ⟨P, 1, none⟩ (.pointer (some ⟨Qb, 0, none⟩))) P O Mb Qb kind true xs xk oa on oc nn) := hhS
              clear hbS hhS HSC HTW
              go_upto_region 22 with (fail)
              generalize (w3.setCell ⟨P, 0, none⟩ (.pointer (some ⟨Mb, 0, none⟩))).setCell ⟨P, 1, none⟩ (.pointer (some ⟨Qb, 0, none⟩)) = W4 at *
              clear hp0 hp1 ho0 ho1 ho2 ho3 ho4 hon5 xb0 xb1 hfz
              obtain ⟨hp0, hp1, ho0, ho1, ho2, ho3, ho4, hon5⟩ := HH4.out
              have HPL : Hid (Calls Try.prog 12 #[.agg #[.pointer (some ⟨Mb, 0, none⟩), .pointer (some ⟨Qb, 0, none⟩)], .agg #[.int .i64 kind, .bool true, .int .u64 xs, .string xk, .slice oa on oc, .int .i64 nn]] W4 fun e w' => e = .returned (.bool true) ∧ ∃ T', Sx w0 ⟨R0, g1, NA, c1, g2, NB, c2, u0, u1, Ma, La, Qa, Ra, Mb, Lb, Qb, Rb, A, Bx, da, db⟩ T' w' (.slice ka KL kc) ks (q + 1) ∧ Sty T2 W4 T' w') := HSC4.out.playsB (by have := HOL.out.1; have := HQB.out; omega) kind xs HOK.out.2.2.1 xk oa on oc ows HOK.out.1 HOK.out.2.2.2.2.1 HOK.out.2.1 (by have := HOK.out.2.2.2.2.2.1; omega) HOK.out.2.2.2.2.2.2 nn
              go_wp2_with fail
              refine HPL.out.mono ?_
              rintro e w5 ⟨rfl, T5, hsc5, hst5⟩
              obtain ⟨hh5, hp5, ho5⟩ := HH4.out.sty hst5 HPO.out.1 HPO.out.2
              have HSC5 := HID5 hsc5
              have HH5 := HID5 hh5
              have HPO5 : Hid (T5 P = 0 ∧ T5 O = 0) := ⟨hp5, ho5⟩
              clear hsc5 hst5 hh5 hp5 ho5 HPL HSC4 HH4 HPO hp0 hp1 ho0 ho1 ho2 ho3 ho4 hon5
              obtain ⟨hp0, hp1, ho0, ho1, ho2, ho3, ho4, hon5⟩ := HH5.out
              have HKP : Hid (Calls Try.prog 13 #[.agg #[.pointer (some ⟨Mb, 0, none⟩), .pointer (some ⟨Qb, 0, none⟩)], .agg #[.int .i64 kind, .bool true, .int .u64 xs, .string xk, .slice oa on oc, .int .i64 nn], .slice ka KL kc] w5 fun e w' => ∃ a' c' T' ks', e = .returned (.slice a' ks'.length c') ∧ Sx w0 ⟨R0, g1, NA, c1, g2, NB, c2, u0, u1, Ma, La, Qa, Ra, Mb, Lb, Qb, Rb, A, Bx, da, db⟩ T' w' (.slice a' ks'.length c') ks' (q + 1) ∧ Sty T5 w5 T' w') := HSC5.out.keepsB HKL.out.1 (by have := HKL.out.2; omega) (by have := HOL.out.1; have := HQB.out; omega) kind xs xk oa on oc ows HOK.out.2.2.2.2.1 nn
              go_wp2_with fail
              refine Calls.mono HKP.out ?_
              rintro e w6 ⟨a6, c6, T6, ks6, rfl, hsc6, hst6⟩
              obtain ⟨hh6, _, _⟩ := HH5.out.sty hst6 HPO5.out.1 HPO5.out.2
              generalize hKL6 : ks6.length = K6 at *
              have HKL6 : Hid (ks6.length = K6 ∧ K6 ≤ q + 1) := ⟨hKL6, by rw [← hKL6]; exact hsc6.facts.2.2.2.2.2.1⟩
              have HSC6 := HID5 hsc6
              have HH6 := HID5 hh6
              clear hsc6 hst6 hh6 hKL6 HKP HSC5 HH5 HPO5 hp0 hp1 ho0 ho1 ho2 ho3 ho4 hon5
              obtain ⟨hp0, hp1, ho0, ho1, ho2, ho3, ho4, hon5⟩ := HH6.out
              have zK6 : (K6 : Int) ≤ 10000 := by have := HKL6.out.2; have := HOL.out.1; have := HQB.out; omega
              by_cases hk11 : kind = 11
              · subst hk11
                by_cases hKL0 : 0 < K6
                · have zK : (0 : Int) < (K6 : Int) := by omega
                  have HPC : Hid (Calls Try.prog 14 #[.int .i64 nn, .int .i64 (K6 : Int)] w6 fun e w' => ∃ p : Nat, e = .returned (.int .i64 (p : Int)) ∧ p < K6 ∧ w' = w6) := place6 nn K6 w6 HOK.out.2.2.2.1.1 HOK.out.2.2.2.1.2 hKL0 (by omega)
                  clear hKL0
                  go_wp2_with (go_at_call 14; go_loud (refine Calls.mono HPC.out ?_; rintro e w7 ⟨p, rfl, hp, hw7⟩; have hw8 := hw7.symm; clear hw7; subst hw8; obtain ⟨gk, kM, kQ, kd, ksc, kxs, kxk, ksl, knn, kwh, kB, hgk, k0, k1, k2, k3, k4, k5, k6, k7, k8, ⟨ka1, kn1, kc1, hksl⟩, hnw⟩ := HSC6.out.late (by have := HOL.out.1; have := HQB.out; omega) (i := p) (by rw [HKL6.out.1]; exact hp); subst hgk; subst hksl; have HNW := HID5 hnw; have zp : (p : Int) < (K6 : Int) := (by omega); clear hnw HPC; obtain ⟨fk, hfk⟩ : ∃ fk, fvK kwh kB = fk := ⟨_, rfl⟩; rw [hfk] at k0 HNW; clear hfk))
                  refine Calls.mono HNW.out ?_
                  rintro e w8 ⟨rfl, hb8⟩
                  have HSC8 : Hid (Sx w0 ⟨R0, g1, NA, c1, g2, NB, c2, u0, u1, Ma, La, Qa, Ra, Mb, Lb, Qb, Rb, A, Bx, da, db⟩ T6 w8 (.slice (some ⟨gk, 0, none⟩) ks6.length c6) ks6 (q + 1)) := (by rw [HKL6.out.1]; exact HSC6.out.below hb8)
                  clear hb8 HNW k0 k1 k2 k3 k4 k5 k6 k7 k8 hp0 hp1 ho0 ho1 ho2 ho3 ho4 hon5
                  go_wp2
                  go_roundw
                  case rel => exact ⟨q + 1, T6, some ⟨gk, 0, none⟩, c6, ks6, by omega, by go_num, by rw [HKL6.out.1], HSC8⟩
                  case measure => simp [intOf]; omega
                · obtain rfl : K6 = 0 := by omega
                  have HSC8 : Hid (Sx w0 ⟨R0, g1, NA, c1, g2, NB, c2, u0, u1, Ma, La, Qa, Ra, Mb, Lb, Qb, Rb, A, Bx, da, db⟩ T6 w6 (.slice a6 ks6.length c6) ks6 (q + 1)) := (by rw [HKL6.out.1]; exact HSC6.out)
                  have e00 : ((0 : Nat) : Int) = 0 := rfl
                  clear hKL0
                  go_wp2
                  go_roundw
                  case rel => exact ⟨q + 1, T6, a6, c6, ks6, by omega, by go_num, by rw [HKL6.out.1], HSC8⟩
                  case measure => simp [intOf]; omega
              · have hk11b : (kind == 11) = false := by simpa using hk11
                have HSC8 : Hid (Sx w0 ⟨R0, g1, NA, c1, g2, NB, c2, u0, u1, Ma, La, Qa, Ra, Mb, Lb, Qb, Rb, A, Bx, da, db⟩ T6 w6 (.slice a6 ks6.length c6) ks6 (q + 1)) := (by rw [HKL6.out.1]; exact HSC6.out)
                clear hk11
                go_wp2
                go_roundw
                case rel => exact ⟨q + 1, T6, a6, c6, ks6, by omega, by go_num, by rw [HKL6.out.1], HSC8⟩
                case measure => simp [intOf]; omega
        · obtain rfl : q = NS := by omega
          generalize hKL : ks.length = KL at *
          have HKL : Hid (ks.length = KL ∧ KL ≤ 10000) := ⟨hKL, by have := HSC.out.facts.2.2.2.2.2.1; have := HOL.out.1; omega⟩
          have zKL : (KL : Int) ≤ 10000 := by have := HKL.out.2; omega
          clear hKL
          go_wp2
          go_loopw [17] (fun i wr => ∃ j : Nat, j ≤ KL ∧ i = .int .i64 (j : Int) ∧ Hid (Sx w0 ⟨R0, g1, NA, c1, g2, NB, c2, u0, u1, Ma, La, Qa, Ra, Mb, Lb, Qb, Rb, A, Bx, da, db⟩ T2 wr (.slice ka KL kc) ks q)) (fun i _ => KL - (intOf i).toNat)
          case atStart => exact ⟨0, Nat.zero_le _, rfl, HSC⟩
          case round =>
            clear HSC
            obtain ⟨j, hj, rfl, HSC⟩ := hrel
            rename World => wk
            by_cases hlj : j < KL
            · obtain ⟨gk, kM, kQ, kd, ksc, kxs, kxk, ksl, knn, kwh, kB, rfl, k0, k1, k2, k3, k4, k5, k6, k7, k8, ⟨ka1, kn1, kc1, rfl⟩, hnw⟩ := HSC.out.late HOL.out.1 (i := j) (by rw [HKL.out.1]; exact hlj)
              have HNW := HID5 hnw
              have zj : (j : Int) < (KL : Int) := by omega
              clear hnw
              obtain ⟨fk, hfk⟩ : ∃ fk, fvK kwh kB = fk := ⟨_, rfl⟩
              rw [hfk] at k0 HNW
              clear hfk
              go_wp2_with fail
              refine Calls.mono HNW.out ?_
              rintro e w8 ⟨rfl, hb8⟩
              have HSC8 : Hid (Sx w0 ⟨R0, g1, NA, c1, g2, NB, c2, u0, u1, Ma, La, Qa, Ra, Mb, Lb, Qb, Rb, A, Bx, da, db⟩ T2 w8 (.slice (some ⟨gk, 0, none⟩) KL kc) ks q) := HSC.out.below hb8
              clear hb8 HNW k0 k1 k2 k3 k4 k5 k6 k7 k8
              go_wp2
              go_roundw
              case rel => exact ⟨j + 1, by omega, by go_num, HSC8⟩
              case measure => simp [intOf]; omega
            · go_wp2
              go_loopw [18] (fun i wr => ∃ m : Nat, m ≤ NB ∧ i = .int .i64 (m : Int) ∧ Hid (Sx w0 ⟨R0, g1, NA, c1, g2, NB, c2, u0, u1, Ma, La, Qa, Ra, Mb, Lb, Qb, Rb, A, Bx, da, db⟩ T2 wr (.slice ka KL kc) ks q)) (fun i _ => NB - (intOf i).toNat)
              case atStart => exact ⟨0, Nat.zero_le _, rfl, HSC⟩
              case round =>
                clear HSC
                obtain ⟨m, hm, rfl, HSC⟩ := hrel
                rename World => wm
                by_cases hlm : m < NB
                · have hml : m < db.length := by rw [HN.out.2.2]; exact hlm
                  obtain ⟨b1, o1, rfl, hr1⟩ := (HO0.out.1.below HSC.out.facts.1).1 (by rintro rfl; simp at hml)
                  have x0 : wm.cell? ⟨g2, m, none⟩ = some (.int .u8 ((db.getD m 0 : Nat) : Int)) := by
                    have := HSC.out.facts.2.2.2.2.1.2 m (db.getD m 0) (by simp [hml])
                    rw [Nat.zero_add] at this
                    exact this
                  have x1 : wm.cell? ⟨b1, o1 + m, none⟩ = some (.int .u8 ((db.getD m 0 : Nat) : Int)) := hr1.2 m _ (by simp [hml])
                  have zm : (m : Int) < (NB : Int) := by omega
                  clear hml hr1
                  generalize db.getD m 0 = y at *
                  go_wp2
                  go_quiet (fail)
                  go_wp2
                  go_roundw
                  case rel => exact ⟨m + 1, by omega, by go_num, HSC.out.below (below_drewN (Below.refl _ _) _)⟩
                  case measure => simp [intOf]; omega
                · obtain ⟨xa0, xa1⟩ := HSC.out.facts.2.2.1
                  dsimp only at xa0 xa1
                  have HH1 : Hid (Calls Try.prog 16 #[.agg #[.pointer (some ⟨Ma, 0, none⟩), .pointer (some ⟨Qa, 0, none⟩)]] wm fun e w' => e = .returned (.bool true) ∧ Below wm.heap.size wm w') := HSC.out.holdsA HOL.out.1
                  go_wp2_with fail
                  refine Calls.mono HH1.out ?_
                  rintro e w8 ⟨rfl, hb8⟩
                  have HSC8 : Hid (Sx w0 ⟨R0, g1, NA, c1, g2, NB, c2, u0, u1, Ma, La, Qa, Ra, Mb, Lb, Qb, Rb, A, Bx, da, db⟩ T2 w8 (.slice ka KL kc) ks q) := HSC.out.below hb8
                  obtain ⟨xb0, xb1⟩ := HSC8.out.facts.2.2.2.1
                  dsimp only at xb0 xb1
                  have HH2 : Hid (Calls Try.prog 16 #[.agg #[.pointer (some ⟨Mb, 0, none⟩), .pointer (some ⟨Qb, 0, none⟩)]] w8 fun e w' => e = .returned (.bool true) ∧ Below w8.heap.size w8 w') := HSC8.out.holdsB HOL.out.1
                  clear hb8 HH1 xa0 xa1 HSC
                  go_wp2_with fail
                  refine Calls.mono HH2.out ?_
                  rintro e w9 ⟨rfl, hb9⟩
                  have HSC9 : Hid (Sx w0 ⟨R0, g1, NA, c1, g2, NB, c2, u0, u1, Ma, La, Qa, Ra, Mb, Lb, Qb, Rb, A, Bx, da, db⟩ T2 w9 (.slice ka KL kc) ks q) := HSC8.out.below hb9
                  have HHO : Hid (Calls Try.prog 17 #[.pointer (some ⟨R0, 0, none⟩)] w9 fun e w' => e = .returned (.bool true) ∧ w' = w9) := HSC9.out.hold
                  clear hb9 HH2 xb0 xb1 HSC8
                  go_wp2_with fail
                  refine Calls.mono HHO.out ?_
                  rintro e w10 ⟨rfl, hw10⟩
                  have HFI : Hid (Below w.heap.size w w10) := by rw [hw10]; exact keepB HSC9.out.facts.1 HOW.out
                  clear hw10
                  go_wp2
                  go_ret
                  exact ⟨rfl, HFI.out⟩
end MemAll
end Go.Proofs.Ytcioaoanhmpdkaa
