import Derived.Test.YtanpbknjnpmmnaaMt4
import Derived.Deep.DeepCutAuto
import Derived.Deep.RegionLaw
import Derived.Deep.RegionHeld3
import Derived.Deep.CutBlock
namespace Go.Proofs.Ytanpbknjnpmmnaa
namespace Mnf
open Go.RowKit CMath Byt Cod Crw Irw Laws
set_option linter.unusedVariables false
set_option linter.unusedSimpArgs false
set_option maxRecDepth 20000
theorem res_3 {fn : Func} {p u v : Tmp} (h : fn.results = #[.tmp u, .cell p 61, .tmp v]) (tmps : Array Value) (w : World) (B : Nat) (x y z : Nat) (o i q : Sv) (hp : tmps.getD p undef = .pointer (some ⟨B, 0, none⟩)) (hz : Zb w B (evC x y z o i q)) :
    (results fn tmps).run Try.prog w = .ok (.tuple #[tmps.getD u undef, evV x y z o i q, tmps.getD v undef]) w := by
  have c0 := hz.2.1 0 _ rfl
  have c1 := hz.2.1 1 _ rfl
  have c2 := hz.2.1 2 _ rfl
  have c3 := hz.2.1 3 _ rfl
  have c4 := hz.2.1 4 _ rfl
  have c5 := hz.2.1 5 _ rfl
  simp only [results, h]
  have hp' : tmps[p]?.getD undef = .pointer (some ⟨B, 0, none⟩) := by simpa using hp
  simp [Sem.run_bind, Result.andThen, hp', go_sem, c0, c1, c2, c3, c4, c5, evV]
def zV : List Value := [.int .u64 0, .int .u64 0, .int .u64 0, .slice none 0 0, .slice none 0 0, .slice none 0 0]
/-- a list that was made since w -/
def Nl {α : Type} (K : Knd α) (w w' : World) (s : Sv) (l : List α) : Prop := IsK K w' s.1 l ∧ s.2.1 = l.length ∧ (s.1 = none → s.2.2 = 0) ∧ l.length ≤ s.2.2 ∧ Fm s ∧ (∀ b off, s.1 = some ⟨b, off, none⟩ → w.heap.size ≤ b ∧ b < w'.heap.size) ∧ s.2.2 ≤ 9223372036854775807
/-- what Record answers -/
def recA (l : List Nat) : Option (Bool × Ed) := match l with
  | [] => none
  | x :: r => if x ≤ 1 then (recR r).map fun e => (decide (x = 1), e) else none
def RcIs (q : Option (Bool × Ed)) (w : World) (e : Ending) (w' : World) : Prop :=
  Below w.heap.size w w' ∧ ((∃ last ed o i p, q = some (last, ed) ∧ e = .returned (.tuple #[.bool last, evV ed.log ed.nxt ed.seq o i p, .bool true]) ∧ Nl kPl w w' o ed.out ∧ Nl kPd w w' i ed.inn ∧ Nl kT w w' p ed.ptr) ∨ (q = none ∧ e = .returned (.tuple #[.bool false, evV 0 0 0 nS nS nS, .bool false])))
theorem Nl.of {α : Type} {K : Knd α} {w wr : World} {T : Nat → Nat} {t : Nat} {s : Sv} {l : List α} (h : OwnK K t T wr (svV s) l) (hold : Old w T wr) (ht : t ≠ 0) : Nl K w wr s l := by
  obtain ⟨h1, h2, h3, h4, h5, h6⟩ := OwnK.sk h
  refine ⟨h2, h1, h4, h3, h5, fun b off e => ?_, own_cap h⟩
  obtain ⟨q1, q2⟩ := h6 b off e
  refine ⟨?_, q2⟩
  rcases Nat.lt_or_ge b w.heap.size with hl | hl
  · have := hold.zero b (.inl hl)
    omega
  · exact hl
set_option maxHeartbeats 2000000 in
theorem record_no (a : Option Addr) (cap n : Nat) (l : List Nat) (w : World) (h : IsB w a l) (hn : l.length = n) (hm : n ≤ 9223372036854775807) (hl : l = [] ∨ ∃ x r, l = x :: r ∧ 1 < x) :
    Calls Try.prog 15 #[.slice a n cap] w fun e w' => RcIs none w e w' := by
  have hb0 := (Below.refl w.heap.size w).alloc (Nat.le_refl _) (.cells #[.int .u64 0, .int .u64 0, .int .u64 0, .slice none 0 0, .slice none 0 0, .slice none 0 0] 61)
  have z0 := Zb.new w #[.int .u64 0, .int .u64 0, .int .u64 0, .slice none 0 0, .slice none 0 0, .slice none 0 0] 61
  have HZ : Hid (Zb (w.alloc (.cells #[.int .u64 0, .int .u64 0, .int .u64 0, .slice none 0 0, .slice none 0 0, .slice none 0 0] 61)) w.heap.size (evC 0 0 0 nS nS nS) ∧ Below w.heap.size w (w.alloc (.cells #[.int .u64 0, .int .u64 0, .int .u64 0, .slice none 0 0, .slice none 0 0, .slice none 0 0] 61))) := ⟨z0, hb0⟩
  rcases hl with rfl | ⟨x, r, rfl, hx⟩
  · obtain rfl : n = 0 := by simpa using hn.symm
    clear h hb0 z0
    go_enter Try.func15, Try.ntmps15
    go_wp2
    refine bodyPost_ret (res_3 rfl _ _ w.heap.size 0 0 0 nS nS nS (by rfl) HZ.out.1) rfl ?_
    exact ⟨HZ.out.2, .inr ⟨rfl, rfl⟩⟩
  · obtain ⟨b, off, rfl, hr⟩ := h.1 (by simp)
    have c0 : (w.alloc (.cells #[.int .u64 0, .int .u64 0, .int .u64 0, .slice none 0 0, .slice none 0 0, .slice none 0 0] 61)).cell? ⟨b, off, none⟩ = some (.int .u8 (x : Int)) := by
      have := (hr.below hb0 hr.1).2 0 x rfl
      simpa using this
    have hn0 : 0 < n := by rw [← hn]; simp
    have hx2 : (1 : Int) < (x : Int) := by omega
    have g0 : ¬ (n : Int) = 0 := by omega
    clear hr h hb0 z0 hn
    go_enter Try.func15, Try.ntmps15
    go_wp2
    refine bodyPost_ret (res_3 rfl _ _ w.heap.size 0 0 0 nS nS nS (by rfl) HZ.out.1) rfl ?_
    exact ⟨HZ.out.2, .inr ⟨rfl, rfl⟩⟩
theorem pV_cap (m : Nat) (st : Option (List Nat)) : pV (rdN m) 0 st ≤ m := by
  unfold pV
  cases st with
  | none => simp
  | some l =>
    rw [Option.bind_some]
    cases h : rdN m l with
    | none => simp
    | some x =>
      obtain ⟨n, r⟩ := x
      unfold rdN at h
      split at h
      · rename_i hc
        cases h
        exact hc.2
      · cases h
theorem lp_out {α β : Type} {o : List Nat → Option (α × List Nat)} {n k : Nat} {C : List α → List Nat → Option β} {xs : List α} {st : Option (List Nat)} {q : Option β} (h : q = st.bind (lp o (n - k) C xs)) (hx : n ≤ k ∨ st = none) : q = st.bind (C xs) := by
  rw [h]
  rcases hx with hx | hx
  · rw [Nat.sub_eq_zero_of_le hx, lp_done]
  · rw [hx]
    rfl
theorem pl_step {β : Type} {n k : Nat} {C : List Pl → List Nat → Option β} {xs : List Pl} {st : Option (List Nat)} {q : Option β} (h : q = st.bind (lp rdPl (n - k) C xs)) (hk : k < n) : q = (pS (rdN M64) (pS (rdN 4) st)).bind (lp rdPl (n - (k + 1)) C (xs ++ [(((pV (rdN 4) 0 st : Nat) : Int), pV (rdN M64) 0 (pS (rdN 4) st))])) := by
  rw [h, lp_step _ _ _ _ _ hk]
  exact pl_bind st (fun x r => lp rdPl (n - (k + 1)) C (xs ++ [x]) r)
theorem pd_step {β : Type} {n k : Nat} {C : List Pd → List Nat → Option β} {xs : List Pd} {st : Option (List Nat)} {q : Option β} (h : q = st.bind (lp rdPd (n - k) C xs)) (hk : k < n) : q = (d7 st).bind (lp rdPd (n - (k + 1)) C (xs ++ [dV st])) := by
  rw [h, lp_step _ _ _ _ _ hk]
  exact pd_bind st (fun x r => lp rdPd (n - (k + 1)) C (xs ++ [x]) r)
theorem k_step {β : Type} {n k : Nat} {C : List ByteArray → List Nat → Option β} {xs : List ByteArray} {st : Option (List Nat)} {q : Option β} (h : q = st.bind (lp rdK (n - k) C xs)) (hk : k < n) : q = (pS rdK st).bind (lp rdK (n - (k + 1)) C (xs ++ [pV rdK ⟨#[]⟩ st])) := by
  rw [h, lp_step _ _ _ _ _ hk]
  exact st_bind rdK ⟨#[]⟩ st (fun x r => lp rdK (n - (k + 1)) C (xs ++ [x]) r)
theorem RdAt.len {base R : Nat} {w : World} {l : List Nat} (h : RdAt base w R (some l)) : ∃ a c, w.cell? ⟨R, 0, none⟩ = some (.slice a l.length c) := by
  obtain ⟨a, l', c, bad, h1, h2, h3, h4, h5, h6⟩ := h
  cases bad with
  | true => simp at h6
  | false =>
    simp at h6
    subst h6
    exact ⟨a, c, h1.2.1 0 _ rfl⟩
theorem drew_cell (w : World) (p : Addr) : w.drew.cell? p = w.cell? p := rfl
theorem sets6 (w : World) (B : Nat) (v0 v1 v2 v3 v4 v5 : Value) : sets w B 0 [v0, v1, v2, v3, v4, v5] = (((((w.setCell ⟨B, 0, none⟩ v0).setCell ⟨B, 1, none⟩ v1).setCell ⟨B, 2, none⟩ v2).setCell ⟨B, 3, none⟩ v3).setCell ⟨B, 4, none⟩ v4).setCell ⟨B, 5, none⟩ v5 := rfl
theorem Rv.newX {w wr : World} {T : Nat → Nat} {R E B a b c : Nat} {st : Option (List Nat)} {o i p : Sv} {xo : List Pl} {xi : List Pd} {xp : List ByteArray} (h : Rv w T wr R E B st a b c o i p xo xi xp) (ob : Obj) : Rv w (upd T wr.heap.size 7) (wr.alloc ob) R E B st a b c o i p xo xi xp := by
  have hb : Below wr.heap.size wr (wr.alloc ob) := (Below.refl _ _).alloc (Nat.le_refl _) _
  exact h.goes (t := fun _ => False) ⟨hb.os, hb.tape, hb.output, hb.size, fun x hl _ => hb.block x hl, fun x hl _ => upd_other _ _ (by omega), fun x hl hh => by simp at hl; exact (upd_other _ _ (by omega)).trans hh⟩ id id id id id id id
theorem Rv.setX {w wr : World} {T : Nat → Nat} {R E B a b c X : Nat} {st : Option (List Nat)} {o i p : Sv} {xo : List Pl} {xi : List Pd} {xp : List ByteArray} (h : Rv w T wr R E B st a b c o i p xo xi xp) (hX : T X = 7) (j : Nat) (v : Value) : Rv w T (wr.setCell ⟨X, j, none⟩ v) R E B st a b c o i p xo xi xp :=
  h.goes (Goes.setCell (t := (· = 7)) hX) (by decide) (by decide) (by decide) (by decide) (by decide) (by decide) (by decide)
theorem Zb.call {wr w' : World} {R X : Nat} {vs : List Value} (h : Zb wr X vs) (hk : Keep [R] wr w') (hX : X ≠ R) : Zb w' X vs := h.keep (hk.block X h.1 (by simpa using hX)) hk.size
/-- behind the reader's making -/
theorem mt_start (w : World) (sa : Option Addr) (sc k : Nat) (r : List Nat) (h : IsB w sa r) (hk : k = r.length) (h1 : r.length ≤ sc) (h2 : sc ≤ 9223372036854775807) (h3 : ∀ b off, sa = some ⟨b, off, none⟩ → b < w.heap.size) (W1 : World) (hW : W1 = (w.alloc (.cells #[.int .u64 0, .int .u64 0, .int .u64 0, .slice none 0 0, .slice none 0 0, .slice none 0 0] 61)).alloc (.cells #[.slice sa k sc, .bool false] 79)) :
    RdAt w.heap.size W1 (w.heap.size + 1) (some r) ∧ Zb W1 w.heap.size (evC 0 0 0 nS nS nS) ∧ Below w.heap.size w W1 ∧ W1.heap.size = w.heap.size + 2 := by
  subst hk
  have hb0 := (Below.refl w.heap.size w).alloc (Nat.le_refl _) (.cells #[.int .u64 0, .int .u64 0, .int .u64 0, .slice none 0 0, .slice none 0 0, .slice none 0 0] 61)
  have z0 := Zb.new w #[.int .u64 0, .int .u64 0, .int .u64 0, .slice none 0 0, .slice none 0 0, .slice none 0 0] 61
  have s0 : (w.alloc (.cells #[.int .u64 0, .int .u64 0, .int .u64 0, .slice none 0 0, .slice none 0 0, .slice none 0 0] 61)).heap.size = w.heap.size + 1 := by simp
  generalize hQ : (w.alloc (.cells #[.int .u64 0, .int .u64 0, .int .u64 0, .slice none 0 0, .slice none 0 0, .slice none 0 0] 61)) = w0 at *
  clear hQ
  have hb1 := (Below.refl w0.heap.size w0).alloc (Nat.le_refl _) (.cells #[.slice sa r.length sc, .bool false] 79)
  have z1 := Zb.new w0 #[.slice sa r.length sc, .bool false] 79
  rw [← hW] at hb1 z1
  rw [s0] at z1
  refine ⟨⟨sa, r, sc, false, z1, (h.below hb0).below hb1, h1, h2, h3, rfl⟩, z0.below hb1, hb0.trans (hb1.mono (by omega)), ?_⟩
  rw [hW]
  simp
  omega
/-- behind the numbers ahead -/
theorem Rv.first {w W1 w3 W : World} {st : Option (List Nat)} {a b c : Nat} (h1 : RdAt w.heap.size w3 (w.heap.size + 1) st) (h2 : Zb W1 w.heap.size (evC 0 0 0 nS nS nS)) (h3 : Below w.heap.size w W1) (h4 : W1.heap.size = w.heap.size + 2) (hk : Keep [w.heap.size + 1] W1 w3) (hW : W = w3.alloc (.cells #[.int .u64 (a : Int), .int .u64 (b : Int), .int .u64 (c : Int), .slice none 0 0, .slice none 0 0, .slice none 0 0] 61)) :
    Rv w (upd (upd (upd (fun _ => 0) w.heap.size 3) (w.heap.size + 1) 1) w3.heap.size 2) W (w.heap.size + 1) w3.heap.size w.heap.size st a b c nS nS nS [] [] [] := by
  have s3 := hk.size
  have z3 := Zb.new w3 #[.int .u64 (a : Int), .int .u64 (b : Int), .int .u64 (c : Int), .slice none 0 0, .slice none 0 0, .slice none 0 0] 61
  have b3 := (Below.refl w3.heap.size w3).alloc (Nat.le_refl _) (.cells #[.int .u64 (a : Int), .int .u64 (b : Int), .int .u64 (c : Int), .slice none 0 0, .slice none 0 0, .slice none 0 0] 61)
  have sW : W.heap.size = w3.heap.size + 1 := by rw [hW]; simp
  rw [← hW] at z3 b3
  have hbw : Below w.heap.size w W := ⟨b3.os.trans (hk.os.trans h3.os), b3.tape.trans (hk.tape.trans h3.tape), b3.output.trans (hk.output.trans h3.output), by omega, fun i hi => (b3.block i (by omega)).trans ((hk.block i (by omega) (by simp; omega)).trans (h3.block i hi))⟩
  refine ⟨⟨hbw, fun x hx => ?_⟩, h1.keep (b3.block _ (by omega)) b3.size (fun x _ hl => b3.block x hl), ?_, z3, ?_, (h2.keep (hk.block _ (by omega) (by simp)) hk.size).below b3, ?_, OwnK.empty _ _ _, OwnK.empty _ _ _, OwnK.empty _ _ _⟩
  · have e1 : x ≠ w3.heap.size := by omega
    have e2 : x ≠ w.heap.size + 1 := by omega
    have e3 : x ≠ w.heap.size := by omega
    rw [upd_other _ _ e1, upd_other _ _ e2, upd_other _ _ e3]
  · rw [upd_other _ _ (by omega), upd_same]
  · rw [upd_same]
  · rw [upd_other _ _ (by omega), upd_other _ _ (by omega), upd_same]
end Mnf
end Go.Proofs.Ytanpbknjnpmmnaa
